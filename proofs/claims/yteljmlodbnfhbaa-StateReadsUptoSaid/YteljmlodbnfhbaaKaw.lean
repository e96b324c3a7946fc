/- The document's example holds. No premises. -/
import Derived.Test.YteljmlodbnfhbaaKsm
import Derived.Test.YteljmlodbnfhbaaKh
namespace Go.Proofs.Yteljmlodbnfhbaa
open Go.RowKit
namespace Ks
set_option maxRecDepth 100000
theorem unp_put {a : St} (h : stC.ok a) : unp (stC.put a) = .ok a := by
  have h1 := stC.back [] h
  rw [List.append_nil] at h1
  unfold unp
  rw [h1]
def kz : Kp := ⟨[], [], 0, [], [], [], []⟩
def qz : Rq := ⟨0, 0, 0, [], []⟩
def az : An := ⟨0, 0, 0, 0, [], [], 0⟩
def sz : St := ⟨kz, [], [], qz, az, [], 0, 0, 0, false, false, false, 0⟩
def fx : Fm := ⟨1, 0, 0, 0, 0, true, 0, 0, [], [-3], [], [], kz⟩
def sx : St := ⟨kz, [[97]], [fx], qz, az, [2], 0, 0, 0, false, false, false, 0⟩
theorem I64.zero : I64 0 := ⟨by omega, by omega⟩
theorem row_ok0 {α : Type} (c : Cd α) : (Ks.row c).ok [] := ⟨by simp, fun _ h => absurd h List.not_mem_nil⟩
theorem txt_ok0 : txt.ok [] := by show ([] : B).length < _; simp
theorem kz_ok : kpC.ok kz := ⟨⟨row_ok0 _, row_ok0 _, I64.zero, txt_ok0⟩, row_ok0 _, row_ok0 _, row_ok0 _⟩
theorem qz_ok : rqC.ok qz := ⟨I64.zero, I64.zero, I64.zero, txt_ok0, row_ok0 _⟩
theorem az_ok : anC.ok az := ⟨I64.zero, I64.zero, I64.zero, I64.zero, txt_ok0, row_ok0 _, I64.zero⟩
theorem sz_ok : stC.ok sz := ⟨kz_ok, row_ok0 _, row_ok0 _, qz_ok, az_ok, row_ok0 _, I64.zero, I64.zero, I64.zero, trivial, trivial, trivial, I64.zero⟩
theorem row_ok1 {α : Type} (c : Cd α) {a : α} (h : c.ok a) : (Ks.row c).ok [a] := ⟨by simp, fun x hx => by rw [List.mem_singleton.1 hx]; exact h⟩
theorem fx_ok : fmC.ok fx := ⟨⟨by show (-9223372036854775808 : Int) ≤ 1; omega, by show (1 : Int) ≤ 9223372036854775807; omega⟩, I64.zero, I64.zero, I64.zero, I64.zero, trivial, I64.zero, I64.zero, txt_ok0, row_ok1 num ⟨by omega, by omega⟩, row_ok0 _, row_ok0 _, kz_ok⟩
theorem sx_ok : stC.ok sx := ⟨kz_ok, row_ok1 txt (by show ([97] : B).length < _; simp), row_ok1 fmC fx_ok, qz_ok, az_ok, row_ok1 num ⟨by omega, by omega⟩, I64.zero, I64.zero, I64.zero, trivial, trivial, trivial, I64.zero⟩
theorem numP_0 : numP 0 = [0] := by unfold numP zig; rw [show (if (0 : Int) < 0 then 2 * -((0 : Int) + 1) + 1 else 2 * 0).toNat = 0 by decide]; unfold numL; rfl
theorem sz_len : (stC.put sz).length = 29 := by decide +kernel
theorem sx_ne : stC.put sx ≠ stC.put sz := by decide +kernel
theorem sx_len : (stC.put sx).length ≤ 1000 := by decide +kernel
theorem rrow0 {α : Type} (r : Rp α) (w : World) (n : Nat) : (rrow r).C w n [.slice none 0 0] [] := ⟨none, 0, rfl, Nat.le_refl _, by omega, Row.nil _ _ _⟩
theorem kz_C (w : World) (n : Nat) : kpR.C w n zKeep kz := ⟨zEnv, [.slice none 0 0, .slice none 0 0, .slice none 0 0], rfl, ⟨[.slice none 0 0], [.slice none 0 0, .int .i64 0, .string ⟨#[]⟩], rfl, rrow0 _ _ _, [.slice none 0 0], [.int .i64 0, .string ⟨#[]⟩], rfl, rrow0 _ _ _, [.int .i64 0], [.string ⟨#[]⟩], rfl, ⟨rfl, I64.zero⟩, rfl, by show ([] : B).length ≤ _; simp⟩, [.slice none 0 0], [.slice none 0 0, .slice none 0 0], rfl, rrow0 _ _ _, [.slice none 0 0], [.slice none 0 0], rfl, rrow0 _ _ _, rrow0 _ _ _⟩
theorem qz_C (w : World) (n : Nat) : rqR.C w n zReq qz := ⟨[.int .i64 0], _, rfl, ⟨rfl, I64.zero⟩, [.int .i64 0], _, rfl, ⟨rfl, I64.zero⟩, [.int .i64 0], _, rfl, ⟨rfl, I64.zero⟩, [.string ⟨#[]⟩], _, rfl, ⟨rfl, by show ([] : B).length ≤ _; simp⟩, rrow0 _ _ _⟩
theorem az_C (w : World) (n : Nat) : anR.C w n zAns az := ⟨[.int .i64 0], _, rfl, ⟨rfl, I64.zero⟩, [.int .i64 0], _, rfl, ⟨rfl, I64.zero⟩, [.int .i64 0], _, rfl, ⟨rfl, I64.zero⟩, [.int .i64 0], _, rfl, ⟨rfl, I64.zero⟩, [.string ⟨#[]⟩], _, rfl, ⟨rfl, by show ([] : B).length ≤ _; simp⟩, [.slice none 0 0], _, rfl, rrow0 _ _ _, rfl, I64.zero⟩
/-- The cells of a state that has three rows alone. -/
theorem st_C {w : World} {n : Nat} {v1 v2 v3 : Value} {p : List B} {k : List Fm} {g : List Int} (h1 : txtsR.C w n [v1] p) (h2 : (rrow fmR).C w n [v2] k) (h3 : (rrow rnum).C w n [v3] g) : stR.C w n (zKeep ++ ([v1] ++ ([v2] ++ (zReq ++ (zAns ++ ([v3] ++ [.int .i64 0, .int .i64 0, .int .i64 0, .bool false, .bool false, .bool false, .int .i64 0])))))) ⟨kz, p, k, qz, az, g, 0, 0, 0, false, false, false, 0⟩ :=
  ⟨zKeep, _, rfl, kz_C w n, [v1], _, rfl, h1, [v2], _, rfl, h2, zReq, _, rfl, qz_C w n, zAns, _, rfl, az_C w n, [v3], _, rfl, h3, [.int .i64 0], _, rfl, ⟨rfl, I64.zero⟩, [.int .i64 0], _, rfl, ⟨rfl, I64.zero⟩, [.int .i64 0], _, rfl, ⟨rfl, I64.zero⟩, [.bool false], _, rfl, rfl, [.bool false], _, rfl, rfl, [.bool false], _, rfl, rfl, rfl, I64.zero⟩
theorem sz_C (w : World) (n : Nat) : stR.C w n zState sz := st_C (rrow0 _ _ _) (rrow0 _ _ _) (rrow0 _ _ _)
/-- A row of one thing, that lies in a block of its own. -/
theorem rrow1 {α : Type} {r : Rp α} {w : World} {b n : Nat} {cs : List Value} {ty : TypeId} {a : α} (hb : w.heap[b]? = some (.cells cs.toArray ty (0, 0))) (hn : b < n) (h : r.C w n cs a) : (rrow r).C w n [.slice (some ⟨b, 0, none⟩) 1 1] [a] :=
  ⟨_, 1, rfl, Nat.le_refl _, by omega, [cs], rfl, ⟨by simpa using r.len h, fun _ => ⟨_, rfl, hn, fun j u hu => by
    rw [add_lit0, (cell_row hb j).1]; simpa using hu⟩⟩, fun k x a' hx ha => by
    match k, hx, ha with
    | 0, hx, ha => cases hx; cases ha; exact h⟩
end Ks
end Go.Proofs.Yteljmlodbnfhbaa
