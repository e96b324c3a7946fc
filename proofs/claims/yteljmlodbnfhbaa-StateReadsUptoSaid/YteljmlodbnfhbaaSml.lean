/- Small words over the program that the walks of every layer share: what a byte's type holds, a slice of the call's own, a text of one byte. No premises. -/
import Derived.Test.YteljmlodbnfhbaaProg
import Derived.Test.YteljmlodbnfhbaaBase
import Derived.Lib.SmallJoins
namespace Go.Proofs.Yteljmlodbnfhbaa
open Go.RowKit
/-- []byte of a constant: the row gets a mark behind its last cell. -/
theorem conv_const (W : World) (C : Array Value) (n c g : Nat) (h : g = W.heap.size) : (convert 43 43 (.slice (some ⟨g, 0, none⟩) n c)).run Try.prog (W.alloc (.cells C 5)) = .ok (.slice (some ⟨g, 0, none⟩) n c) (W.alloc (.cells C 5 (C.size, C.size + 1))) :=
  Joins.run_convert_bytes_const_at W 43 5 C n c g h Try.underlying43 Try.underlying5
theorem Rd.litF (w : World) (e : TypeId) (fr : Nat × Nat) (cs : List Value) : Rd (w.alloc (.cells cs.toArray e fr)) (w.heap.size + 1) (some ⟨w.heap.size, 0, none⟩) cs.length cs :=
  ⟨rfl, fun _ => ⟨_, rfl, Nat.lt_succ_self _, fun j u hu => by
    rw [add_lit0, cell_of_row _ _ j cs.toArray e fr (heap_alloc_new w _)]
    simpa using hu⟩⟩
theorem info_u8 : (Try.prog.info? 5).map (fun i => (i.zero, i.size, i.bytes)) = some (some (.int .u8 0), 1, 1) := by kernel_rfl
theorem size_toList (s : ByteArray) : s.data.toList.length = s.size := rfl
theorem sget (s : ByteArray) (k : Nat) (h : k < s.size) : s.data.toList[k]'h = s[k] := by
  rw [Array.getElem_toList]; rfl
theorem own_slice {w : World} {base n : Nat} {e : TypeId} {v : Value} {xs : List Value} (h : w.ownsRow base e 1 v n xs) :
    ∃ A c, v = .slice A n c ∧ n ≤ c ∧ Rd w w.heap.size A n xs ∧ (∀ ad, A = some ad → base ≤ ad.block ∧ ad.block < w.heap.size) := by
  rcases h.2 with ⟨rfl, rfl⟩ | ⟨g, cap, cur, rfl, hb, hh, hnc, _⟩
  · exact ⟨none, 0, rfl, Nat.le_refl _, by have := h.1; simp at this; subst this; exact Rd.nil_, fun ad h => by cases h⟩
  · exact ⟨_, _, rfl, hnc, Rd.of_own h, fun ad he => by injection he with he; subst he; exact ⟨hb, (Array.getElem?_eq_some_iff.1 hh).1⟩⟩
theorem own_map {α : Type} {f : α → Value} {w : World} {base : Nat} {e : TypeId} {v : Value} {xs : List α} (h : w.ownsRow base e 1 v (xs.map f).length (xs.map f)) :
    ∃ A c, v = .slice A xs.length c ∧ xs.length ≤ c ∧ Rd w w.heap.size A xs.length (xs.map f) ∧ (∀ ad, A = some ad → base ≤ ad.block ∧ ad.block < w.heap.size) := by
  rw [List.length_map] at h
  exact own_slice h
theorem str1 (W : World) (n : Nat) (h : n < 256) (cap : Nat) : (convert 43 9 (.slice (some ⟨W.heap.size, 0, none⟩) 1 cap)).run Try.prog (W.alloc (.cells #[.int .u8 (n : Int)] 5)) = .ok (.string (mkS [UInt8.ofNat n])) (W.alloc (.cells #[.int .u8 (n : Int)] 5)) := by
  refine run_str_of (bs := [UInt8.ofNat n]) (B := W.heap.size + 1) ⟨rfl, fun _ => ⟨_, rfl, Nat.lt_succ_self _, fun j y hy => ?_⟩⟩ _ _ 5 Try.underlying43 Try.underlying5 Try.underlying9 cap
  match j, hy with
  | 0, hy => simp only [List.map_cons, List.map_nil, List.getElem?_cons_zero, Option.some.injEq, bv, show (UInt8.ofNat n).toNat = n by simp; omega] at hy; subst hy; simp [Addr.add]
/-- A slice of slices of bytes that reads as ls; what it leads to lies below block B. -/
def RdL (w : World) (B : Nat) (A : Option Addr) (n : Nat) (ls : List (List UInt8)) : Prop :=
  ls.length = n ∧ ∀ (j : Nat) (h : j < ls.length), ∃ ad A' n' c', A = some ad ∧ ad.block < B ∧ w.cell? (ad.add j) = some (.slice A' n' c') ∧ Rd w B A' n' (ls[j].map bv) ∧ n' ≤ maxLen
theorem RdL.one {w : World} {B : Nat} {A : Option Addr} {n c : Nat} {l : List UInt8} (h : Rd w B A n (l.map bv)) (hB : B ≤ w.heap.size) (h1 : n ≤ maxLen) (e : TypeId) :
    RdL (w.alloc (.cells #[.slice A n c] e)) (w.heap.size + 1) (some ⟨w.heap.size, 0, none⟩) 1 [l] := by
  refine ⟨rfl, fun j hj => ?_⟩
  have hj0 : j = 0 := by simpa using hj
  subst hj0
  refine ⟨_, A, n, c, rfl, Nat.lt_succ_self _, ?_, (h.below ((Below.refl B w).alloc hB _)).more (by omega), h1⟩
  obtain ⟨ad, e1, _, e3⟩ := (Rd.lit w e [.slice A n c]).2 (by simp)
  injection e1 with e1
  subst e1
  exact e3 0 _ rfl
theorem RdL.keep {w w' : World} {B : Nat} {A : Option Addr} {n : Nat} {ls : List (List UInt8)} (h : RdL w B A n ls) (hb : Below B w w') : RdL w' B A n ls := by
  refine ⟨h.1, fun j hj => ?_⟩
  obtain ⟨ad, A', n', c', rfl, h1, h2, h3, h4⟩ := h.2 j hj
  exact ⟨ad, A', n', c', rfl, h1, (hb.cell (by rw [block_add]; exact h1)).trans h2, h3.below hb, h4⟩
theorem RdL.two {w : World} {B B' : Nat} {A A' : Option Addr} {n n' c c' : Nat} {l l' : List UInt8} (h : Rd w B A n (l.map bv)) (h' : Rd w B' A' n' (l'.map bv)) (hB : B ≤ w.heap.size) (hB' : B' ≤ w.heap.size) (h1 : n ≤ maxLen) (h1' : n' ≤ maxLen) (e : TypeId) :
    RdL (w.alloc (.cells #[.slice A n c, .slice A' n' c'] e)) (w.heap.size + 1) (some ⟨w.heap.size, 0, none⟩) 2 [l, l'] := by
  obtain ⟨ad, e1, _, e3⟩ := (Rd.lit w e [.slice A n c, .slice A' n' c']).2 (by simp)
  injection e1 with e1
  subst e1
  refine ⟨rfl, fun j hj => ?_⟩
  have hc : j = 0 ∨ j = 1 := by simp at hj; omega
  rcases hc with rfl | rfl
  · exact ⟨_, A, n, c, rfl, Nat.lt_succ_self _, e3 0 _ rfl, (h.below ((Below.refl B w).alloc hB _)).more (by omega), h1⟩
  · exact ⟨_, A', n', c', rfl, Nat.lt_succ_self _, e3 1 _ rfl, (h'.below ((Below.refl B' w).alloc hB' _)).more (by omega), h1'⟩
end Go.Proofs.Yteljmlodbnfhbaa
