/- event's Name and the document's: what each one tells. -/
import Derived.Test.YtemokpnepnmmkaaMk
import Derived.Test.YtemokpnepnmmkaaMe
import Derived.Test.YtemokpnepnmmkaaMm
namespace Go.Proofs.Ytemokpnepnmmkaa
open Go.RowKit
def nameL : List ByteArray := [⟨#[]⟩, ⟨#[114, 101, 97, 100]⟩, ⟨#[119, 114, 105, 116, 101]⟩, ⟨#[111, 112, 101, 110]⟩, ⟨#[99, 108, 111, 115, 101]⟩, ⟨#[112, 105, 112, 101]⟩, ⟨#[115, 112, 97, 119, 110]⟩, ⟨#[119, 97, 105, 116]⟩, ⟨#[99, 108, 111, 99, 107]⟩, ⟨#[108, 105, 115, 116]⟩, ⟨#[115, 116, 97, 116]⟩, ⟨#[99, 104, 100, 105, 114]⟩]
def nameT (i : Nat) : ByteArray := nameL.getD i ⟨#[]⟩
/-- A kind's name; none of another number. -/
def nameI (k : Int) : ByteArray := if 1 ≤ k ∧ k ≤ 11 then nameT k.toNat else ⟨#[]⟩
def nameCells : Array Value := (nameL.map Value.string).toArray
end Go.Proofs.Ytemokpnepnmmkaa
/- Layer 4's few; what an append leaves; bounds of rows. -/
namespace Go.Proofs.Ytemokpnepnmmkaa
open Go.RowKit
def fewEB (n : Nat) (l : List (List UInt8)) : Bool := l.all (fun r => decide (r.length ≤ 200)) && decide (n ≤ 30)
theorem few_of {n : Nat} {l : List (List UInt8)} (h : fewEB n l = true) : n ≤ 30 ∧ ∀ x ∈ l, x.length ≤ 200 := by
  unfold fewEB at h
  rw [Bool.and_eq_true, List.all_eq_true] at h
  exact ⟨by simpa using h.2, fun x hx => by simpa using h.1 x hx⟩
theorem textsB_le {l : List (List UInt8)} {M : Nat} (hM : M < 18446744073709551616) (h : ∀ x ∈ l, x.length ≤ M) : (textsB l).length ≤ l.length * (10 + M) := by
  induction l with
  | nil => simp [textsB]
  | cons x l ih =>
    have h1 := ih (fun y hy => h y (List.mem_cons_of_mem _ hy))
    have h2 := h x (List.mem_cons_self ..)
    have h3 : (textB x).length ≤ 10 + M := by
      rcases textB_len x with h | h
      · omega
      · omega
    rw [textsB_cons, List.length_append, List.length_cons, Nat.succ_mul]
    omega
/-- All blocks that were there are as they were, but those of S. -/
structure Keeps (S : Nat → Prop) (W W' : World) : Prop where
  size : W.heap.size ≤ W'.heap.size
  block : ∀ i, i < W.heap.size → ¬ S i → W'.heap[i]? = W.heap[i]?
section
variable {S : Nat → Prop} {W W' W'' : World}
theorem Keeps.of (h : Later W W') : Keeps S W W' := ⟨h.size, fun i hi _ => h.block i hi⟩
theorem Keeps.trans (h : Keeps S W W') (k : Keeps S W' W'') : Keeps S W W'' := ⟨Nat.le_trans h.size k.size, fun i hi hs => (k.block i (Nat.lt_of_lt_of_le hi h.size) hs).trans (h.block i hi hs)⟩
theorem Keeps.grew {base : Nat} {e : TypeId} {v v' : Value} {xs : List Value} (h : Grew W W' base e v v' xs) (hs : ∀ k, v.ownBlock = some k → S k) : Keeps S W W' :=
  ⟨h.grown.size, fun i hi hn => h.grown.block i hi (fun e => hn (hs i e.symm))⟩
theorem Keeps.cell (h : Keeps S W W') {p : Addr} {u : Value} (hn : ¬ S p.block) (hc : W.cell? p = some u) : W'.cell? p = some u := by
  have := h.block p.block (World.block_lt_of_cell? W p hc) hn
  rw [← hc]
  unfold World.cell?
  rw [this]
theorem Keeps.rd (h : Keeps S W W') {A : Option Addr} {n : Nat} {xs : List Value} (hr : Rd W W.heap.size A n xs) (hn : ∀ ad, A = some ad → ¬ S ad.block) : Rd W' W'.heap.size A n xs := by
  refine ⟨hr.1, fun h0 => ?_⟩
  obtain ⟨ad, e1, hb, hc⟩ := hr.2 h0
  exact ⟨ad, e1, Nat.lt_of_lt_of_le hb h.size, fun j u hu => h.cell (by rw [block_add]; exact hn ad e1) (hc j u hu)⟩
end
end Go.Proofs.Ytemokpnepnmmkaa
/- Chapter 4's example holds in any memory in which the table of names lies. -/
namespace Go.Proofs.Ytemokpnepnmmkaa
open Go.RowKit
namespace evEx
def ask8 : List UInt8 := [8, 0, 0, 0, 0]
def tell1 : List UInt8 := [1, 0, 0, 0, 1, 120, 0, 2]
theorem n1 {x : Nat} (h : x < 128) : numL x = [UInt8.ofNat x] := numL_lt h
theorem zz : zigN 0 = 0 := by decide
theorem ask_eq : askL 8 0 0 [] [] = ask8 := by
  unfold askL textB textsB ask8
  rw [zz]
  simp [n1]
theorem tell_eq : tellL 1 0 0 0 [120] [] 2 = tell1 := by
  unfold tellL textB textsB tell1
  rw [zz]
  simp [n1]
theorem askB_eq : askB 8 0 0 [] [] = ask8 := by
  have : rightB 8 ([] : List (List UInt8)).length = true := by decide
  unfold askB; rw [if_pos this]; exact ask_eq
theorem tellB_eq : tellB 1 0 0 0 [120] [] 2 = tell1 := by
  have : fitsB 1 1 0 2 ([] : List (List UInt8)).length = true := by decide
  unfold tellB; rw [if_pos this]; exact tell_eq
theorem asked8 : askedM ask8 = ((8, 0, 0, [], []), 0) := by
  have h := asked_all (k := 8) (n := 0) (m := 0) (t := []) (l := []) (by omega) (by rw [zz]; omega) (by rw [zz]; omega) (by simp) (by simp) (by simp) []
  rw [List.append_nil, ask_eq] at h
  rw [h]; simp
theorem told1 : toldM tell1 = ((1, 0, 0, 0, [120], [], 2), 0) := by
  have h := told_all (k := 1) (e := 0) (n := 0) (m := 0) (t := [120]) (l := []) (s := 2) (by omega) (by omega) (by rw [zz]; omega) (by rw [zz]; omega) (by simp) (by simp) (by simp) (by omega) []
  rw [List.append_nil, tell_eq] at h
  rw [h]; simp
theorem tell (W : World) : Calls Try.prog 23 #[.agg #[.int .i64 1, .int .i64 0, .int .i64 0, .int .i64 0, .string ⟨#[120]⟩, .slice none 0 0, .int .i64 2]] W fun e w' => ∃ A c, e = .returned (.slice A 8 c) ∧ Later W w' ∧ Rd w' w'.heap.size A 8 (tell1.map bv) := by
  refine (tell_v 1 0 0 0 [120] none 0 0 [] 2 W Rd.nil_ (by simp [textsB]) (by simp) (by omega) (by omega) (by omega) (by omega)).mono ?_
  rintro e w' ⟨v', rfl, hm⟩
  rw [tellB_eq] at hm
  obtain ⟨A, c, rfl, _, h⟩ := hm.slice
  exact ⟨A, c, rfl, hm.bel, h⟩
theorem told (A : Option Addr) (c : Nat) (W : World) (h : Rd W W.heap.size A 8 (tell1.map bv)) : Calls Try.prog 49 #[.slice A 8 c] W fun e w' => ∃ A' c', e = .returned (.tuple #[.agg #[.int .i64 1, .int .i64 0, .int .i64 0, .int .i64 0, .string ⟨#[120]⟩, .slice A' 0 c', .int .i64 2], .int .i64 0]) ∧ Later W w' := by
  refine (told_v A 8 c tell1 W h (by omega)).mono ?_
  rintro e w' ⟨k, e, n, m, t, l, s, A', c', f, rfl, he, _, _, hb, _⟩
  rw [told1] at he
  obtain ⟨⟨rfl, rfl, rfl, rfl, rfl, rfl, rfl⟩, rfl⟩ : (1 = k ∧ 0 = e ∧ 0 = n ∧ 0 = m ∧ [120] = t ∧ [] = l ∧ 2 = s) ∧ 0 = f := by simpa using he
  exact ⟨A', c', rfl, hb⟩
theorem fits (A : Option Addr) (c : Nat) (W : World) : Calls Try.prog 22 #[.int .i64 1, .agg #[.int .i64 1, .int .i64 0, .int .i64 0, .int .i64 0, .string ⟨#[120]⟩, .slice A 0 c, .int .i64 2]] W fun e w' => e = .returned (.bool true) ∧ Later W w' := by
  refine (fits_v 1 1 0 0 0 [120] A 0 c 2 W).mono ?_
  rintro e w' ⟨rfl, hb⟩
  exact ⟨rfl, hb⟩
abbrev qc (A : Option Addr) (c : Nat) : Array Value := #[.int .i64 8, .int .i64 0, .int .i64 0, .string ⟨#[]⟩, .slice A 0 c]
abbrev ac (A : Option Addr) (c : Nat) : Array Value := #[.int .i64 1, .int .i64 0, .int .i64 0, .int .i64 0, .string ⟨#[120]⟩, .slice A 0 c, .int .i64 2]
theorem acells (w : World) (A : Option Addr) (c : Nat) {W : World} (hb : Later (w.alloc (.cells (ac A c) 34)) W) : (W.cell? ⟨w.heap.size, 0, none⟩ = some (.int .i64 1) ∧ W.cell? ⟨w.heap.size, 1, none⟩ = some (.int .i64 0) ∧ W.cell? ⟨w.heap.size, 2, none⟩ = some (.int .i64 0) ∧ W.cell? ⟨w.heap.size, 3, none⟩ = some (.int .i64 0) ∧ W.cell? ⟨w.heap.size, 4, none⟩ = some (.string ⟨#[120]⟩) ∧ W.cell? ⟨w.heap.size, 5, none⟩ = some (.slice A 0 c) ∧ W.cell? ⟨w.heap.size, 6, none⟩ = some (.int .i64 2)) ∧ w.heap.size < W.heap.size := by
  obtain ⟨h, hz⟩ := one_cells w (ac A c) 34 (w1 := W) (by have := hb; unfold Later at this; rwa [World.size_alloc] at this)
  exact ⟨⟨h 0, h 1, h 2, h 3, h 4, h 5, h 6⟩, hz⟩
end evEx
end Go.Proofs.Ytemokpnepnmmkaa
/- What Asked, Told, Ask, Tell tell where the answer is known. -/
namespace Go.Proofs.Ytemokpnepnmmkaa
open Go.RowKit
theorem askL_parts (k : Nat) (n m : Int) (t : List UInt8) (l : List (List UInt8)) : (textsB l).length ≤ (askL k n m t l).length ∧ t.length ≤ (askL k n m t l).length := by
  unfold askL textB
  simp only [List.length_append]
  omega
theorem tellL_parts (k e : Nat) (n m : Int) (t : List UInt8) (l : List (List UInt8)) (s : Nat) : (textsB l).length ≤ (tellL k e n m t l s).length ∧ t.length ≤ (tellL k e n m t l s).length := by
  unfold tellL textB
  simp only [List.length_append]
  omega
theorem asked_err {bs : List UInt8} (h : (askedM bs).2 ≠ 0) : (askedM bs).1 = noAsked := by
  unfold askedM at h ⊢
  dsimp only at h ⊢
  split
  · rfl
  · rename_i h1
    rw [if_neg h1] at h
    split
    · rfl
    · rename_i h2
      rw [if_neg h2] at h
      split
      · rfl
      · rename_i h3
        rw [if_neg h3] at h
        split
        · rfl
        · rename_i h4
          rw [if_neg h4] at h
          exact absurd rfl h
theorem told_err {bs : List UInt8} (h : (toldM bs).2 ≠ 0) : (toldM bs).1 = noTold := by
  unfold toldM at h ⊢
  dsimp only at h ⊢
  split
  · rfl
  · rename_i h1
    rw [if_neg h1] at h
    split
    · rfl
    · rename_i h2
      rw [if_neg h2] at h
      split
      · rfl
      · rename_i h3
        rw [if_neg h3] at h
        split
        · rfl
        · rename_i h4
          rw [if_neg h4] at h
          exact absurd rfl h
theorem toldK {bs : List UInt8} {k e f s : Nat} {n m : Int} {t : List UInt8} {l : List (List UInt8)} (he : toldM bs = ((k, e, n, m, t, l, s), f)) (A : Option Addr) (n0 cap : Nat) (w : World) (hr : Rd w w.heap.size A n0 (bs.map bv)) (hn : n0 ≤ 140737488351232) :
    Calls Try.prog 49 #[.slice A n0 cap] w fun r w' => ∃ (A' : Option Addr) (c' : Nat), r = .returned (.tuple #[.agg #[.int .i64 (k : Int), .int .i64 (e : Int), .int .i64 n, .int .i64 m, .string (mkS t), .slice A' l.length c', .int .i64 (s : Int)], .int .i64 (f : Int)]) ∧ Rd w' w'.heap.size A' l.length (l.map sv) ∧ l.length ≤ c' ∧ Later w w' ∧ (∀ ad, A' = some ad → w.heap.size ≤ ad.block) := by
  refine (told_v A n0 cap bs w hr hn).mono ?_
  rintro r w' ⟨k', e', n', m', t', l', s', A', c', f', rfl, h, h1, h2, h3, h4⟩
  rw [he] at h
  simp only [Prod.mk.injEq] at h
  obtain ⟨⟨rfl, rfl, rfl, rfl, rfl, rfl, rfl⟩, rfl⟩ := h
  exact ⟨A', c', rfl, h1, h2, h3, h4⟩
theorem tellK {bs : List UInt8} {k e s : Nat} {n m : Int} {t : List UInt8} {l : List (List UInt8)} (he : toldM bs = ((k, e, n, m, t, l, s), 0)) (hb : bs.length ≤ 3000) (A : Option Addr) (cap : Nat) (w : World) (hr : Rd w w.heap.size A l.length (l.map sv)) :
    Calls Try.prog 23 #[.agg #[.int .i64 (k : Int), .int .i64 (e : Int), .int .i64 n, .int .i64 m, .string (mkS t), .slice A l.length cap, .int .i64 (s : Int)]] w fun r w' => ∃ A' c', r = .returned (.slice A' bs.length c') ∧ Later w w' ∧ Rd w' w'.heap.size A' bs.length (bs.map bv) := by
  obtain ⟨k', e', n', m', t', l', s', h1, h2, hk, hee, hs, hl, hn, hm, hx⟩ := told_own (bs := bs) (by rw [he])
  rw [he] at h1
  simp only [Prod.mk.injEq, and_true] at h1
  obtain ⟨rfl, rfl, rfl, rfl, rfl, rfl, rfl⟩ := h1
  have hp := tellL_parts k e n m t l s
  rw [← h2] at hp
  refine (tell_v (k : Int) (e : Int) n m t A l.length cap l (s : Int) w hr (by omega) (by omega) hn.1 hn.2 hm.1 hm.2).mono ?_
  rintro r w' ⟨v', rfl, hM⟩
  have ha : tellB (k : Int) (e : Int) n m t l (s : Int) = bs := by
    have hrt : fitsB (k : Int) (k : Int) (e : Int) (s : Int) l.length = true := decide_eq_true (by omega)
    unfold tellB
    rw [if_pos hrt, h2]
    rfl
  rw [ha] at hM
  obtain ⟨A', c', rfl, _, h⟩ := hM.slice
  exact ⟨A', c', rfl, hM.bel, h⟩
theorem fitsK {bs : List UInt8} {k e s : Nat} {n m : Int} {t : List UInt8} {l : List (List UInt8)} (he : toldM bs = ((k, e, n, m, t, l, s), 0)) (A : Option Addr) (cap : Nat) (w : World) :
    Calls Try.prog 22 #[.int .i64 (k : Int), .agg #[.int .i64 (k : Int), .int .i64 (e : Int), .int .i64 n, .int .i64 m, .string (mkS t), .slice A l.length cap, .int .i64 (s : Int)]] w fun r w' => r = .returned (.bool true) ∧ Later w w' := by
  obtain ⟨k', e', n', m', t', l', s', h1, h2, hk, hee, hs, hl, hn, hm, hx⟩ := told_own (bs := bs) (by rw [he])
  rw [he] at h1
  simp only [Prod.mk.injEq, and_true] at h1
  obtain ⟨rfl, rfl, rfl, rfl, rfl, rfl, rfl⟩ := h1
  refine (fits_v (k : Int) (k : Int) (e : Int) n m t A l.length cap (s : Int) w).mono ?_
  rintro r w' ⟨rfl, hb⟩
  exact ⟨ret_bool (decide_eq_true (by omega)), hb⟩
abbrev qC (k n m : Int) (t : List UInt8) (A : Option Addr) (a c : Nat) : Array Value := #[.int .i64 k, .int .i64 n, .int .i64 m, .string (mkS t), .slice A a c]
abbrev aC (k e n m : Int) (t : List UInt8) (A : Option Addr) (a c : Nat) (s : Int) : Array Value := #[.int .i64 k, .int .i64 e, .int .i64 n, .int .i64 m, .string (mkS t), .slice A a c, .int .i64 s]
theorem acellsK (w : World) (k e n m : Int) (t : List UInt8) (A : Option Addr) (a c : Nat) (s : Int) {W : World} (hb : Later (w.alloc (.cells (aC k e n m t A a c s) 34)) W) : W.cell? ⟨w.heap.size, 0, none⟩ = some (.int .i64 k) ∧ W.cell? ⟨w.heap.size, 1, none⟩ = some (.int .i64 e) ∧ W.cell? ⟨w.heap.size, 2, none⟩ = some (.int .i64 n) ∧ W.cell? ⟨w.heap.size, 3, none⟩ = some (.int .i64 m) ∧ W.cell? ⟨w.heap.size, 4, none⟩ = some (.string (mkS t)) ∧ W.cell? ⟨w.heap.size, 5, none⟩ = some (.slice A a c) ∧ W.cell? ⟨w.heap.size, 6, none⟩ = some (.int .i64 s) := by
  obtain ⟨h, _⟩ := one_cells w (aC k e n m t A a c s) 34 (w1 := W) (by have := hb; unfold Later at this; rwa [World.size_alloc] at this)
  exact ⟨h 0, h 1, h 2, h 3, h 4, h 5, h 6⟩
end Go.Proofs.Ytemokpnepnmmkaa
