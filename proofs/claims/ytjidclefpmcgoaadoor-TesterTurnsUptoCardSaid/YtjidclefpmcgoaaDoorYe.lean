/- Texts as numbers by the document: mathematics. No premises. -/
import Derived.Test.YtjidclefpmcgoaaDoorYd
namespace Go.Proofs.YtjidclefpmcgoaaDoor
open Go.RowKit Go.Maps
namespace Ar
/-- A digit's worth by the document; 16: it is none. -/
def dR (c : UInt8) : Nat := if 48 ≤ c.toNat ∧ c.toNat ≤ 57 then c.toNat - 48 else if 97 ≤ c.toNat ∧ c.toNat ≤ 102 then c.toNat - 87 else if 65 ≤ c.toNat ∧ c.toNat ≤ 70 then c.toNat - 55 else 16
set_option maxRecDepth 100000 in
theorem dR_tab : ∀ i : _root_.Fin 256, isD 8 (UInt8.ofNat i.1) = decide (dR (UInt8.ofNat i.1) < 8) ∧ isD 10 (UInt8.ofNat i.1) = decide (dR (UInt8.ofNat i.1) < 10) ∧ isD 16 (UInt8.ofNat i.1) = decide (dR (UInt8.ofNat i.1) < 16) ∧ (dR (UInt8.ofNat i.1) < 16 → dv (UInt8.ofNat i.1) = dR (UInt8.ofNat i.1)) ∧ dR (UInt8.ofNat i.1) ≤ 16 := by decide +kernel
theorem dR_all (c : UInt8) : isD 8 c = decide (dR c < 8) ∧ isD 10 c = decide (dR c < 10) ∧ isD 16 c = decide (dR c < 16) ∧ (dR c < 16 → dv c = dR c) ∧ dR c ≤ 16 := by
  have h := dR_tab ⟨c.toNat, UInt8.toNat_lt c⟩
  rwa [show UInt8.ofNat c.toNat = c from UInt8.ofNat_toNat] at h
theorem dR_is {b : Nat} (hb : b = 8 ∨ b = 10 ∨ b = 16) (c : UInt8) : isD b c = decide (dR c < b) := by
  rcases hb with rfl | rfl | rfl
  · exact (dR_all c).1
  · exact (dR_all c).2.1
  · exact (dR_all c).2.2.1
/-- Digits of base b, none of them among them. -/
def numB (b : Nat) (d : L) : Option Nat := if NumB b d then some (val b d) else none
theorem pre1 (l : L) (a : UInt8) : Lib.hasPrefix l [a] = true ↔ ∃ r, l = a :: r := by
  rcases l with _ | ⟨c, r⟩
  · simp [Lib.hasPrefix]
  · constructor
    · intro h
      have h1 : (a == c && [].isPrefixOf r) = true := h
      simp at h1
      exact ⟨r, by rw [h1]⟩
    · rintro ⟨q, hq⟩
      injection hq with h1 h2
      subst h1
      show (c == c && [].isPrefixOf r) = true
      simp
theorem pre2 (l : L) (a b : UInt8) : Lib.hasPrefix l [a, b] = true ↔ ∃ r, l = a :: b :: r := by
  rcases l with _ | ⟨c, _ | ⟨d, r⟩⟩
  · simp [Lib.hasPrefix]
  · simp [Lib.hasPrefix, List.isPrefixOf]
  · constructor
    · intro h
      have h1 : (a == c && (b == d && [].isPrefixOf r)) = true := h
      simp at h1
      exact ⟨r, by rw [h1.1, h1.2]⟩
    · rintro ⟨q, hq⟩
      injection hq with h1 h2
      injection h2 with h2 h3
      subst h1 h2
      show (c == c && (d == d && [].isPrefixOf r)) = true
      simp
theorem val_zero (b : Nat) (r : L) : val b (48 :: r) = val b r := by
  unfold val
  rw [List.foldl_cons]
  rw [show 0 * b + dv 48 = 0 by rw [Nat.zero_mul]; rfl]
theorem numB_zero (r : L) : NumB 8 (48 :: r) ↔ NumB 8 r := by
  unfold NumB
  rw [val_zero, List.all_cons, show isD 8 48 = true by rfl, Bool.true_and]
theorem bad_x (r : L) : ¬ NumB 8 (120 :: r) := fun h => by
  have := h.1
  rw [List.all_cons, show isD 8 120 = false by rfl] at this
  cases this
theorem bad_X (r : L) : ¬ NumB 8 (88 :: r) := fun h => by
  have := h.1
  rw [List.all_cons, show isD 8 88 = false by rfl] at this
  cases this
theorem hp_false {l p : L} (h : ¬ Lib.hasPrefix l p = true) : Lib.hasPrefix l p = false := Bool.eq_false_iff.2 h
/-- The document's digits: 16. -/
theorem ref16 (c : UInt8) (hc : c = 120 ∨ c = 88) (d : UInt8) (r : L) : num (48 :: c :: d :: r) = numB 16 (d :: r) := by
  rw [num_x]
  unfold numB
  rcases hc with rfl | rfl
  · rw [if_pos ((pre2 _ _ _).2 ⟨_, rfl⟩)]
    simp
  · by_cases h : Lib.hasPrefix (48 :: 88 :: d :: r) [48, 120] = true
    · obtain ⟨q, hq⟩ := (pre2 _ _ _).1 h
      simp at hq
    · rw [if_neg h, if_pos ((pre2 _ _ _).2 ⟨_, rfl⟩)]
      simp
/-- 8. -/
theorem ref8 (c : UInt8) (r : L) (h : ¬ (r ≠ [] ∧ (c = 120 ∨ c = 88))) : num (48 :: c :: r) = numB 8 (c :: r) := by
  rw [num_x]
  unfold numB
  by_cases h1 : Lib.hasPrefix (48 :: c :: r) [48, 120] = true
  · rw [if_pos h1]
    obtain ⟨q, hq⟩ := (pre2 _ _ _).1 h1
    simp only [List.cons.injEq, true_and] at hq
    obtain ⟨rfl, rfl⟩ := hq
    have hr : r = [] := Classical.byContradiction fun e => h ⟨e, .inl rfl⟩
    subst hr
    rw [if_neg (bad_x _)]
    rfl
  · rw [if_neg h1]
    by_cases h2 : Lib.hasPrefix (48 :: c :: r) [48, 88] = true
    · rw [if_pos h2]
      obtain ⟨q, hq⟩ := (pre2 _ _ _).1 h2
      simp only [List.cons.injEq, true_and] at hq
      obtain ⟨rfl, rfl⟩ := hq
      have hr : r = [] := Classical.byContradiction fun e => h ⟨e, .inr rfl⟩
      subst hr
      rw [if_neg (bad_X _)]
      rfl
    · rw [if_neg h2, if_pos ((pre1 _ _).2 ⟨_, rfl⟩)]
      rw [val_zero]
      by_cases h3 : NumB 8 (c :: r)
      · rw [if_pos h3, if_pos ⟨by simp, (numB_zero _).2 h3⟩]
      · rw [if_neg h3, if_neg fun e => h3 ((numB_zero _).1 e.2)]
/-- 10. -/
theorem ref10 (l : L) (h : ∀ c r, l ≠ 48 :: c :: r) : num l = if l = [] then none else numB 10 l := by
  rw [num_x]
  unfold numB
  rw [if_neg fun e => by obtain ⟨q, hq⟩ := (pre2 _ _ _).1 e; exact h _ _ hq, if_neg fun e => by obtain ⟨q, hq⟩ := (pre2 _ _ _).1 e; exact h _ _ hq]
  by_cases h0 : l = []
  · subst h0; rfl
  · rw [if_neg h0]
    by_cases h1 : Lib.hasPrefix l [48] = true
    · rw [if_pos h1]
      obtain ⟨q, hq⟩ := (pre1 _ _).1 h1
      rcases q with _ | ⟨c, r⟩
      · subst hq; decide
      · exact absurd hq (h _ _)
    · rw [if_neg h1]
      simp [h0]
/-- Blanks at the beginning; at the end. -/
def front (l : L) : L := l.dropWhile blank
def rear (l : L) : L := (l.reverse.dropWhile blank).reverse
theorem rear_cons (c : UInt8) (r : L) : rear (c :: r) = if rear r = [] then (if blank c then [] else [c]) else c :: rear r := by
  unfold rear
  rw [List.reverse_cons, List.dropWhile_append]
  by_cases h : r.reverse.dropWhile blank = []
  · rw [h]
    simp only [List.isEmpty_nil, if_true, List.reverse_nil]
    cases hb : blank c <;> simp [hb]
  · have h2 : (r.reverse.dropWhile blank).isEmpty = false := by cases hq : r.reverse.dropWhile blank <;> simp_all
    rw [h2]
    simp [h]
theorem front_rear : ∀ l : L, rear (front l) = front (rear l)
  | [] => rfl
  | c :: r => by
    have ih := front_rear r
    unfold front at ih ⊢
    rw [rear_cons]
    cases hb : blank c with
    | true =>
      rw [List.dropWhile_cons, if_pos hb, ih]
      by_cases h : rear r = []
      · simp [h]
      · simp [h, hb]
    | false =>
      rw [List.dropWhile_cons, if_neg (by rw [hb]; simp), rear_cons]
      by_cases h : rear r = []
      · simp [h, hb]
      · simp [h, hb]
theorem trim_is (l : L) : trim l = rear (front l) := by
  rw [front_rear]
  rfl
theorem front_cons (c : UInt8) (r : L) : front (c :: r) = if blank c then front r else c :: r := by unfold front; rw [List.dropWhile_cons]
theorem rear_snoc (r : L) (c : UInt8) : rear (r ++ [c]) = if blank c then rear r else r ++ [c] := by
  unfold rear
  rw [List.reverse_append]
  simp only [List.reverse_cons, List.reverse_nil, List.nil_append, List.cons_append, List.dropWhile_cons]
  split
  · rfl
  · simp
theorem rear_nil : ∀ l : L, rear l = [] ↔ l.all blank = true
  | [] => by simp [rear]
  | c :: r => by
    have ih := rear_nil r
    rw [rear_cons, List.all_cons]
    by_cases h : rear r = []
    · rw [if_pos h, ih.1 h]
      cases blank c <;> simp
    · have h2 : r.all blank = false := Bool.eq_false_iff.2 fun e => h (ih.2 e)
      rw [if_neg h, h2]
      simp
theorem front_all (l : L) : (front l).all blank = l.all blank := by
  induction l with
  | nil => rfl
  | cons c r ih =>
    rw [front_cons]
    cases h : blank c with
    | true => rw [if_pos rfl, ih, List.all_cons, h, Bool.true_and]
    | false => rw [if_neg (by simp)]
theorem trim_nil (l : L) : trim l = [] ↔ l.all blank = true := by rw [trim_is, rear_nil, front_all]
/-- The document's Number, at what is left between blanks. -/
def numT : L → Option Int
  | [] => some 0
  | c :: r => if c = 43 then (num r).map (fun n : Nat => (n : Int)) else if c = 45 then (num r).map (fun n : Nat => -(n : Int)) else (num (c :: r)).map (fun n : Nat => (n : Int))
theorem numV_of (l : L) : numV l = numT (trim l) := by
  unfold numV numT
  dsimp only
  rcases trim l with _ | ⟨c, r⟩
  · rfl
  · rw [if_neg (by simp)]
    by_cases h1 : c = 45
    · subst h1
      have hp : Lib.hasPrefix (45 :: r) [45] = true := (pre1 _ _).2 ⟨_, rfl⟩
      rw [if_pos hp]
      unfold Lib.trimPrefix
      rw [if_pos hp]
      simp
    · have hp : ¬ Lib.hasPrefix (c :: r) [45] = true := fun e => by obtain ⟨q, hq⟩ := (pre1 _ _).1 e; injection hq with hq; exact h1 hq
      rw [if_neg hp]
      by_cases h2 : c = 43
      · subst h2
        have hp : Lib.hasPrefix (43 :: r) [43] = true := (pre1 _ _).2 ⟨_, rfl⟩
        unfold Lib.trimPrefix
        rw [if_pos hp]
        simp
      · have hp : ¬ Lib.hasPrefix (c :: r) [43] = true := fun e => by obtain ⟨q, hq⟩ := (pre1 _ _).1 e; injection hq with hq; exact h2 hq
        unfold Lib.trimPrefix
        rw [if_neg hp]
        simp [h1, h2]
end Ar
end Go.Proofs.YtjidclefpmcgoaaDoor
