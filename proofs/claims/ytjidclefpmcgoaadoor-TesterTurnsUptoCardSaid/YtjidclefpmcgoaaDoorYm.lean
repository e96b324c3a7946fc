/- Texts as numbers: mathematics. No premises. -/
import Derived.Test.YtjidclefpmcgoaaDoorAn
import Derived.Test.YtjidclefpmcgoaaDoorYl
namespace Go.Proofs.YtjidclefpmcgoaaDoor
open Go.RowKit Go.Maps
namespace Ar
theorem w64 (x : Int) (h : -9223372036854775808 ≤ x ∧ x < 9223372036854775808) : wrap64 x = x := by unfold wrap64; omega
theorem drop_text (S : L) (p : Nat) : (mkS S).extract p (mkS S).size = mkS (S.drop p) := by
  apply ByteArray.ext
  simp [mkS, ByteArray.size]
  exact List.take_of_length_le (by simp)
theorem later_of_below {W W' : World} (h : Below W.heap.size W W') : Later W W' := ⟨h.os, h.tape, h.output, h.size, fun k hk => h.block k hk⟩
def blank (c : UInt8) : Bool := [32, 9, 10].contains c
/-- A digit's worth. -/
def dv (c : UInt8) : Nat := if dig c then c.toNat - 48 else (c ||| 32).toNat - 87
def isD (b : Nat) (c : UInt8) : Bool := (dig c || (decide (97 ≤ c ||| 32) && decide (c ||| 32 ≤ 122))) && decide (dv c < b)
def val (b : Nat) (l : L) : Nat := l.foldl (fun n c => n * b + dv c) 0
/-- Digits of base b, that are a number of 63 bits. -/
def NumB (b : Nat) (l : L) : Prop := l.all (isD b) = true ∧ val b l < 9223372036854775808
instance (b : Nat) (l : L) : Decidable (NumB b l) := inferInstanceAs (Decidable (_ ∧ _))
def num (l : L) : Option Nat :=
  let (d, b) := if Lib.hasPrefix l [48, 120] || Lib.hasPrefix l [48, 88] then (l.drop 2, 16) else if Lib.hasPrefix l [48] then (l, 8) else (l, 10)
  if d ≠ [] ∧ NumB b d then some (val b d) else none
def trim (l : L) : L := Lib.trimS l [32, 9, 10]
def numV (l : L) : Option Int :=
  let t := trim l
  if t = [] then some 0 else if Lib.hasPrefix t [45] then (num (Lib.trimPrefix t [45])).map (fun n : Nat => -(n : Int)) else (num (Lib.trimPrefix t [43])).map (fun n : Nat => (n : Int))
theorem val_snoc (b : Nat) (l : L) (c : UInt8) : val b (l ++ [c]) = val b l * b + dv c := by unfold val; rw [List.foldl_append]; rfl
theorem fold_ge (b : Nat) (hb : 1 ≤ b) : ∀ (r : L) (a : Nat), a ≤ r.foldl (fun n c => n * b + dv c) a
  | [], _ => Nat.le_refl _
  | c :: r, a => Nat.le_trans (by have : a ≤ a * b := Nat.le_mul_of_pos_right _ hb; omega) (fold_ge b hb r (a * b + dv c))
theorem val_app (b : Nat) (hb : 1 ≤ b) (l r : L) : val b l ≤ val b (l ++ r) := by
  unfold val
  rw [List.foldl_append]
  exact fold_ge b hb r _
theorem dig_nat {c : UInt8} : dig c = true ↔ 48 ≤ c.toNat ∧ c.toNat ≤ 57 := by
  unfold dig
  simp only [Bool.and_eq_true, decide_eq_true_eq, UInt8.le_iff_toNat_le]
  exact Iff.rfl
/-- What a byte may be, and what of it is a digit of base b. -/
theorem byte_is (b : Nat) (c : UInt8) :
    (48 ≤ c.toNat ∧ c.toNat ≤ 57 ∧ dv c = c.toNat - 48 ∧ isD b c = decide (c.toNat - 48 < b)) ∨
    (¬ (48 ≤ c.toNat ∧ c.toNat ≤ 57) ∧ c.toNat ≠ 95 ∧ 97 ≤ (c ||| 32).toNat ∧ (c ||| 32).toNat ≤ 122 ∧ dv c = (c ||| 32).toNat - 87 ∧ isD b c = decide ((c ||| 32).toNat - 87 < b)) ∨
    (¬ (48 ≤ c.toNat ∧ c.toNat ≤ 57) ∧ ¬ (97 ≤ (c ||| 32).toNat ∧ (c ||| 32).toNat ≤ 122) ∧ isD b c = false) := by
  cases hc : dig c with
  | true =>
    have h := dig_nat.1 hc
    have hd : dv c = c.toNat - 48 := by unfold dv; rw [if_pos hc]
    exact .inl ⟨h.1, h.2, hd, by unfold isD; rw [hc, hd]; simp⟩
  | false =>
    have h : ¬ (48 ≤ c.toNat ∧ c.toNat ≤ 57) := fun e => by rw [dig_nat.2 e] at hc; cases hc
    have hd : dv c = (c ||| 32).toNat - 87 := by unfold dv; rw [hc]; rfl
    have h97 : decide (97 ≤ c ||| 32) = decide (97 ≤ (c ||| 32).toNat) := by rw [decide_eq_decide, UInt8.le_iff_toNat_le]; exact Iff.rfl
    have h122 : decide (c ||| 32 ≤ 122) = decide ((c ||| 32).toNat ≤ 122) := by rw [decide_eq_decide, UInt8.le_iff_toNat_le]; exact Iff.rfl
    by_cases hl : 97 ≤ (c ||| 32).toNat ∧ (c ||| 32).toNat ≤ 122
    · refine .inr (.inl ⟨h, fun e => ?_, hl.1, hl.2, hd, by unfold isD; rw [hc, hd, h97, h122, decide_eq_true hl.1, decide_eq_true hl.2]; rfl⟩)
      have e2 : c = 95 := UInt8.toNat_inj.1 e
      rw [e2] at hl
      revert hl
      decide
    · refine .inr (.inr ⟨h, hl, ?_⟩)
      unfold isD
      rw [hc, h97, h122]
      by_cases h1 : 97 ≤ (c ||| 32).toNat
      · rw [decide_eq_false fun e => hl ⟨h1, e⟩, Bool.and_false]; rfl
      · rw [decide_eq_false h1]; rfl
theorem not_ok_dig {b : Nat} {l : L} {k : Nat} (hk : k < l.length) (h : isD b l[k] = false) : ¬ NumB b l := fun ho => by
  have := List.all_eq_true.1 ho.1 _ (List.getElem_mem hk)
  rw [h] at this
  cases this
theorem not_ok_big {b : Nat} (hb : 1 ≤ b) {l : L} {k : Nat} (h : 9223372036854775808 ≤ val b (l.take k)) : ¬ NumB b l := fun ho => by
  have h1 := val_app b hb (l.take k) (l.drop k)
  rw [List.take_append_drop] at h1
  have := ho.2
  omega
theorem val_step (b : Nat) {l : L} {k : Nat} (hk : k < l.length) : val b (l.take (k + 1)) = val b (l.take k) * b + dv l[k] := by rw [List.take_succ_eq_append_getElem hk, val_snoc]
theorem all_step (b : Nat) {l : L} {k : Nat} (hk : k < l.length) (h : (l.take k).all (isD b) = true) (hd : isD b l[k] = true) : (l.take (k + 1)).all (isD b) = true := by
  rw [List.take_succ_eq_append_getElem hk, List.all_append, h]; simp [hd]
end Ar
end Go.Proofs.YtjidclefpmcgoaaDoor
