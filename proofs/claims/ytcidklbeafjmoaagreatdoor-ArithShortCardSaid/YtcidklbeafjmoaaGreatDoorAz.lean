/- What numbers of 64 bits come to: values of expressions, sums, products, signs. No program. -/
import Derived.Test.YtcidklbeafjmoaaGreatDoorAy
namespace Go.Proofs.YtcidklbeafjmoaaGreatDoor
open Go.RowKit Go.Maps
namespace Ar
/-- What an expression comes to, the fault apart. -/
def va (vs : Vars) : E → Int
  | .num _ n => n
  | .var t => (look vs t).getD 0
  | .dol t => (look vs t).getD 0
  | .brc t => (look vs t).getD 0
  | .un t a => op1 t (va vs a)
  | .bin t a b => op2 t (va vs a) (va vs b)
  | .par a => va vs a
  | .cond a b c => if va vs a != 0 then va vs b else va vs c
theorem ev_fst (vs : Vars) : ∀ (e : E) (i f : Nat), (ev vs e i f).1 = va vs e := by
  intro e
  induction e with
  | num t n => intro i f; rfl
  | var t => intro i f; rfl
  | dol t => intro i f; rfl
  | brc t => intro i f; rfl
  | un t a ih => intro i f; show op1 t (ev vs a i f).1 = _; rw [ih]; rfl
  | bin t a b iha ihb => intro i f; show op2 t (ev vs a i f).1 (ev vs b _ _).1 = _; rw [iha, ihb]; rfl
  | par a ih => intro i f; exact ih i f
  | cond a b c iha ihb ihc => intro i f; show (if (ev vs a i f).1 != 0 then (ev vs b _ _).1 else (ev vs c _ _).1) = _; rw [iha, ihb, ihc]; rfl
/-- Nothing is divided in it. -/
def nodiv : E → Bool
  | .un _ a => nodiv a
  | .bin t a b => t != [47] && t != [37] && nodiv a && nodiv b
  | .par a => nodiv a
  | .cond a b c => nodiv a && nodiv b && nodiv c
  | _ => true
theorem ev_snd (vs : Vars) : ∀ (e : E), nodiv e = true → ∀ i f : Nat, (ev vs e i f).2 = f := by
  intro e
  induction e with
  | num t n => intro _ i f; rfl
  | var t => intro _ i f; rfl
  | dol t => intro _ i f; rfl
  | brc t => intro _ i f; rfl
  | un t a ih => intro h i f; exact ih h i f
  | bin t a b iha ihb =>
    intro h i f
    simp only [nodiv, Bool.and_eq_true, bne_iff_ne] at h
    obtain ⟨⟨⟨h1, h2⟩, h3⟩, h4⟩ := h
    show (if ((t = [47] ∨ t = [37]) ∧ _) ∧ _ then 22 else (ev vs b _ (ev vs a i f).2).2) = f
    rw [if_neg (fun e => by rcases e.1.1 with e | e; exact h1 e; exact h2 e), ihb h4, iha h3]
  | par a ih => intro h i f; exact ih h i f
  | cond a b c iha ihb ihc =>
    intro h i f
    simp only [nodiv, Bool.and_eq_true] at h
    show (ev vs c _ (ev vs b _ (ev vs a i f).2).2).2 = f
    rw [ihc h.2, ihb h.1.2, iha h.1.1]
theorem ite_two {p : Prop} [Decidable p] {n : Nat} (h : n = 0 ∨ n = 22) : (if p then 22 else n) = 0 ∨ (if p then 22 else n) = 22 := by
  split
  · exact .inr rfl
  · exact h
/-- The fault is none, or a division by 0. -/
theorem ev_two (vs : Vars) : ∀ (e : E) (i f : Nat), (f = 0 ∨ f = 22) → ((ev vs e i f).2 = 0 ∨ (ev vs e i f).2 = 22) := by
  intro e
  induction e with
  | num t n => intro i f h; exact h
  | var t => intro i f h; exact h
  | dol t => intro i f h; exact h
  | brc t => intro i f h; exact h
  | un t a ih => intro i f h; exact ih i f h
  | bin t a b iha ihb =>
    intro i f h
    exact ite_two (ihb (if needs t (ev vs a i f).1 then i else i + 1) _ (iha i f h))
  | par a ih => intro i f h; exact ih i f h
  | cond a b c iha ihb ihc => intro i f h; exact ihc _ _ (ihb _ _ (iha i f h))
/-! ### numbers that go round -/
theorem w_mod (a : Int) : ∃ k, wrap64 a = a + 18446744073709551616 * k := by
  unfold wrap64
  exact ⟨-((a + 9223372036854775808) / 18446744073709551616), by omega⟩
theorem w_eq {a b k : Int} (h : a = b + 18446744073709551616 * k) : wrap64 a = wrap64 b := by
  unfold wrap64
  omega
theorem w_in (a : Int) : -9223372036854775808 ≤ wrap64 a ∧ wrap64 a < 9223372036854775808 := by unfold wrap64; omega
theorem mul_add (x y z : Int) : wrap64 (x * wrap64 (y + z)) = wrap64 (wrap64 (x * y) + wrap64 (x * z)) := by
  obtain ⟨k, hk⟩ := w_mod (y + z)
  obtain ⟨k1, hk1⟩ := w_mod (x * y)
  obtain ⟨k2, hk2⟩ := w_mod (x * z)
  rw [hk, hk1, hk2]
  refine w_eq (k := x * k - k1 - k2) ?_
  rw [Int.mul_add, Int.mul_add, Int.mul_sub, Int.mul_sub]
  have : x * (18446744073709551616 * k) = 18446744073709551616 * (x * k) := by rw [← Int.mul_assoc, Int.mul_comm x, Int.mul_assoc]
  rw [this]
  omega
theorem add_sub (x y : Int) (hx : -9223372036854775808 ≤ x ∧ x < 9223372036854775808) : wrap64 (wrap64 (x + y) - y) = x := by
  obtain ⟨k, hk⟩ := w_mod (x + y)
  rw [hk, w_eq (b := x) (k := k) (by omega)]
  exact w64 x (by omega)
theorem wrap_nat (v : BitVec 64) : wrap64 (v.toNat : Int) = v.toInt := by
  have h := v.isLt
  rw [BitVec.toInt_eq_toNat_cond]
  unfold wrap64
  split <;> omega
theorem bits_xor (a b : Int) : bits .xor .i64 a b = (BitVec.ofInt 64 a ^^^ BitVec.ofInt 64 b).toInt := by
  show IntKind.i64.wrap (((BitVec.ofInt 64 a) ^^^ (BitVec.ofInt 64 b)).toNat : Int) = _
  rw [IntWalk.i64_left, wrap_nat]
theorem of_toInt (v : BitVec 64) : BitVec.ofInt 64 v.toInt = v := BitVec.ofInt_toInt
theorem toInt_of (x : Int) (hx : -9223372036854775808 ≤ x ∧ x < 9223372036854775808) : (BitVec.ofInt 64 x).toInt = x := by
  rw [BitVec.toInt_ofInt]
  unfold Int.bmod
  simp only [Nat.reducePow]
  split <;> omega
theorem xor_xor (x y : Int) (hx : -9223372036854775808 ≤ x ∧ x < 9223372036854775808) : bits .xor .i64 (bits .xor .i64 x y) y = x := by
  rw [bits_xor, bits_xor, of_toInt, BitVec.xor_assoc, BitVec.xor_self, BitVec.xor_zero, toInt_of x hx]
theorem not_neg (x : Int) (hx : -9223372036854775808 < x ∧ x < 9223372036854775808) : bits .xor .i64 (-1) x = wrap64 (wrap64 (-x) - 1) := by
  have h1 : wrap64 (-x) = -x := w64 _ (by omega)
  rw [h1, w64 (-x - 1) (by omega), bits_xor]
  have h2 : BitVec.ofInt 64 (-1) = BitVec.allOnes 64 := by decide
  rw [h2, BitVec.allOnes_xor, BitVec.toInt_not, BitVec.toNat_ofInt]
  unfold Int.bmod
  simp only [Nat.reducePow]
  split <;> omega
theorem not_lt (x y : Int) : (bit (bit (decide (x < y)) == 0) == bit (decide (y ≤ x))) = true := by
  by_cases h : x < y
  · rw [decide_eq_true h, decide_eq_false (show ¬ y ≤ x by omega)]; rfl
  · rw [decide_eq_false h, decide_eq_true (show y ≤ x by omega)]; rfl
theorem ne_lt (x y : Int) : (bit (x != y) == bit (bit (decide (x < y)) != 0 || bit (decide (y < x)) != 0)) = true := by
  by_cases h : x < y
  · rw [decide_eq_true h, show (x != y) = true by simp; omega]; rfl
  · by_cases h2 : y < x
    · rw [decide_eq_false h, decide_eq_true h2, show (x != y) = true by simp; omega]; rfl
    · have : x = y := by omega
      rw [decide_eq_false h, decide_eq_false h2, this, show (y != y) = false by simp]; rfl
/-- What divides, and what is left. -/
theorem div_mod (x y : Int) (hx : -9223372036854775808 < x ∧ x < 9223372036854775808) : wrap64 (wrap64 (wrap64 (x.tdiv y) * y) + x.tmod y) = x := by
  have h1 : wrap64 (x.tdiv y) = x.tdiv y := by
    refine w64 _ ?_
    have h2 : (x.tdiv y).natAbs ≤ x.natAbs := by
      rw [Int.natAbs_tdiv]
      exact Nat.div_le_self _ _
    omega
  rw [h1]
  obtain ⟨k, hk⟩ := w_mod (x.tdiv y * y)
  rw [hk, w_eq (b := x) (k := k) ?_]
  · exact w64 x (by omega)
  · have := Int.mul_tdiv_add_tmod x y
    rw [Int.mul_comm] at this
    omega
end Ar
end Go.Proofs.YtcidklbeafjmoaaGreatDoor
