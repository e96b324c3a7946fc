/- What an answer comes to. No premises. -/
import Derived.Test.YtjidclefpmcgoaaDoorYp
namespace Go.Proofs.YtjidclefpmcgoaaDoor
open Go.RowKit Go.Maps
namespace Ar
/-- Is it so? -/
def isB (op : L) (e n : Int) : Bool := (e == 0) && (op != [45, 102] || n == 1) && (op != [45, 100] || n == 2)
/-- An Answer. -/
abbrev ansV (k e n m : Int) (t : ByteArray) (A : Option Addr) (ln c : Nat) (s : Int) : Value := .agg #[.int .i64 k, .int .i64 e, .int .i64 n, .int .i64 m, .string t, .slice A ln c, .int .i64 s]
set_option maxRecDepth 100000 in
set_option maxHeartbeats 3200000 in
theorem answer_v (nt : Bool) (op path : L) (k e n m : Int) (t : ByteArray) (A : Option Addr) (ln c : Nat) (s : Int) (W : World) : Calls Tryd.prog 10 #[.agg #[.bool nt, .string (mkS op), .string (mkS path)], ansV k e n m t A ln c s] W fun r W' => r = .returned (.int .i64 (t01 (isB op e n != nt))) ∧ Later W W' := by
  have htl : ∀ l, (mkS l).toList = l := toList_mkS
  obtain ⟨r, hr⟩ : ∃ r, (isB op e n != nt) = r := ⟨_, rfl⟩
  rw [hr]
  have HT := Lib.hid (fun b W => told_v b W)
  have HL := Lib.hid ((Later.alloc W (.cells #[.bool nt, .string (mkS op), .string (mkS path)] 25)).trans (Later.alloc _ (.cells #[.int .i64 k, .int .i64 e, .int .i64 n, .int .i64 m, .string t, .slice A ln c, .int .i64 s] 33)))
  unfold isB at hr
  obtain ⟨b0, h0⟩ : ∃ b, (e == 0) = b := ⟨_, rfl⟩
  obtain ⟨b1, h1⟩ : ∃ b, (n == 1) = b := ⟨_, rfl⟩
  obtain ⟨b2, h2⟩ : ∃ b, (n == 2) = b := ⟨_, rfl⟩
  rw [h0, h1, h2] at hr
  by_cases hf : op = [45, 102]
  · have q1 : (op == [45, 102]) = true := by rw [hf]; rfl
    have hr1 : ((b0 && b1) != nt) = r := by rw [← hr, hf]; rw [show (([45, 102] : L) != [45, 102]) = false from rfl, show (([45, 102] : L) != [45, 100]) = true from rfl]; simp
    clear hr hf h2
    subst hr1
    cases b0 <;> cases b1 <;> cases nt
    all_goals (
      go_enter Tryd.func10, Tryd.ntmps10
      go_wp2_with (go_at_call 11; (with_reducible refine (HT.out _ _).mono ?_); rintro e w1 ⟨rfl, rfl⟩)
      go_ret
      exact ⟨rfl, HL.out⟩)
  · have q1 : (op == [45, 102]) = false := beq_eq_false_iff_ne.2 hf
    by_cases hd : op = [45, 100]
    · have q2 : (op == [45, 100]) = true := by rw [hd]; rfl
      have hr1 : ((b0 && b2) != nt) = r := by rw [← hr, hd]; rw [show (([45, 100] : L) != [45, 102]) = true from rfl, show (([45, 100] : L) != [45, 100]) = false from rfl]; simp
      clear hr hf hd h1
      subst hr1
      cases b0 <;> cases b2 <;> cases nt
      all_goals (
        go_enter Tryd.func10, Tryd.ntmps10
        go_wp2_with (go_at_call 11; (with_reducible refine (HT.out _ _).mono ?_); rintro e w1 ⟨rfl, rfl⟩)
        go_ret
        exact ⟨rfl, HL.out⟩)
    · have q2 : (op == [45, 100]) = false := beq_eq_false_iff_ne.2 hd
      have hr1 : (b0 != nt) = r := by rw [← hr, show (op != [45, 102]) = true from bne_iff_ne.2 hf, show (op != [45, 100]) = true from bne_iff_ne.2 hd]; simp
      clear hr hf hd h1 h2
      subst hr1
      cases b0 <;> cases nt
      all_goals (
        go_enter Tryd.func10, Tryd.ntmps10
        go_wp2_with (go_at_call 11; (with_reducible refine (HT.out _ _).mono ?_); rintro e w1 ⟨rfl, rfl⟩)
        go_ret
        exact ⟨rfl, HL.out⟩)
end Ar
end Go.Proofs.YtjidclefpmcgoaaDoor
