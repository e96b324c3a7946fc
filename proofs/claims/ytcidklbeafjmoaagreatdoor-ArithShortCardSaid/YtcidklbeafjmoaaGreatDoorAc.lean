/- What the signs do: the closures of a reader; small methods. No premises. -/
import Derived.Test.YtcidklbeafjmoaaGreatDoorAr
import Derived.BigQuiet
namespace Go.Proofs.YtcidklbeafjmoaaGreatDoor
open Go.RowKit Go.Maps
namespace Ar
theorem bit_v (b : Bool) (W : World) : Calls Tryz.prog 39 #[.bool b] W fun e W' => e = .returned (.int .i64 (bit b)) ∧ W' = W := by
  cases b <;>
  · go_enter Tryz.func39, Tryz.ntmps39
    go_wp2
    go_ret
    exact ⟨rfl, rfl⟩
theorem and63 (b : Int) : 0 ≤ bits .and .i64 b 63 ∧ bits .and .i64 b 63 ≤ 63 := by
  have h : ((BitVec.ofInt 64 b) &&& (BitVec.ofInt 64 63)).toNat ≤ 63 := by
    rw [BitVec.toNat_and]
    exact Nat.le_trans Nat.and_le_right (by decide)
  have e : bits .and .i64 b 63 = (((BitVec.ofInt 64 b) &&& (BitVec.ofInt 64 63)).toNat : Int) := by
    show IntKind.i64.wrap ((((BitVec.ofInt 64 b) &&& (BitVec.ofInt 64 63)).toNat : Nat) : Int) = _
    rw [IntWalk.i64_left]
    exact IntWalk.wrap64_in _ (by omega)
  omega
set_option maxRecDepth 100000 in
theorem ahead1 (a : Int) (W : World) : Calls Tryz.prog 38 #[.int .i64 a] W fun e W' => e = .returned (.int .i64 (op1 [33] a)) ∧ W' = W := by
  go_enter Tryz.func38, Tryz.ntmps38
  go_wp2_with (go_at_call 39; (with_reducible refine (bit_v _ _).mono ?_); rintro e w1 ⟨rfl, rfl⟩)
  go_ret
  exact ⟨rfl, rfl⟩
set_option maxRecDepth 100000 in
theorem ahead2 (a : Int) (W : World) : Calls Tryz.prog 40 #[.int .i64 a] W fun e W' => e = .returned (.int .i64 (op1 [126] a)) ∧ W' = W := by
  go_enter Tryz.func40, Tryz.ntmps40
  go_wp2
  all_goals (go_ret; first | (exact ⟨rfl, rfl⟩) | skip)
set_option maxRecDepth 100000 in
theorem ahead3 (a : Int) (W : World) : Calls Tryz.prog 41 #[.int .i64 a] W fun e W' => e = .returned (.int .i64 (op1 [43] a)) ∧ W' = W := by
  go_enter Tryz.func41, Tryz.ntmps41
  go_wp2
  go_ret
  exact ⟨by simp [op1], rfl⟩
set_option maxRecDepth 100000 in
theorem ahead4 (a : Int) (W : World) : Calls Tryz.prog 42 #[.int .i64 a] W fun e W' => e = .returned (.int .i64 (op1 [45] a)) ∧ W' = W := by
  go_enter Tryz.func42, Tryz.ntmps42
  go_wp2
  go_ret
  exact ⟨by simp [op1], rfl⟩
set_option maxRecDepth 100000 in
theorem pair1 (a b : Int) (W : World) : Calls Tryz.prog 43 #[.int .i64 a, .int .i64 b] W fun e W' => e = .returned (.int .i64 (op2 [124, 124] a b)) ∧ W' = W := by
  go_enter Tryz.func43, Tryz.ntmps43
  by_cases ha : a = 0
  · subst ha
    go_wp2_with (go_at_call 39; (with_reducible refine (bit_v _ _).mono ?_); rintro e w1 ⟨rfl, rfl⟩)
    go_ret
    exact ⟨rfl, rfl⟩
  · have hn : (a != 0) = true := by simp [ha]
    go_wp2_with (go_at_call 39; (with_reducible refine (bit_v _ _).mono ?_); rintro e w1 ⟨rfl, rfl⟩)
    go_ret
    exact ⟨by simp [op2, hn], rfl⟩
set_option maxRecDepth 100000 in
theorem pair2 (a b : Int) (W : World) : Calls Tryz.prog 44 #[.int .i64 a, .int .i64 b] W fun e W' => e = .returned (.int .i64 (op2 [38, 38] a b)) ∧ W' = W := by
  go_enter Tryz.func44, Tryz.ntmps44
  by_cases ha : a = 0
  · subst ha
    go_wp2_with (go_at_call 39; (with_reducible refine (bit_v _ _).mono ?_); rintro e w1 ⟨rfl, rfl⟩)
    go_ret
    exact ⟨rfl, rfl⟩
  · have hn : (a != 0) = true := by simp [ha]
    go_wp2_with (go_at_call 39; (with_reducible refine (bit_v _ _).mono ?_); rintro e w1 ⟨rfl, rfl⟩)
    go_ret
    exact ⟨by simp [op2, hn], rfl⟩
set_option maxRecDepth 100000 in
theorem pair3 (a b : Int) (W : World) : Calls Tryz.prog 45 #[.int .i64 a, .int .i64 b] W fun e W' => e = .returned (.int .i64 (op2 [124] a b)) ∧ W' = W := by
  go_enter Tryz.func45, Tryz.ntmps45
  go_wp2
  go_ret
  exact ⟨by simp [op2], rfl⟩
set_option maxRecDepth 100000 in
theorem pair4 (a b : Int) (W : World) : Calls Tryz.prog 46 #[.int .i64 a, .int .i64 b] W fun e W' => e = .returned (.int .i64 (op2 [94] a b)) ∧ W' = W := by
  go_enter Tryz.func46, Tryz.ntmps46
  go_wp2
  go_ret
  exact ⟨by simp [op2], rfl⟩
set_option maxRecDepth 100000 in
theorem pair5 (a b : Int) (W : World) : Calls Tryz.prog 47 #[.int .i64 a, .int .i64 b] W fun e W' => e = .returned (.int .i64 (op2 [38] a b)) ∧ W' = W := by
  go_enter Tryz.func47, Tryz.ntmps47
  go_wp2
  go_ret
  exact ⟨by simp [op2], rfl⟩
set_option maxRecDepth 100000 in
theorem pair6 (a b : Int) (W : World) : Calls Tryz.prog 48 #[.int .i64 a, .int .i64 b] W fun e W' => e = .returned (.int .i64 (op2 [61, 61] a b)) ∧ W' = W := by
  go_enter Tryz.func48, Tryz.ntmps48
  go_wp2_with (go_at_call 39; (with_reducible refine (bit_v _ _).mono ?_); rintro e w1 ⟨rfl, rfl⟩)
  go_ret
  exact ⟨rfl, rfl⟩
set_option maxRecDepth 100000 in
theorem pair7 (a b : Int) (W : World) : Calls Tryz.prog 49 #[.int .i64 a, .int .i64 b] W fun e W' => e = .returned (.int .i64 (op2 [33, 61] a b)) ∧ W' = W := by
  go_enter Tryz.func49, Tryz.ntmps49
  go_wp2_with (go_at_call 39; (with_reducible refine (bit_v _ _).mono ?_); rintro e w1 ⟨rfl, rfl⟩)
  go_ret
  exact ⟨rfl, rfl⟩
set_option maxRecDepth 100000 in
theorem pair8 (a b : Int) (W : World) : Calls Tryz.prog 50 #[.int .i64 a, .int .i64 b] W fun e W' => e = .returned (.int .i64 (op2 [60] a b)) ∧ W' = W := by
  go_enter Tryz.func50, Tryz.ntmps50
  go_wp2_with (go_at_call 39; (with_reducible refine (bit_v _ _).mono ?_); rintro e w1 ⟨rfl, rfl⟩)
  go_ret
  exact ⟨rfl, rfl⟩
set_option maxRecDepth 100000 in
theorem pair9 (a b : Int) (W : World) : Calls Tryz.prog 51 #[.int .i64 a, .int .i64 b] W fun e W' => e = .returned (.int .i64 (op2 [60, 61] a b)) ∧ W' = W := by
  go_enter Tryz.func51, Tryz.ntmps51
  go_wp2_with (go_at_call 39; (with_reducible refine (bit_v _ _).mono ?_); rintro e w1 ⟨rfl, rfl⟩)
  go_ret
  exact ⟨rfl, rfl⟩
set_option maxRecDepth 100000 in
theorem pair10 (a b : Int) (W : World) : Calls Tryz.prog 52 #[.int .i64 a, .int .i64 b] W fun e W' => e = .returned (.int .i64 (op2 [62] a b)) ∧ W' = W := by
  go_enter Tryz.func52, Tryz.ntmps52
  go_wp2_with (go_at_call 39; (with_reducible refine (bit_v _ _).mono ?_); rintro e w1 ⟨rfl, rfl⟩)
  go_ret
  exact ⟨rfl, rfl⟩
set_option maxRecDepth 100000 in
theorem pair11 (a b : Int) (W : World) : Calls Tryz.prog 53 #[.int .i64 a, .int .i64 b] W fun e W' => e = .returned (.int .i64 (op2 [62, 61] a b)) ∧ W' = W := by
  go_enter Tryz.func53, Tryz.ntmps53
  go_wp2_with (go_at_call 39; (with_reducible refine (bit_v _ _).mono ?_); rintro e w1 ⟨rfl, rfl⟩)
  go_ret
  exact ⟨rfl, rfl⟩
set_option maxRecDepth 100000 in
theorem pair12 (a b : Int) (W : World) : Calls Tryz.prog 54 #[.int .i64 a, .int .i64 b] W fun e W' => e = .returned (.int .i64 (op2 [60, 60] a b)) ∧ W' = W := by
  go_enter Tryz.func54, Tryz.ntmps54
  have h0 := (and63 b).1
  have h1 := (and63 b).2
  have hs := shift_shl .i64 .i64 a (bits .and .i64 b 63) h0 (by show _ ≤ ((64 : Nat) : Int); omega)
  go_wp2
  go_ret
  exact ⟨by simp [op2], rfl⟩
set_option maxRecDepth 100000 in
theorem pair13 (a b : Int) (W : World) : Calls Tryz.prog 55 #[.int .i64 a, .int .i64 b] W fun e W' => e = .returned (.int .i64 (op2 [62, 62] a b)) ∧ W' = W := by
  go_enter Tryz.func55, Tryz.ntmps55
  have h0 := (and63 b).1
  have h1 := (and63 b).2
  have hs := shift_shr .i64 .i64 a (bits .and .i64 b 63) h0 (by show _ ≤ ((64 : Nat) : Int); omega)
  go_wp2
  go_ret
  exact ⟨by simp [op2], rfl⟩
set_option maxRecDepth 100000 in
theorem pair14 (a b : Int) (W : World) : Calls Tryz.prog 56 #[.int .i64 a, .int .i64 b] W fun e W' => e = .returned (.int .i64 (op2 [43] a b)) ∧ W' = W := by
  go_enter Tryz.func56, Tryz.ntmps56
  go_wp2
  go_ret
  exact ⟨by simp [op2], rfl⟩
set_option maxRecDepth 100000 in
theorem pair15 (a b : Int) (W : World) : Calls Tryz.prog 57 #[.int .i64 a, .int .i64 b] W fun e W' => e = .returned (.int .i64 (op2 [45] a b)) ∧ W' = W := by
  go_enter Tryz.func57, Tryz.ntmps57
  go_wp2
  go_ret
  exact ⟨by simp [op2], rfl⟩
set_option maxRecDepth 100000 in
theorem pair16 (a b : Int) (W : World) : Calls Tryz.prog 58 #[.int .i64 a, .int .i64 b] W fun e W' => e = .returned (.int .i64 (op2 [42] a b)) ∧ W' = W := by
  go_enter Tryz.func58, Tryz.ntmps58
  go_wp2
  go_ret
  exact ⟨by simp [op2], rfl⟩
end Ar
end Go.Proofs.YtcidklbeafjmoaaGreatDoor
