/- event's isKind, upTo, Right, Fits and Name, and the document's: what each one tells. -/
import Derived.Test.YtbgojfgapbcanaaDoorEm
import Derived.Test.YtbgojfgapbcanaaDoorRdr
import Derived.Test.YtbgojfgapbcanaaDoorArgs
namespace Go.Proofs.YtbgojfgapbcanaaDoor
open Go.RowKit
/-- A request, an answer, as values. -/
def reqV (k n m : Int) (t : List UInt8) (A : Option Addr) (len cap : Nat) : Value := .agg #[.int .i64 k, .int .i64 n, .int .i64 m, .string (mkS t), .slice A len cap]
def ansV (k e n m : Int) (t : List UInt8) (A : Option Addr) (len cap : Nat) (s : Int) : Value := .agg #[.int .i64 k, .int .i64 e, .int .i64 n, .int .i64 m, .string (mkS t), .slice A len cap, .int .i64 s]
theorem ret_bool {a b : Bool} (h : a = b) : Ending.returned (.bool a) = .returned (.bool b) := by rw [h]
def kindB (k : Int) : Bool := decide (1 ≤ k ∧ k ≤ 11)
def rightB (k : Int) (len : Nat) : Bool := decide ((1 ≤ k ∧ k ≤ 11) ∧ len ≤ 4096)
def fitsB (j k e s : Int) (len : Nat) : Bool := decide (k = j ∧ (1 ≤ k ∧ k ≤ 11) ∧ (0 ≤ e ∧ e ≤ 255) ∧ (0 ≤ s ∧ s ≤ 64) ∧ len ≤ 4096)
theorem isKind_v (k : Int) (w : World) : Calls Tryd.prog 27 #[.int .i64 k] w fun e w' => e = .returned (.bool (kindB k)) ∧ w = w' := by
  by_cases h1 : (1 : Int) ≤ k <;> by_cases h2 : k ≤ 11
  all_goals
    have hb := Lib.hid (show kindB k = decide (1 ≤ k ∧ k ≤ 11) from rfl)
    go_enter Tryd.func27, Tryd.ntmps27
    go_wp2
    go_ret
    exact ⟨by rw [hb.out]; simp [h1, h2], rfl⟩
theorem upTo_v (m k : Int) (w : World) : Calls Tryd.prog 28 #[.int .i64 m, .int .i64 k] w fun e w' => e = .returned (.bool (decide (0 ≤ k ∧ k ≤ m))) ∧ w = w' := by
  by_cases h1 : (0 : Int) ≤ k <;> by_cases h2 : k ≤ m
  all_goals
    go_enter Tryd.func28, Tryd.ntmps28
    go_wp2
    go_ret
    exact ⟨by simp [h1, h2], rfl⟩
theorem right_v (k n m : Int) (t : List UInt8) (A : Option Addr) (len cap : Nat) (w : World) :
    Calls Tryd.prog 12 #[reqV k n m t A len cap] w fun e w' => e = .returned (.bool (rightB k len)) ∧ Below w.heap.size w w' := by
  unfold reqV rightB
  have hb := Lib.hid ((Below.refl w.heap.size w).alloc (Nat.le_refl _) (.cells #[.int .i64 k, .int .i64 n, .int .i64 m, .string (mkS t), .slice A len cap] 24))
  have hk : kindB k = decide (1 ≤ k ∧ k ≤ 11) := rfl
  by_cases h1 : kindB k = true
  · have h1' := Lib.hid (of_decide_eq_true (hk ▸ h1))
    clear hk
    by_cases h2 : (len : Int) ≤ 4096
    all_goals
      go_enter Tryd.func12, Tryd.ntmps12
      go_wp2_with (go_at_call 27; (with_reducible refine (isKind_v k _).mono ?_); rintro e w' ⟨rfl, rfl⟩; rw [h1])
      go_ret
      exact ⟨by simp [h1'.out]; omega, hb.out⟩
  · have h1' := Lib.hid (fun h : 1 ≤ k ∧ k ≤ 11 => h1 (by rw [hk]; exact decide_eq_true h))
    have h1f : kindB k = false := by simpa using h1
    clear hk h1
    go_enter Tryd.func12, Tryd.ntmps12
    go_wp2_with (go_at_call 27; (with_reducible refine (isKind_v k _).mono ?_); rintro e w' ⟨rfl, rfl⟩; rw [h1f])
    go_ret
    exact ⟨ret_bool (decide_eq_false fun h => h1'.out h.1).symm, hb.out⟩
theorem refRight_v (k n m : Int) (t : List UInt8) (A : Option Addr) (len cap : Nat) (w : World) :
    Calls Tryd.prog 13 #[reqV k n m t A len cap] w fun e w' => e = .returned (.bool (rightB k len)) ∧ Below w.heap.size w w' := by
  unfold reqV rightB
  have hb := Lib.hid ((Below.refl w.heap.size w).alloc (Nat.le_refl _) (.cells #[.int .i64 k, .int .i64 n, .int .i64 m, .string (mkS t), .slice A len cap] 24))
  have hc : (¬ (1 : Int) ≤ k ∧ k ≤ 11) ∨ ((1 : Int) ≤ k ∧ k ≤ 11) ∨ ((1 : Int) ≤ k ∧ ¬ k ≤ 11) := by omega
  rcases hc with ⟨h1, h2⟩ | ⟨h1, h2⟩ | ⟨h1, h2⟩ <;> by_cases h3 : (len : Int) ≤ 4096
  all_goals
    go_enter Tryd.func13, Tryd.ntmps13
    go_wp2
    go_ret
    exact ⟨by simp [h1, h2]; try omega, hb.out⟩
def ansC (k e n m : Int) (t : List UInt8) (A : Option Addr) (len cap : Nat) (s : Int) : Array Value := #[.int .i64 k, .int .i64 e, .int .i64 n, .int .i64 m, .string (mkS t), .slice A len cap, .int .i64 s]
theorem fits_cases (j k e s : Int) (len : Nat) : ((k == j) = false ∧ fitsB j k e s len = false) ∨ (j = k ∧ (
    (kindB k = false ∧ fitsB j k e s len = false) ∨ (kindB k = true ∧ decide (0 ≤ e ∧ e ≤ 255) = false ∧ fitsB j k e s len = false) ∨
    (kindB k = true ∧ decide (0 ≤ e ∧ e ≤ 255) = true ∧ decide (0 ≤ s ∧ s ≤ 64) = false ∧ fitsB j k e s len = false) ∨
    (kindB k = true ∧ decide (0 ≤ e ∧ e ≤ 255) = true ∧ decide (0 ≤ s ∧ s ≤ 64) = true ∧ fitsB j k e s len = decide ((len : Int) ≤ 4096)))) := by
  unfold fitsB kindB
  by_cases h0 : k = j
  · right
    refine ⟨h0.symm, ?_⟩
    subst h0
    by_cases h1 : 1 ≤ k ∧ k ≤ 11
    · right
      by_cases h2 : 0 ≤ e ∧ e ≤ 255
      · right
        by_cases h3 : 0 ≤ s ∧ s ≤ 64
        · right
          exact ⟨decide_eq_true h1, decide_eq_true h2, decide_eq_true h3, by rw [decide_eq_decide]; omega⟩
        · left
          exact ⟨decide_eq_true h1, decide_eq_true h2, decide_eq_false h3, decide_eq_false fun h => h3 h.2.2.2.1⟩
      · left
        exact ⟨decide_eq_true h1, decide_eq_false h2, decide_eq_false fun h => h2 h.2.2.1⟩
    · left
      exact ⟨decide_eq_false h1, decide_eq_false fun h => h1 h.2.1⟩
  · left
    exact ⟨by simpa using h0, decide_eq_false fun h => h0 h.1⟩
set_option maxHeartbeats 400000 in
theorem fits_v (j k e n m : Int) (t : List UInt8) (A : Option Addr) (len cap : Nat) (s : Int) (w : World) :
    Calls Tryd.prog 14 #[.int .i64 j, ansV k e n m t A len cap s] w fun r w' => r = .returned (.bool (fitsB j k e s len)) ∧ Below w.heap.size w w' := by
  unfold ansV
  have hb := Lib.hid ((Below.refl w.heap.size w).alloc (Nat.le_refl _) (.cells (ansC k e n m t A len cap s) 26))
  unfold ansC at hb
  rcases fits_cases j k e s len with ⟨h0, hf⟩ | ⟨rfl, h⟩
  · rw [hf]
    clear hf
    go_enter Tryd.func14, Tryd.ntmps14
    go_wp2
    go_ret
    exact ⟨rfl, hb.out⟩
  rcases h with ⟨h1, hf⟩ | ⟨h1, h2, hf⟩ | ⟨h1, h2, h3, hf⟩ | ⟨h1, h2, h3, hf⟩
  all_goals
    rw [hf]
    clear hf
    go_enter Tryd.func14, Tryd.ntmps14
    go_wp2_with (first
      | (go_at_call 27; (with_reducible refine (isKind_v j _).mono ?_); rintro r w' ⟨rfl, rfl⟩; rw [h1])
      | (go_at_call 28; (first | (with_reducible refine (upTo_v 255 e _).mono ?_) | (with_reducible refine (upTo_v 64 s _).mono ?_)); rintro r w' ⟨rfl, rfl⟩; (first | rw [h2] | rw [h3])))
    go_ret
    exact ⟨rfl, hb.out⟩
theorem refFits_cases (j k e s : Int) (len : Nat) : ((k == j) = false ∧ fitsB j k e s len = false) ∨ (j = k ∧ (
    (¬ 1 ≤ k ∧ fitsB j k e s len = false) ∨ (1 ≤ k ∧ ¬ k ≤ 11 ∧ fitsB j k e s len = false) ∨ (1 ≤ k ∧ k ≤ 11 ∧ ¬ 0 ≤ e ∧ fitsB j k e s len = false) ∨
    (1 ≤ k ∧ k ≤ 11 ∧ 0 ≤ e ∧ ¬ e ≤ 255 ∧ fitsB j k e s len = false) ∨ (1 ≤ k ∧ k ≤ 11 ∧ 0 ≤ e ∧ e ≤ 255 ∧ ¬ 0 ≤ s ∧ fitsB j k e s len = false) ∨
    (1 ≤ k ∧ k ≤ 11 ∧ 0 ≤ e ∧ e ≤ 255 ∧ 0 ≤ s ∧ ¬ s ≤ 64 ∧ fitsB j k e s len = false) ∨ (1 ≤ k ∧ k ≤ 11 ∧ 0 ≤ e ∧ e ≤ 255 ∧ 0 ≤ s ∧ s ≤ 64 ∧ fitsB j k e s len = decide ((len : Int) ≤ 4096)))) := by
  by_cases h0 : k = j
  · right
    refine ⟨h0.symm, ?_⟩
    subst h0
    unfold fitsB
    by_cases h1 : 1 ≤ k
    case neg => exact .inl ⟨h1, decide_eq_false (by omega)⟩
    by_cases h2 : k ≤ 11
    case neg => exact .inr (.inl ⟨h1, h2, decide_eq_false (by omega)⟩)
    by_cases h3 : 0 ≤ e
    case neg => exact .inr (.inr (.inl ⟨h1, h2, h3, decide_eq_false (by omega)⟩))
    by_cases h4 : e ≤ 255
    case neg => exact .inr (.inr (.inr (.inl ⟨h1, h2, h3, h4, decide_eq_false (by omega)⟩)))
    by_cases h5 : 0 ≤ s
    case neg => exact .inr (.inr (.inr (.inr (.inl ⟨h1, h2, h3, h4, h5, decide_eq_false (by omega)⟩))))
    by_cases h6 : s ≤ 64
    case neg => exact .inr (.inr (.inr (.inr (.inr (.inl ⟨h1, h2, h3, h4, h5, h6, decide_eq_false (by omega)⟩)))))
    exact .inr (.inr (.inr (.inr (.inr (.inr ⟨h1, h2, h3, h4, h5, h6, by rw [decide_eq_decide]; omega⟩)))))
  · left
    exact ⟨by simpa using h0, decide_eq_false fun h => h0 h.1⟩
set_option maxHeartbeats 400000 in
theorem refFits_v (j k e n m : Int) (t : List UInt8) (A : Option Addr) (len cap : Nat) (s : Int) (w : World) :
    Calls Tryd.prog 15 #[.int .i64 j, ansV k e n m t A len cap s] w fun r w' => r = .returned (.bool (fitsB j k e s len)) ∧ Below w.heap.size w w' := by
  unfold ansV
  have hb := Lib.hid ((Below.refl w.heap.size w).alloc (Nat.le_refl _) (.cells (ansC k e n m t A len cap s) 26))
  unfold ansC at hb
  rcases refFits_cases j k e s len with ⟨h0, hf⟩ | ⟨rfl, h⟩
  · rw [hf]
    clear hf
    go_enter Tryd.func15, Tryd.ntmps15
    go_wp2
    go_ret
    exact ⟨rfl, hb.out⟩
  rcases h with ⟨h1, hf⟩ | ⟨h1, h2, hf⟩ | ⟨h1, h2, h3, hf⟩ | ⟨h1, h2, h3, h4, hf⟩ | ⟨h1, h2, h3, h4, h5, hf⟩ | ⟨h1, h2, h3, h4, h5, h6, hf⟩ | ⟨h1, h2, h3, h4, h5, h6, hf⟩
  all_goals
    rw [hf]
    clear hf
    go_enter Tryd.func15, Tryd.ntmps15
    go_wp2
    go_ret
    exact ⟨rfl, hb.out⟩
end Go.Proofs.YtbgojfgapbcanaaDoor
