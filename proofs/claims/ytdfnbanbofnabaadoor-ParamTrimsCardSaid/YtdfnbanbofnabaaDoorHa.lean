/- What a parameter comes to by an operation, and whether that cuts. No premises. -/
import Derived.Test.YtdfnbanbofnabaaDoorGa
namespace Go.Proofs.YtdfnbanbofnabaaDoor
open Go.RowKit Go.Maps
namespace Pm
def without (op : L) : Int := if op = [45] then 2 else if op = [61] then 3 else if op = [63] then 4 else 5
def trims (op : L) : Bool := decide (op = [37] ∨ op = [37, 37] ∨ op = [35] ∨ op = [35, 35])
theorem is (t b : L) (v : Bool) (h : decide (t = b) = v) : ((mkS t).toList == b) = v := by
  rw [toList_mkS]
  subst h
  by_cases e : t = b
  · rw [decide_eq_true e]; exact beq_iff_eq.2 e
  · rw [decide_eq_false e]; exact beq_eq_false_iff_ne.2 e
theorem no (t b : L) (h : t ≠ b) : ((mkS t).toList == b) = false := is t b _ (decide_eq_false h)
set_option maxRecDepth 100000 in
set_option maxHeartbeats 1600000 in
theorem without_v (op : L) (w : World) : Calls Tryd.prog 14 #[.string (mkS op)] w fun e w' => e = .returned (.int .i64 (without op)) ∧ w' = w := by
  by_cases h1 : op = [45]
  · subst h1
    have e1 := is [45] [45] true (by decide)
    go_enter Tryd.func14, Tryd.ntmps14
    go_wp2
    go_ret
    exact ⟨rfl, rfl⟩
  have e1 := no op [45] h1
  by_cases h2 : op = [61]
  · subst h2
    have e2 := is [61] [61] true (by decide)
    go_enter Tryd.func14, Tryd.ntmps14
    go_wp2
    go_ret
    exact ⟨rfl, rfl⟩
  have e2 := no op [61] h2
  by_cases h3 : op = [63]
  · subst h3
    have e3 := is [63] [63] true (by decide)
    go_enter Tryd.func14, Tryd.ntmps14
    go_wp2
    go_ret
    exact ⟨rfl, rfl⟩
  have e3 := no op [63] h3
  have hw : without op = 5 := by unfold without; rw [if_neg h1, if_neg h2, if_neg h3]
  rw [hw]
  clear hw h1 h2 h3
  go_enter Tryd.func14, Tryd.ntmps14
  go_wp2
  go_ret
  exact ⟨rfl, rfl⟩
set_option maxRecDepth 100000 in
set_option maxHeartbeats 1600000 in
theorem Trims_v (op : L) (w : World) : Calls Tryd.prog 9 #[.string (mkS op)] w fun e w' => e = .returned (.bool (trims op)) ∧ w' = w := by
  by_cases h1 : op = [37]
  · subst h1
    have e1 := is [37] [37] true (by decide)
    go_enter Tryd.func9, Tryd.ntmps9
    go_wp2
    go_ret
    exact ⟨rfl, rfl⟩
  have e1 := no op [37] h1
  by_cases h2 : op = [37, 37]
  · subst h2
    have e2 := is [37, 37] [37, 37] true (by decide)
    go_enter Tryd.func9, Tryd.ntmps9
    go_wp2
    go_ret
    exact ⟨rfl, rfl⟩
  have e2 := no op [37, 37] h2
  by_cases h3 : op = [35]
  · subst h3
    have e3 := is [35] [35] true (by decide)
    go_enter Tryd.func9, Tryd.ntmps9
    go_wp2
    go_ret
    exact ⟨rfl, rfl⟩
  have e3 := no op [35] h3
  by_cases h4 : op = [35, 35]
  · subst h4
    have e4 := is [35, 35] [35, 35] true (by decide)
    go_enter Tryd.func9, Tryd.ntmps9
    go_wp2
    go_ret
    exact ⟨rfl, rfl⟩
  have e4 := no op [35, 35] h4
  have hw : trims op = false := by unfold trims; exact decide_eq_false (by simp [h1, h2, h3, h4])
  rw [hw]
  clear hw h1 h2 h3 h4
  go_enter Tryd.func9, Tryd.ntmps9
  go_wp2
  go_ret
  exact ⟨rfl, rfl⟩
end Pm
end Go.Proofs.YtdfnbanbofnabaaDoor
