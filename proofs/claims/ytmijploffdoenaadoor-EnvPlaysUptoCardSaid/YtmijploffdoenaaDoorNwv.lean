/- awake: the document's example. Behind Vd. -/
import Derived.Test.YtmijploffdoenaaDoorNwu
namespace Go.Proofs.YtmijploffdoenaaDoor
open Go.RowKit Go.Maps
namespace En
def e0 : E := ⟨[], [[97], [98]], 0, []⟩
def e3 : E := ⟨[([121], [50])], [[97], [98]], 0, []⟩
theorem e3_eq : unsetE (set nm (set nm e0 [120] [49]) [121] [50]) [120] = e3 := by
  have h : (unsetE (set nm (set nm e0 [120] [49]) [121] [50]) [120]).vars = [([121], [50])] := by decide +kernel
  unfold e3
  rw [← h]
  rfl
theorem get3y : get nm e3 [121] = ([50], true) := by decide +kernel
theorem get3x : get nm e3 [120] = ([], false) := by decide +kernel
theorem get3s : get nm e3 [42] = ([97, 32, 98], true) := by decide +kernel
theorem flag3 : ({ e3 with flags := flag e3.flags 117 true } : E).flags.contains 117 = true := by decide +kernel
theorem ifs3 : ifs e3.vars = [32, 9, 10] := by decide +kernel
theorem same3 : eqE e3 e3 = true := by decide +kernel
theorem set_len_le (e : E) (s y : B) : (set nm e s y).vars.length ≤ e.vars.length + 1 := by
  unfold set
  split
  · show (put (unset e.vars s) s y).length ≤ _
    rw [put_len]
    have := List.length_filter_le (fun p : B × B => !decide (p.1 = s)) e.vars
    unfold unset
    omega
  · omega
theorem set_rises {e : E} (h : Rises e.vars) (s y : B) : Rises (set nm e s y).vars := by
  unfold set
  split
  · exact h.setV s y
  · exact h
theorem set_args (e : E) (s y : B) : (set nm e s y).args = e.args := by unfold set; split <;> rfl
set_option maxRecDepth 100000 in
set_option maxHeartbeats 12800000 in
theorem awake_v (W : World) (hd : Vd W) : Calls Tryd.prog 6 #[] W fun x W' => x = .returned (.bool true) ∧ Later W W' := by
  have r0 : Rises e0.vars := Rises.nil
  have HS1 := Lib.hid (show ∀ W' v, RdE W' v e0 → Calls Tryd.prog 8 #[v, .string ⟨#[120]⟩, .string ⟨#[49]⟩] W' fun x W'' => Told W' W'' x (set nm e0 [120] [49]) from fun W' v h => set_v v e0 [120] [49] W' h r0 (by decide) (by decide) (by decide))
  have HS2 := Lib.hid (show ∀ W' v, RdE W' v (set nm e0 [120] [49]) → Calls Tryd.prog 8 #[v, .string ⟨#[121]⟩, .string ⟨#[50]⟩] W' fun x W'' => Told W' W'' x (set nm (set nm e0 [120] [49]) [121] [50]) from fun W' v h => set_v v (set nm e0 [120] [49]) [121] [50] W' h (set_rises r0 _ _) (Nat.le_trans (set_len_le _ _ _) (by decide)) (by rw [set_args]; decide) (by decide))
  have HU3 := Lib.hid (show ∀ W' v, RdE W' v (set nm (set nm e0 [120] [49]) [121] [50]) → Calls Tryd.prog 10 #[v, .string ⟨#[120]⟩] W' fun x W'' => Told W' W'' x (unsetE (set nm (set nm e0 [120] [49]) [121] [50]) [120]) from fun W' v h => unset_v v (set nm (set nm e0 [120] [49]) [121] [50]) [120] W' h (set_rises (set_rises r0 _ _) _ _) (Nat.le_trans (set_len_le _ _ _) (Nat.le_trans (Nat.succ_le_succ (set_len_le _ _ _)) (by decide))) (by rw [set_args, set_args]; decide))
  rw [e3_eq] at HU3
  have HGY := Lib.hid (show ∀ W' v, RdE W' v e3 → Later W W' → Calls Tryd.prog 20 #[v, .string ⟨#[121]⟩] W' fun x W'' => x = .returned (.tuple #[.string ⟨#[50]⟩, .bool true]) ∧ Later W' W'' from fun W' v h hl => by
    have := get_v v e3 [121] W' h (hd.later hl) (by decide) (by decide) (by decide) (by decide) (by decide)
    rw [get3y] at this
    exact this)
  have HGX := Lib.hid (show ∀ W' v, RdE W' v e3 → Later W W' → Calls Tryd.prog 20 #[v, .string ⟨#[120]⟩] W' fun x W'' => x = .returned (.tuple #[.string ⟨#[]⟩, .bool false]) ∧ Later W' W'' from fun W' v h hl => by
    have := get_v v e3 [120] W' h (hd.later hl) (by decide) (by decide) (by decide) (by decide) (by decide)
    rw [get3x] at this
    exact this)
  have HGS := Lib.hid (show ∀ W' v, RdE W' v e3 → Later W W' → Calls Tryd.prog 20 #[v, .string ⟨#[42]⟩] W' fun x W'' => x = .returned (.tuple #[.string ⟨#[97, 32, 98]⟩, .bool true]) ∧ Later W' W'' from fun W' v h hl => by
    have := get_v v e3 [42] W' h (hd.later hl) (by decide) (by decide) (by decide) (by decide) (by decide)
    rw [get3s] at this
    exact this)
  have HFL := Lib.hid (show ∀ W' v, RdE W' v e3 → Calls Tryd.prog 12 #[v, .int .u8 117, .bool true] W' fun x W'' => Told W' W'' x { e3 with flags := flag e3.flags 117 true } from fun W' v h => flag_v v e3 117 true W' h (by decide) (by decide))
  have HHS := Lib.hid (show ∀ W' v, RdE W' v { e3 with flags := flag e3.flags 117 true } → Calls Tryd.prog 22 #[v, .int .u8 117] W' fun x W'' => x = .returned (.bool true) ∧ Later W' W'' from fun W' v h => by
    have := has_v v { e3 with flags := flag e3.flags 117 true } 117 W' h
    rw [flag3] at this
    exact this)
  have HIF := Lib.hid (show ∀ W' v, RdE W' v e3 → Calls Tryd.prog 17 #[v] W' fun x W'' => x = .returned (.string ⟨#[32, 9, 10]⟩) ∧ Later W' W'' from fun W' v h => by
    have := ifs_v v e3 W' h
    rw [ifs3] at this
    exact this)
  have HSM := Lib.hid (show ∀ W' v, RdE W' v e3 → Calls Tryd.prog 19 #[v, v] W' fun x W'' => x = .returned (.bool true) ∧ Later W' W'' from fun W' v h => by
    have := same_v v v e3 e3 W' h h
    rw [same3] at this
    exact this)
  clear hd r0
  have HR0 := Lib.hid (show RdE (W.alloc (.cells #[.string ⟨#[97]⟩, .string ⟨#[98]⟩] 9)) (.agg #[.slice none 0 0, .slice (some ⟨W.heap.size, 0, none⟩) 2 2, .int .i64 0, .string ⟨#[]⟩]) e0 from
    ⟨_, some ⟨W.heap.size, 0, none⟩, 2, 2, rfl, RdP.nil _ _, by rw [World.size_alloc]; exact Rd.lit W 9 [.string (mkS [97]), .string (mkS [98])], by omega, by omega⟩)
  have HL0 := Lib.hid (Later.alloc W (.cells #[.string ⟨#[97]⟩, .string ⟨#[98]⟩] 9))
  go_enter Tryd.func6, Tryd.ntmps6
  go_wp2_with fail
  go_at_call 8
  with_reducible refine (HS1.out _ _ HR0.out).mono ?_
  rintro x w1 ⟨⟨v1, rfl, hf1⟩, hl1⟩
  have HR1 := Lib.hid (And.intro hf1.rd (HL0.out.trans hl1))
  clear hf1 hl1
  go_wp2_with fail
  go_at_call 8
  with_reducible refine (HS2.out _ _ HR1.out.1).mono ?_
  rintro x w2 ⟨⟨v2, rfl, hf2⟩, hl2⟩
  have HR2 := Lib.hid (And.intro hf2.rd (HR1.out.2.trans hl2))
  clear hf2 hl2
  go_wp2_with fail
  go_at_call 10
  with_reducible refine (HU3.out _ _ HR2.out.1).mono ?_
  rintro x w3 ⟨⟨v3, rfl, hf3⟩, hl3⟩
  have hr3 := hf3.rd
  have hr3' := hr3
  obtain ⟨va, A4, n4, c4, rfl, hv4, _⟩ := hr3
  obtain ⟨A5, c5, hq, _⟩ := hv4.le
  rw [show e3.vars.length = 1 from rfl] at hq
  subst hq
  rw [show ((e3.status : Nat) : Int) = 0 from rfl, show mkS e3.flags = ⟨#[]⟩ from rfl] at hr3' ⊢
  obtain ⟨w4, hw4⟩ : ∃ w4, w4 = w3.alloc (.cells #[.slice A5 1 c5, .slice A4 n4 c4, .int .i64 0, .string ⟨#[]⟩] 28) := ⟨_, rfl⟩
  have HL4 := Lib.hid (show Later W w4 by rw [hw4]; exact HR2.out.2.trans (hl3.trans (Later.alloc _ _)))
  have HE := Lib.hid (show ∀ w, Later w4 w → RdE w (.agg #[.slice A5 1 c5, .slice A4 n4 c4, .int .i64 0, .string ⟨#[]⟩]) e3 from fun w hl => hr3'.later (Later.trans (by rw [hw4]; exact Later.alloc _ _) hl))
  have hnew : w4.heap[w3.heap.size]? = some (.cells #[.slice A5 1 c5, .slice A4 n4 c4, .int .i64 0, .string ⟨#[]⟩] 28 (0, 0)) := by rw [hw4]; exact heap_alloc_new w3 _
  have HBX := Lib.hid (show ∀ w, Later w4 w → w.cell? ⟨w3.heap.size, 0, none⟩ = some (.slice A5 1 c5) ∧ w.cell? ⟨w3.heap.size, 1, none⟩ = some (.slice A4 n4 c4) ∧ w.cell? ⟨w3.heap.size, 2, none⟩ = some (.int .i64 0) ∧ w.cell? ⟨w3.heap.size, 3, none⟩ = some (.string ⟨#[]⟩) from fun w hl =>
    ⟨(cell_row (later_cells hl hnew) 0).1, (cell_row (later_cells hl hnew) 1).1, (cell_row (later_cells hl hnew) 2).1, (cell_row (later_cells hl hnew) 3).1⟩)
  have HW4 := Lib.hid hw4
  have HC := Lib.hid (Later.refl w4)
  clear hf3 hl3 hv4 hr3' hnew
  go_wp2_with fail
  rw [← HW4.out]
  obtain ⟨q0, q1, q2, q3⟩ := HBX.out _ HC.out
  clear hw4
  have htl : ∀ l : B, (mkS l).toList = l := toList_mkS
  have f1 : ((⟨#[50]⟩ : ByteArray).toList == ([50] : List UInt8)) = true := by decide +kernel
  have f2 : ((⟨#[97, 32, 98]⟩ : ByteArray).toList == ([97, 32, 98] : List UInt8)) = true := by decide +kernel
  have f3 : ((⟨#[32, 9, 10]⟩ : ByteArray).toList == ([32, 9, 10] : List UInt8)) = true := by decide +kernel
  go_wp2_with (first
    | (go_at_call 20; (with_reducible refine (HGY.out _ _ (HE.out _ HC.out) (HL4.out.trans HC.out)).mono ?_); rintro x w9 ⟨rfl, hl9⟩; (have HC := Lib.hid (HC.out.trans hl9)); clear q0 q1 q2 q3; obtain ⟨q0, q1, q2, q3⟩ := HBX.out _ HC.out; clear hl9)
    | (go_at_call 20; (with_reducible refine (HGX.out _ _ (HE.out _ HC.out) (HL4.out.trans HC.out)).mono ?_); rintro x w9 ⟨rfl, hl9⟩; (have HC := Lib.hid (HC.out.trans hl9)); clear q0 q1 q2 q3; obtain ⟨q0, q1, q2, q3⟩ := HBX.out _ HC.out; clear hl9)
    | (go_at_call 20; (with_reducible refine (HGS.out _ _ (HE.out _ HC.out) (HL4.out.trans HC.out)).mono ?_); rintro x w9 ⟨rfl, hl9⟩; (have HC := Lib.hid (HC.out.trans hl9)); clear q0 q1 q2 q3; obtain ⟨q0, q1, q2, q3⟩ := HBX.out _ HC.out; clear hl9)
    | (go_at_call 12; (with_reducible refine (HFL.out _ _ (HE.out _ HC.out)).mono ?_); rintro x w9 ⟨⟨v9, rfl, hf9⟩, hl9⟩; (have HC := Lib.hid (HC.out.trans hl9)); (have HV9 := Lib.hid hf9.rd); clear q0 q1 q2 q3; obtain ⟨q0, q1, q2, q3⟩ := HBX.out _ HC.out; clear hl9 hf9)
    | (go_at_call 22; (with_reducible refine (HHS.out _ _ HV9.out).mono ?_); rintro x w9 ⟨rfl, hl9⟩; (have HC := Lib.hid (HC.out.trans hl9)); clear q0 q1 q2 q3; obtain ⟨q0, q1, q2, q3⟩ := HBX.out _ HC.out; clear hl9)
    | (go_at_call 17; (with_reducible refine (HIF.out _ _ (HE.out _ HC.out)).mono ?_); rintro x w9 ⟨rfl, hl9⟩; (have HC := Lib.hid (HC.out.trans hl9)); clear q0 q1 q2 q3; obtain ⟨q0, q1, q2, q3⟩ := HBX.out _ HC.out; clear hl9)
    | (go_at_call 19; (with_reducible refine (HSM.out _ _ (HE.out _ HC.out)).mono ?_); rintro x w9 ⟨rfl, hl9⟩; (have HC := Lib.hid (HC.out.trans hl9)); clear q0 q1 q2 q3; obtain ⟨q0, q1, q2, q3⟩ := HBX.out _ HC.out; clear hl9))
  go_ret
  exact ⟨rfl, HL4.out.trans HC.out⟩
end En
end Go.Proofs.YtmijploffdoenaaDoor
