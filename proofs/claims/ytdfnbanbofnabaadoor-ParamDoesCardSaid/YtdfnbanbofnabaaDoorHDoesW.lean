/- ParamDoes: the walk of its text. No premises. -/
import Derived.Test.YtdfnbanbofnabaaDoorHe
namespace Go.Proofs.YtdfnbanbofnabaaDoor
open Go.RowKit Go.Maps
namespace paramDoes
open Pm
set_option maxRecDepth 100000 in
set_option maxHeartbeats 3200000 in
theorem case0  (v : L) (b : Bool) (w : World) (hT : Tb w) (hv : v.length ≤ 9223372036854775807) : Calls Tryd.prog 3 #[.string (mkS [37]), .string (mkS v), .bool b] w fun e w' => e = .returned (.bool true) ∧ Later w w' := by
  have hsi : ((mkS v).size : Int) = (v.length : Int) := by rw [mkS_size]
  have HT := Lib.hid hT
  have HA := Lib.hid (awake_v w hT)
  obtain ⟨z, hz⟩ : ∃ z, z = does [37] v b := ⟨_, rfl⟩
  have HD := Lib.hid (fun W => does_v [37] v b W)
  have HR := Lib.hid (fun W => ref_v [37] v b W)
  rw [← hz] at HD HR
  have HTR := Lib.hid (fun W => Trims_v [37] W)
  rw [show trims [37] = true from by decide] at HTR
  have HN := Lib.hid (fun W (h : Tb W) => Len_v v hv W h)
  have HG := Lib.hid (fun W => digits_v v.length (by omega) W)
  obtain ⟨t, ht⟩ : ∃ t, t = Lib.decDigits v.length := ⟨_, rfl⟩
  rw [← ht] at HN HG
  have he : ((mkS t).toList == (mkS t).toList) = true := beq_self_eq_true _
  have e0 := is [37] [37] true (by decide)
  have e1 := is [37] [37, 37] false (by decide)
  have e2 := is [37] [35] false (by decide)
  have e3 := is [37] [35, 35] false (by decide)
  clear hz ht hT
  have hv0 : (0 : Int) ≤ (v.length : Int) := by omega
  have hv1 : (v.length : Int) ≤ 9223372036854775807 := by omega
  go_enter Tryd.func3, Tryd.ntmps3
  by_cases h2 : (2000 : Int) < (v.length : Int)
  · go_wp2_with (go_at_call 6; (with_reducible refine HA.out.mono ?_); rintro e w1 ⟨rfl, hl1⟩; have HL1 := Lib.hid hl1; clear hl1)
    go_ret
    exact ⟨rfl, HL1.out⟩
  · go_wp2_with (first
      | (go_at_call 6; (with_reducible refine HA.out.mono ?_); rintro e w1 ⟨rfl, hl1⟩; have HL1 := Lib.hid hl1; clear hl1)
      | (go_at_call 7; (with_reducible refine (HD.out _).mono ?_); rintro e w2 ⟨rfl, hl2⟩; have HL2 := Lib.hid (HL1.out.trans hl2); clear hl2)
      | (go_at_call 8; (with_reducible refine (HR.out _).mono ?_); rintro e w3 ⟨rfl, hl3⟩; have HL3 := Lib.hid (HL2.out.trans hl3); clear hl3)
      | (go_at_call 9; (with_reducible refine (HTR.out _).mono ?_); rintro e w4 ⟨rfl, rfl⟩)
      | (go_at_call 10; (with_reducible refine (HN.out _ (HT.out.later HL3.out)).mono ?_); rintro e w5 ⟨rfl, hl5⟩; have HL5 := Lib.hid (HL3.out.trans hl5); clear hl5)
      | (go_at_call 11; (with_reducible refine (HG.out _).mono ?_); rintro e w6 ⟨rfl, hl6⟩; have HL6 := Lib.hid (HL5.out.trans hl6); clear hl6))
    go_ret
    exact ⟨rfl, HL6.out⟩
set_option maxRecDepth 100000 in
set_option maxHeartbeats 3200000 in
theorem case1  (v : L) (b : Bool) (w : World) (hT : Tb w) (hv : v.length ≤ 9223372036854775807) : Calls Tryd.prog 3 #[.string (mkS [37, 37]), .string (mkS v), .bool b] w fun e w' => e = .returned (.bool true) ∧ Later w w' := by
  have hsi : ((mkS v).size : Int) = (v.length : Int) := by rw [mkS_size]
  have HT := Lib.hid hT
  have HA := Lib.hid (awake_v w hT)
  obtain ⟨z, hz⟩ : ∃ z, z = does [37, 37] v b := ⟨_, rfl⟩
  have HD := Lib.hid (fun W => does_v [37, 37] v b W)
  have HR := Lib.hid (fun W => ref_v [37, 37] v b W)
  rw [← hz] at HD HR
  have HTR := Lib.hid (fun W => Trims_v [37, 37] W)
  rw [show trims [37, 37] = true from by decide] at HTR
  have HN := Lib.hid (fun W (h : Tb W) => Len_v v hv W h)
  have HG := Lib.hid (fun W => digits_v v.length (by omega) W)
  obtain ⟨t, ht⟩ : ∃ t, t = Lib.decDigits v.length := ⟨_, rfl⟩
  rw [← ht] at HN HG
  have he : ((mkS t).toList == (mkS t).toList) = true := beq_self_eq_true _
  have e0 := is [37, 37] [37] false (by decide)
  have e1 := is [37, 37] [37, 37] true (by decide)
  have e2 := is [37, 37] [35] false (by decide)
  have e3 := is [37, 37] [35, 35] false (by decide)
  clear hz ht hT
  have hv0 : (0 : Int) ≤ (v.length : Int) := by omega
  have hv1 : (v.length : Int) ≤ 9223372036854775807 := by omega
  go_enter Tryd.func3, Tryd.ntmps3
  by_cases h2 : (2000 : Int) < (v.length : Int)
  · go_wp2_with (go_at_call 6; (with_reducible refine HA.out.mono ?_); rintro e w1 ⟨rfl, hl1⟩; have HL1 := Lib.hid hl1; clear hl1)
    go_ret
    exact ⟨rfl, HL1.out⟩
  · go_wp2_with (first
      | (go_at_call 6; (with_reducible refine HA.out.mono ?_); rintro e w1 ⟨rfl, hl1⟩; have HL1 := Lib.hid hl1; clear hl1)
      | (go_at_call 7; (with_reducible refine (HD.out _).mono ?_); rintro e w2 ⟨rfl, hl2⟩; have HL2 := Lib.hid (HL1.out.trans hl2); clear hl2)
      | (go_at_call 8; (with_reducible refine (HR.out _).mono ?_); rintro e w3 ⟨rfl, hl3⟩; have HL3 := Lib.hid (HL2.out.trans hl3); clear hl3)
      | (go_at_call 9; (with_reducible refine (HTR.out _).mono ?_); rintro e w4 ⟨rfl, rfl⟩)
      | (go_at_call 10; (with_reducible refine (HN.out _ (HT.out.later HL3.out)).mono ?_); rintro e w5 ⟨rfl, hl5⟩; have HL5 := Lib.hid (HL3.out.trans hl5); clear hl5)
      | (go_at_call 11; (with_reducible refine (HG.out _).mono ?_); rintro e w6 ⟨rfl, hl6⟩; have HL6 := Lib.hid (HL5.out.trans hl6); clear hl6))
    go_ret
    exact ⟨rfl, HL6.out⟩
set_option maxRecDepth 100000 in
set_option maxHeartbeats 3200000 in
theorem case2  (v : L) (b : Bool) (w : World) (hT : Tb w) (hv : v.length ≤ 9223372036854775807) : Calls Tryd.prog 3 #[.string (mkS [35]), .string (mkS v), .bool b] w fun e w' => e = .returned (.bool true) ∧ Later w w' := by
  have hsi : ((mkS v).size : Int) = (v.length : Int) := by rw [mkS_size]
  have HT := Lib.hid hT
  have HA := Lib.hid (awake_v w hT)
  obtain ⟨z, hz⟩ : ∃ z, z = does [35] v b := ⟨_, rfl⟩
  have HD := Lib.hid (fun W => does_v [35] v b W)
  have HR := Lib.hid (fun W => ref_v [35] v b W)
  rw [← hz] at HD HR
  have HTR := Lib.hid (fun W => Trims_v [35] W)
  rw [show trims [35] = true from by decide] at HTR
  have HN := Lib.hid (fun W (h : Tb W) => Len_v v hv W h)
  have HG := Lib.hid (fun W => digits_v v.length (by omega) W)
  obtain ⟨t, ht⟩ : ∃ t, t = Lib.decDigits v.length := ⟨_, rfl⟩
  rw [← ht] at HN HG
  have he : ((mkS t).toList == (mkS t).toList) = true := beq_self_eq_true _
  have e0 := is [35] [37] false (by decide)
  have e1 := is [35] [37, 37] false (by decide)
  have e2 := is [35] [35] true (by decide)
  have e3 := is [35] [35, 35] false (by decide)
  clear hz ht hT
  have hv0 : (0 : Int) ≤ (v.length : Int) := by omega
  have hv1 : (v.length : Int) ≤ 9223372036854775807 := by omega
  go_enter Tryd.func3, Tryd.ntmps3
  by_cases h2 : (2000 : Int) < (v.length : Int)
  · go_wp2_with (go_at_call 6; (with_reducible refine HA.out.mono ?_); rintro e w1 ⟨rfl, hl1⟩; have HL1 := Lib.hid hl1; clear hl1)
    go_ret
    exact ⟨rfl, HL1.out⟩
  · go_wp2_with (first
      | (go_at_call 6; (with_reducible refine HA.out.mono ?_); rintro e w1 ⟨rfl, hl1⟩; have HL1 := Lib.hid hl1; clear hl1)
      | (go_at_call 7; (with_reducible refine (HD.out _).mono ?_); rintro e w2 ⟨rfl, hl2⟩; have HL2 := Lib.hid (HL1.out.trans hl2); clear hl2)
      | (go_at_call 8; (with_reducible refine (HR.out _).mono ?_); rintro e w3 ⟨rfl, hl3⟩; have HL3 := Lib.hid (HL2.out.trans hl3); clear hl3)
      | (go_at_call 9; (with_reducible refine (HTR.out _).mono ?_); rintro e w4 ⟨rfl, rfl⟩)
      | (go_at_call 10; (with_reducible refine (HN.out _ (HT.out.later HL3.out)).mono ?_); rintro e w5 ⟨rfl, hl5⟩; have HL5 := Lib.hid (HL3.out.trans hl5); clear hl5)
      | (go_at_call 11; (with_reducible refine (HG.out _).mono ?_); rintro e w6 ⟨rfl, hl6⟩; have HL6 := Lib.hid (HL5.out.trans hl6); clear hl6))
    go_ret
    exact ⟨rfl, HL6.out⟩
set_option maxRecDepth 100000 in
set_option maxHeartbeats 3200000 in
theorem case3  (v : L) (b : Bool) (w : World) (hT : Tb w) (hv : v.length ≤ 9223372036854775807) : Calls Tryd.prog 3 #[.string (mkS [35, 35]), .string (mkS v), .bool b] w fun e w' => e = .returned (.bool true) ∧ Later w w' := by
  have hsi : ((mkS v).size : Int) = (v.length : Int) := by rw [mkS_size]
  have HT := Lib.hid hT
  have HA := Lib.hid (awake_v w hT)
  obtain ⟨z, hz⟩ : ∃ z, z = does [35, 35] v b := ⟨_, rfl⟩
  have HD := Lib.hid (fun W => does_v [35, 35] v b W)
  have HR := Lib.hid (fun W => ref_v [35, 35] v b W)
  rw [← hz] at HD HR
  have HTR := Lib.hid (fun W => Trims_v [35, 35] W)
  rw [show trims [35, 35] = true from by decide] at HTR
  have HN := Lib.hid (fun W (h : Tb W) => Len_v v hv W h)
  have HG := Lib.hid (fun W => digits_v v.length (by omega) W)
  obtain ⟨t, ht⟩ : ∃ t, t = Lib.decDigits v.length := ⟨_, rfl⟩
  rw [← ht] at HN HG
  have he : ((mkS t).toList == (mkS t).toList) = true := beq_self_eq_true _
  have e0 := is [35, 35] [37] false (by decide)
  have e1 := is [35, 35] [37, 37] false (by decide)
  have e2 := is [35, 35] [35] false (by decide)
  have e3 := is [35, 35] [35, 35] true (by decide)
  clear hz ht hT
  have hv0 : (0 : Int) ≤ (v.length : Int) := by omega
  have hv1 : (v.length : Int) ≤ 9223372036854775807 := by omega
  go_enter Tryd.func3, Tryd.ntmps3
  by_cases h2 : (2000 : Int) < (v.length : Int)
  · go_wp2_with (go_at_call 6; (with_reducible refine HA.out.mono ?_); rintro e w1 ⟨rfl, hl1⟩; have HL1 := Lib.hid hl1; clear hl1)
    go_ret
    exact ⟨rfl, HL1.out⟩
  · go_wp2_with (first
      | (go_at_call 6; (with_reducible refine HA.out.mono ?_); rintro e w1 ⟨rfl, hl1⟩; have HL1 := Lib.hid hl1; clear hl1)
      | (go_at_call 7; (with_reducible refine (HD.out _).mono ?_); rintro e w2 ⟨rfl, hl2⟩; have HL2 := Lib.hid (HL1.out.trans hl2); clear hl2)
      | (go_at_call 8; (with_reducible refine (HR.out _).mono ?_); rintro e w3 ⟨rfl, hl3⟩; have HL3 := Lib.hid (HL2.out.trans hl3); clear hl3)
      | (go_at_call 9; (with_reducible refine (HTR.out _).mono ?_); rintro e w4 ⟨rfl, rfl⟩)
      | (go_at_call 10; (with_reducible refine (HN.out _ (HT.out.later HL3.out)).mono ?_); rintro e w5 ⟨rfl, hl5⟩; have HL5 := Lib.hid (HL3.out.trans hl5); clear hl5)
      | (go_at_call 11; (with_reducible refine (HG.out _).mono ?_); rintro e w6 ⟨rfl, hl6⟩; have HL6 := Lib.hid (HL5.out.trans hl6); clear hl6))
    go_ret
    exact ⟨rfl, HL6.out⟩
set_option maxRecDepth 100000 in
set_option maxHeartbeats 3200000 in
theorem case4 (op : L) (h0 : op ≠ [37]) (h1 : op ≠ [37, 37]) (h2 : op ≠ [35]) (h3 : op ≠ [35, 35]) (v : L) (b : Bool) (w : World) (hT : Tb w) (hv : v.length ≤ 9223372036854775807) : Calls Tryd.prog 3 #[.string (mkS op), .string (mkS v), .bool b] w fun e w' => e = .returned (.bool true) ∧ Later w w' := by
  have hsi : ((mkS v).size : Int) = (v.length : Int) := by rw [mkS_size]
  have HT := Lib.hid hT
  have HA := Lib.hid (awake_v w hT)
  obtain ⟨z, hz⟩ : ∃ z, z = does op v b := ⟨_, rfl⟩
  have HD := Lib.hid (fun W => does_v op v b W)
  have HR := Lib.hid (fun W => ref_v op v b W)
  rw [← hz] at HD HR
  have HTR := Lib.hid (fun W => Trims_v op W)
  rw [show trims op = false from decide_eq_false (by simp [h0, h1, h2, h3])] at HTR
  have HN := Lib.hid (fun W (h : Tb W) => Len_v v hv W h)
  have HG := Lib.hid (fun W => digits_v v.length (by omega) W)
  obtain ⟨t, ht⟩ : ∃ t, t = Lib.decDigits v.length := ⟨_, rfl⟩
  rw [← ht] at HN HG
  have he : ((mkS t).toList == (mkS t).toList) = true := beq_self_eq_true _
  have e0 := no op [37] h0
  have e1 := no op [37, 37] h1
  have e2 := no op [35] h2
  have e3 := no op [35, 35] h3
  clear hz ht hT h0 h1 h2 h3
  have hv0 : (0 : Int) ≤ (v.length : Int) := by omega
  have hv1 : (v.length : Int) ≤ 9223372036854775807 := by omega
  go_enter Tryd.func3, Tryd.ntmps3
  by_cases h2 : (2000 : Int) < (v.length : Int)
  · go_wp2_with (go_at_call 6; (with_reducible refine HA.out.mono ?_); rintro e w1 ⟨rfl, hl1⟩; have HL1 := Lib.hid hl1; clear hl1)
    go_ret
    exact ⟨rfl, HL1.out⟩
  · go_wp2_with (first
      | (go_at_call 6; (with_reducible refine HA.out.mono ?_); rintro e w1 ⟨rfl, hl1⟩; have HL1 := Lib.hid hl1; clear hl1)
      | (go_at_call 7; (with_reducible refine (HD.out _).mono ?_); rintro e w2 ⟨rfl, hl2⟩; have HL2 := Lib.hid (HL1.out.trans hl2); clear hl2)
      | (go_at_call 8; (with_reducible refine (HR.out _).mono ?_); rintro e w3 ⟨rfl, hl3⟩; have HL3 := Lib.hid (HL2.out.trans hl3); clear hl3)
      | (go_at_call 9; (with_reducible refine (HTR.out _).mono ?_); rintro e w4 ⟨rfl, rfl⟩)
      | (go_at_call 10; (with_reducible refine (HN.out _ (HT.out.later HL3.out)).mono ?_); rintro e w5 ⟨rfl, hl5⟩; have HL5 := Lib.hid (HL3.out.trans hl5); clear hl5)
      | (go_at_call 11; (with_reducible refine (HG.out _).mono ?_); rintro e w6 ⟨rfl, hl6⟩; have HL6 := Lib.hid (HL5.out.trans hl6); clear hl6))
    go_ret
    exact ⟨rfl, HL6.out⟩
theorem walk (w : World) (hT : Tb w) (op : ByteArray) (_hop : op.size ≤ maxLen) (v : ByteArray) (hv : v.size ≤ maxLen) (b : Bool) (_ : True) : Calls Tryd.prog 3 #[.string op, .string v, .bool b] w fun e w' => e = .returned (.bool true) ∧ Below w.heap.size w w' := by
  rw [← mkS_of op, ← mkS_of v]
  obtain ⟨s, hs⟩ : ∃ s, s = op.data.toList := ⟨_, rfl⟩
  have h : v.data.toList.length ≤ 9223372036854775807 := by
    have := mkS_size v.data.toList
    rw [mkS_of] at this
    unfold maxLen at hv
    omega
  rw [← hs]
  clear hs
  by_cases h0 : s = [37]
  · subst h0; exact case0 _ b w hT h
  by_cases h1 : s = [37, 37]
  · subst h1; exact case1 _ b w hT h
  by_cases h2 : s = [35]
  · subst h2; exact case2 _ b w hT h
  by_cases h3 : s = [35, 35]
  · subst h3; exact case3 _ b w hT h
  exact case4 s h0 h1 h2 h3 _ b w hT h
end paramDoes
end Go.Proofs.YtdfnbanbofnabaaDoor
