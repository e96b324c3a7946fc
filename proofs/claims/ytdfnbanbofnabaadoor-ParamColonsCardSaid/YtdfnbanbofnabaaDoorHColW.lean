/- ParamColons: the walk of its text. No premises. -/
import Derived.Test.YtdfnbanbofnabaaDoorHe
namespace Go.Proofs.YtdfnbanbofnabaaDoor
open Go.RowKit Go.Maps
namespace paramColons
open Pm
theorem colon (op v : L) (b : Bool) (h : op = [45] ∨ op = [61] ∨ op = [63] ∨ op = [43]) : does (58 :: op) v b = does op v (b && !decide (v = [])) := by
  cases b with
  | false => rcases h with rfl | rfl | rfl | rfl <;> simp only [does, Bool.false_and, col2] <;> decide
  | true =>
    by_cases hv : v = []
    · subst hv
      rcases h with rfl | rfl | rfl | rfl <;> decide
    · rw [decide_eq_false hv]
      rcases h with rfl | rfl | rfl | rfl <;> simp only [does, Bool.not_false, Bool.and_true, col0 hv] <;> decide
theorem full (op v : L) (h : op = [45] ∨ op = [61] ∨ op = [63] ∨ op = [43]) (hv : v ≠ []) : does op v true = if op = [43] then 2 else 1 := by
  rcases h with rfl | rfl | rfl | rfl <;> simp only [does, col0 hv] <;> decide
set_option maxRecDepth 100000 in
set_option maxHeartbeats 3200000 in
theorem case0 (x : Int) (h0 : 0 ≤ x) (h1 : x ≤ 255) (hx : x.tmod 4 = 0) (v : L) (b : Bool) (w : World) (hT : Tb w) : Calls Tryd.prog 5 #[.int .u8 x, .string (mkS v), .bool b] w fun e w' => e = .returned (.bool true) ∧ Later w w' := by
  have HA := Lib.hid (awake_v w hT)
  obtain ⟨t, ht⟩ : ∃ t, t = (b && !decide (v = [])) := ⟨_, rfl⟩
  obtain ⟨z, hz⟩ : ∃ z, z = does [45] v t := ⟨_, rfl⟩
  have hcol := colon [45] v b (by decide)
  rw [← ht, ← hz] at hcol
  have hd1 : ∀ W, Calls Tryd.prog 7 #[.string ((⟨#[58]⟩ : ByteArray) ++ ⟨#[45]⟩), .string (mkS v), .bool b] W fun e w' => e = .returned (.int .i64 z) ∧ Later W w' := fun W => by
    rw [← hcol, show ((⟨#[58]⟩ : ByteArray) ++ ⟨#[45]⟩) = mkS (58 :: [45]) from mkS_add [58] [45]]
    exact does_v (58 :: [45]) v b W
  have hd2 : ∀ W, Calls Tryd.prog 7 #[.string ⟨#[45]⟩, .string (mkS v), .bool t] W fun e w' => e = .returned (.int .i64 z) ∧ Later W w' := fun W => by
    rw [hz]
    exact does_v [45] v t W
  have HD1 := Lib.hid hd1
  have HD2 := Lib.hid hd2
  have hns : ¬ v = [] → ((mkS v).toList == ([] : List UInt8)) = false := fun h => no v [] h
  clear hd1 hd2 hcol hz hT
  have fin : ∀ w5 : World, Later w w5 → True := fun _ _ => trivial
  clear fin
  cases b with
  | false =>
    obtain rfl : t = false := by rw [ht]; rfl
    clear ht hns
    go_enter Tryd.func5, Tryd.ntmps5
    go_wp2_with (first
      | (go_at_call 6; (with_reducible refine HA.out.mono ?_); rintro e w1 ⟨rfl, hl1⟩; have HL1 := Lib.hid (Later.trans hl1 (Later.alloc w1 (.cells #[.string ⟨#[45]⟩, .string ⟨#[61]⟩, .string ⟨#[63]⟩, .string ⟨#[43]⟩] 9))); clear hl1)
      | (go_at_call 7; (with_reducible refine (HD1.out _).mono ?_); rintro e w2 ⟨rfl, hl2⟩; have HL2 := Lib.hid (HL1.out.trans hl2); clear hl2)
      | (go_at_call 7; (with_reducible refine (HD2.out _).mono ?_); rintro e w3 ⟨rfl, hl3⟩; have HL3 := Lib.hid (HL2.out.trans hl3); clear hl3))
    go_ret
    exact ⟨rfl, HL3.out⟩
  | true =>
    by_cases hv : v = []
    · subst hv
      obtain rfl : t = false := by rw [ht]; rfl
      have hn := is_nil
      clear ht hns
      go_enter Tryd.func5, Tryd.ntmps5
      go_wp2_with (first
      | (go_at_call 6; (with_reducible refine HA.out.mono ?_); rintro e w1 ⟨rfl, hl1⟩; have HL1 := Lib.hid (Later.trans hl1 (Later.alloc w1 (.cells #[.string ⟨#[45]⟩, .string ⟨#[61]⟩, .string ⟨#[63]⟩, .string ⟨#[43]⟩] 9))); clear hl1)
      | (go_at_call 7; (with_reducible refine (HD1.out _).mono ?_); rintro e w2 ⟨rfl, hl2⟩; have HL2 := Lib.hid (HL1.out.trans hl2); clear hl2)
      | (go_at_call 7; (with_reducible refine (HD2.out _).mono ?_); rintro e w3 ⟨rfl, hl3⟩; have HL3 := Lib.hid (HL2.out.trans hl3); clear hl3))
      go_ret
      exact ⟨rfl, HL3.out⟩
    · obtain rfl : t = true := by rw [ht, decide_eq_false hv]; rfl
      have hd3 : ∀ W, Calls Tryd.prog 7 #[.string ⟨#[45]⟩, .string (mkS v), .bool true] W fun e w' => e = .returned (.int .i64 1) ∧ Later W w' := fun W => by
        have := does_v [45] v true W
        rw [full [45] v (by decide) hv] at this
        exact this
      have HD3 := Lib.hid hd3
      have hn := ne_nil hv
      have hie : (mkS v).toList.isEmpty = false := by rw [List.isEmpty_eq_false_iff]; exact hn
      clear ht hns hd3 hv
      go_enter Tryd.func5, Tryd.ntmps5
      go_wp2_with (first
      | (go_at_call 6; (with_reducible refine HA.out.mono ?_); rintro e w1 ⟨rfl, hl1⟩; have HL1 := Lib.hid (Later.trans hl1 (Later.alloc w1 (.cells #[.string ⟨#[45]⟩, .string ⟨#[61]⟩, .string ⟨#[63]⟩, .string ⟨#[43]⟩] 9))); clear hl1)
      | (go_at_call 7; (with_reducible refine (HD1.out _).mono ?_); rintro e w2 ⟨rfl, hl2⟩; have HL2 := Lib.hid (HL1.out.trans hl2); clear hl2)
      | (go_at_call 7; (with_reducible refine (HD2.out _).mono ?_); rintro e w3 ⟨rfl, hl3⟩; have HL3 := Lib.hid (HL2.out.trans hl3); clear hl3)
      | (go_at_call 7; (with_reducible refine (HD3.out _).mono ?_); rintro e w4 ⟨rfl, hl4⟩; have HL4 := Lib.hid (HL3.out.trans hl4); clear hl4))
      go_ret
      exact ⟨rfl, HL4.out⟩
set_option maxRecDepth 100000 in
set_option maxHeartbeats 3200000 in
theorem case1 (x : Int) (h0 : 0 ≤ x) (h1 : x ≤ 255) (hx : x.tmod 4 = 1) (v : L) (b : Bool) (w : World) (hT : Tb w) : Calls Tryd.prog 5 #[.int .u8 x, .string (mkS v), .bool b] w fun e w' => e = .returned (.bool true) ∧ Later w w' := by
  have HA := Lib.hid (awake_v w hT)
  obtain ⟨t, ht⟩ : ∃ t, t = (b && !decide (v = [])) := ⟨_, rfl⟩
  obtain ⟨z, hz⟩ : ∃ z, z = does [61] v t := ⟨_, rfl⟩
  have hcol := colon [61] v b (by decide)
  rw [← ht, ← hz] at hcol
  have hd1 : ∀ W, Calls Tryd.prog 7 #[.string ((⟨#[58]⟩ : ByteArray) ++ ⟨#[61]⟩), .string (mkS v), .bool b] W fun e w' => e = .returned (.int .i64 z) ∧ Later W w' := fun W => by
    rw [← hcol, show ((⟨#[58]⟩ : ByteArray) ++ ⟨#[61]⟩) = mkS (58 :: [61]) from mkS_add [58] [61]]
    exact does_v (58 :: [61]) v b W
  have hd2 : ∀ W, Calls Tryd.prog 7 #[.string ⟨#[61]⟩, .string (mkS v), .bool t] W fun e w' => e = .returned (.int .i64 z) ∧ Later W w' := fun W => by
    rw [hz]
    exact does_v [61] v t W
  have HD1 := Lib.hid hd1
  have HD2 := Lib.hid hd2
  have hns : ¬ v = [] → ((mkS v).toList == ([] : List UInt8)) = false := fun h => no v [] h
  clear hd1 hd2 hcol hz hT
  have fin : ∀ w5 : World, Later w w5 → True := fun _ _ => trivial
  clear fin
  cases b with
  | false =>
    obtain rfl : t = false := by rw [ht]; rfl
    clear ht hns
    go_enter Tryd.func5, Tryd.ntmps5
    go_wp2_with (first
      | (go_at_call 6; (with_reducible refine HA.out.mono ?_); rintro e w1 ⟨rfl, hl1⟩; have HL1 := Lib.hid (Later.trans hl1 (Later.alloc w1 (.cells #[.string ⟨#[45]⟩, .string ⟨#[61]⟩, .string ⟨#[63]⟩, .string ⟨#[43]⟩] 9))); clear hl1)
      | (go_at_call 7; (with_reducible refine (HD1.out _).mono ?_); rintro e w2 ⟨rfl, hl2⟩; have HL2 := Lib.hid (HL1.out.trans hl2); clear hl2)
      | (go_at_call 7; (with_reducible refine (HD2.out _).mono ?_); rintro e w3 ⟨rfl, hl3⟩; have HL3 := Lib.hid (HL2.out.trans hl3); clear hl3))
    go_ret
    exact ⟨rfl, HL3.out⟩
  | true =>
    by_cases hv : v = []
    · subst hv
      obtain rfl : t = false := by rw [ht]; rfl
      have hn := is_nil
      clear ht hns
      go_enter Tryd.func5, Tryd.ntmps5
      go_wp2_with (first
      | (go_at_call 6; (with_reducible refine HA.out.mono ?_); rintro e w1 ⟨rfl, hl1⟩; have HL1 := Lib.hid (Later.trans hl1 (Later.alloc w1 (.cells #[.string ⟨#[45]⟩, .string ⟨#[61]⟩, .string ⟨#[63]⟩, .string ⟨#[43]⟩] 9))); clear hl1)
      | (go_at_call 7; (with_reducible refine (HD1.out _).mono ?_); rintro e w2 ⟨rfl, hl2⟩; have HL2 := Lib.hid (HL1.out.trans hl2); clear hl2)
      | (go_at_call 7; (with_reducible refine (HD2.out _).mono ?_); rintro e w3 ⟨rfl, hl3⟩; have HL3 := Lib.hid (HL2.out.trans hl3); clear hl3))
      go_ret
      exact ⟨rfl, HL3.out⟩
    · obtain rfl : t = true := by rw [ht, decide_eq_false hv]; rfl
      have hd3 : ∀ W, Calls Tryd.prog 7 #[.string ⟨#[61]⟩, .string (mkS v), .bool true] W fun e w' => e = .returned (.int .i64 1) ∧ Later W w' := fun W => by
        have := does_v [61] v true W
        rw [full [61] v (by decide) hv] at this
        exact this
      have HD3 := Lib.hid hd3
      have hn := ne_nil hv
      have hie : (mkS v).toList.isEmpty = false := by rw [List.isEmpty_eq_false_iff]; exact hn
      clear ht hns hd3 hv
      go_enter Tryd.func5, Tryd.ntmps5
      go_wp2_with (first
      | (go_at_call 6; (with_reducible refine HA.out.mono ?_); rintro e w1 ⟨rfl, hl1⟩; have HL1 := Lib.hid (Later.trans hl1 (Later.alloc w1 (.cells #[.string ⟨#[45]⟩, .string ⟨#[61]⟩, .string ⟨#[63]⟩, .string ⟨#[43]⟩] 9))); clear hl1)
      | (go_at_call 7; (with_reducible refine (HD1.out _).mono ?_); rintro e w2 ⟨rfl, hl2⟩; have HL2 := Lib.hid (HL1.out.trans hl2); clear hl2)
      | (go_at_call 7; (with_reducible refine (HD2.out _).mono ?_); rintro e w3 ⟨rfl, hl3⟩; have HL3 := Lib.hid (HL2.out.trans hl3); clear hl3)
      | (go_at_call 7; (with_reducible refine (HD3.out _).mono ?_); rintro e w4 ⟨rfl, hl4⟩; have HL4 := Lib.hid (HL3.out.trans hl4); clear hl4))
      go_ret
      exact ⟨rfl, HL4.out⟩
set_option maxRecDepth 100000 in
set_option maxHeartbeats 3200000 in
theorem case2 (x : Int) (h0 : 0 ≤ x) (h1 : x ≤ 255) (hx : x.tmod 4 = 2) (v : L) (b : Bool) (w : World) (hT : Tb w) : Calls Tryd.prog 5 #[.int .u8 x, .string (mkS v), .bool b] w fun e w' => e = .returned (.bool true) ∧ Later w w' := by
  have HA := Lib.hid (awake_v w hT)
  obtain ⟨t, ht⟩ : ∃ t, t = (b && !decide (v = [])) := ⟨_, rfl⟩
  obtain ⟨z, hz⟩ : ∃ z, z = does [63] v t := ⟨_, rfl⟩
  have hcol := colon [63] v b (by decide)
  rw [← ht, ← hz] at hcol
  have hd1 : ∀ W, Calls Tryd.prog 7 #[.string ((⟨#[58]⟩ : ByteArray) ++ ⟨#[63]⟩), .string (mkS v), .bool b] W fun e w' => e = .returned (.int .i64 z) ∧ Later W w' := fun W => by
    rw [← hcol, show ((⟨#[58]⟩ : ByteArray) ++ ⟨#[63]⟩) = mkS (58 :: [63]) from mkS_add [58] [63]]
    exact does_v (58 :: [63]) v b W
  have hd2 : ∀ W, Calls Tryd.prog 7 #[.string ⟨#[63]⟩, .string (mkS v), .bool t] W fun e w' => e = .returned (.int .i64 z) ∧ Later W w' := fun W => by
    rw [hz]
    exact does_v [63] v t W
  have HD1 := Lib.hid hd1
  have HD2 := Lib.hid hd2
  have hns : ¬ v = [] → ((mkS v).toList == ([] : List UInt8)) = false := fun h => no v [] h
  clear hd1 hd2 hcol hz hT
  have fin : ∀ w5 : World, Later w w5 → True := fun _ _ => trivial
  clear fin
  cases b with
  | false =>
    obtain rfl : t = false := by rw [ht]; rfl
    clear ht hns
    go_enter Tryd.func5, Tryd.ntmps5
    go_wp2_with (first
      | (go_at_call 6; (with_reducible refine HA.out.mono ?_); rintro e w1 ⟨rfl, hl1⟩; have HL1 := Lib.hid (Later.trans hl1 (Later.alloc w1 (.cells #[.string ⟨#[45]⟩, .string ⟨#[61]⟩, .string ⟨#[63]⟩, .string ⟨#[43]⟩] 9))); clear hl1)
      | (go_at_call 7; (with_reducible refine (HD1.out _).mono ?_); rintro e w2 ⟨rfl, hl2⟩; have HL2 := Lib.hid (HL1.out.trans hl2); clear hl2)
      | (go_at_call 7; (with_reducible refine (HD2.out _).mono ?_); rintro e w3 ⟨rfl, hl3⟩; have HL3 := Lib.hid (HL2.out.trans hl3); clear hl3))
    go_ret
    exact ⟨rfl, HL3.out⟩
  | true =>
    by_cases hv : v = []
    · subst hv
      obtain rfl : t = false := by rw [ht]; rfl
      have hn := is_nil
      clear ht hns
      go_enter Tryd.func5, Tryd.ntmps5
      go_wp2_with (first
      | (go_at_call 6; (with_reducible refine HA.out.mono ?_); rintro e w1 ⟨rfl, hl1⟩; have HL1 := Lib.hid (Later.trans hl1 (Later.alloc w1 (.cells #[.string ⟨#[45]⟩, .string ⟨#[61]⟩, .string ⟨#[63]⟩, .string ⟨#[43]⟩] 9))); clear hl1)
      | (go_at_call 7; (with_reducible refine (HD1.out _).mono ?_); rintro e w2 ⟨rfl, hl2⟩; have HL2 := Lib.hid (HL1.out.trans hl2); clear hl2)
      | (go_at_call 7; (with_reducible refine (HD2.out _).mono ?_); rintro e w3 ⟨rfl, hl3⟩; have HL3 := Lib.hid (HL2.out.trans hl3); clear hl3))
      go_ret
      exact ⟨rfl, HL3.out⟩
    · obtain rfl : t = true := by rw [ht, decide_eq_false hv]; rfl
      have hd3 : ∀ W, Calls Tryd.prog 7 #[.string ⟨#[63]⟩, .string (mkS v), .bool true] W fun e w' => e = .returned (.int .i64 1) ∧ Later W w' := fun W => by
        have := does_v [63] v true W
        rw [full [63] v (by decide) hv] at this
        exact this
      have HD3 := Lib.hid hd3
      have hn := ne_nil hv
      have hie : (mkS v).toList.isEmpty = false := by rw [List.isEmpty_eq_false_iff]; exact hn
      clear ht hns hd3 hv
      go_enter Tryd.func5, Tryd.ntmps5
      go_wp2_with (first
      | (go_at_call 6; (with_reducible refine HA.out.mono ?_); rintro e w1 ⟨rfl, hl1⟩; have HL1 := Lib.hid (Later.trans hl1 (Later.alloc w1 (.cells #[.string ⟨#[45]⟩, .string ⟨#[61]⟩, .string ⟨#[63]⟩, .string ⟨#[43]⟩] 9))); clear hl1)
      | (go_at_call 7; (with_reducible refine (HD1.out _).mono ?_); rintro e w2 ⟨rfl, hl2⟩; have HL2 := Lib.hid (HL1.out.trans hl2); clear hl2)
      | (go_at_call 7; (with_reducible refine (HD2.out _).mono ?_); rintro e w3 ⟨rfl, hl3⟩; have HL3 := Lib.hid (HL2.out.trans hl3); clear hl3)
      | (go_at_call 7; (with_reducible refine (HD3.out _).mono ?_); rintro e w4 ⟨rfl, hl4⟩; have HL4 := Lib.hid (HL3.out.trans hl4); clear hl4))
      go_ret
      exact ⟨rfl, HL4.out⟩
set_option maxRecDepth 100000 in
set_option maxHeartbeats 3200000 in
theorem case3 (x : Int) (h0 : 0 ≤ x) (h1 : x ≤ 255) (hx : x.tmod 4 = 3) (v : L) (b : Bool) (w : World) (hT : Tb w) : Calls Tryd.prog 5 #[.int .u8 x, .string (mkS v), .bool b] w fun e w' => e = .returned (.bool true) ∧ Later w w' := by
  have HA := Lib.hid (awake_v w hT)
  obtain ⟨t, ht⟩ : ∃ t, t = (b && !decide (v = [])) := ⟨_, rfl⟩
  obtain ⟨z, hz⟩ : ∃ z, z = does [43] v t := ⟨_, rfl⟩
  have hcol := colon [43] v b (by decide)
  rw [← ht, ← hz] at hcol
  have hd1 : ∀ W, Calls Tryd.prog 7 #[.string ((⟨#[58]⟩ : ByteArray) ++ ⟨#[43]⟩), .string (mkS v), .bool b] W fun e w' => e = .returned (.int .i64 z) ∧ Later W w' := fun W => by
    rw [← hcol, show ((⟨#[58]⟩ : ByteArray) ++ ⟨#[43]⟩) = mkS (58 :: [43]) from mkS_add [58] [43]]
    exact does_v (58 :: [43]) v b W
  have hd2 : ∀ W, Calls Tryd.prog 7 #[.string ⟨#[43]⟩, .string (mkS v), .bool t] W fun e w' => e = .returned (.int .i64 z) ∧ Later W w' := fun W => by
    rw [hz]
    exact does_v [43] v t W
  have HD1 := Lib.hid hd1
  have HD2 := Lib.hid hd2
  have hns : ¬ v = [] → ((mkS v).toList == ([] : List UInt8)) = false := fun h => no v [] h
  clear hd1 hd2 hcol hz hT
  have fin : ∀ w5 : World, Later w w5 → True := fun _ _ => trivial
  clear fin
  cases b with
  | false =>
    obtain rfl : t = false := by rw [ht]; rfl
    clear ht hns
    go_enter Tryd.func5, Tryd.ntmps5
    go_wp2_with (first
      | (go_at_call 6; (with_reducible refine HA.out.mono ?_); rintro e w1 ⟨rfl, hl1⟩; have HL1 := Lib.hid (Later.trans hl1 (Later.alloc w1 (.cells #[.string ⟨#[45]⟩, .string ⟨#[61]⟩, .string ⟨#[63]⟩, .string ⟨#[43]⟩] 9))); clear hl1)
      | (go_at_call 7; (with_reducible refine (HD1.out _).mono ?_); rintro e w2 ⟨rfl, hl2⟩; have HL2 := Lib.hid (HL1.out.trans hl2); clear hl2)
      | (go_at_call 7; (with_reducible refine (HD2.out _).mono ?_); rintro e w3 ⟨rfl, hl3⟩; have HL3 := Lib.hid (HL2.out.trans hl3); clear hl3))
    go_ret
    exact ⟨rfl, HL3.out⟩
  | true =>
    by_cases hv : v = []
    · subst hv
      obtain rfl : t = false := by rw [ht]; rfl
      have hn := is_nil
      clear ht hns
      go_enter Tryd.func5, Tryd.ntmps5
      go_wp2_with (first
      | (go_at_call 6; (with_reducible refine HA.out.mono ?_); rintro e w1 ⟨rfl, hl1⟩; have HL1 := Lib.hid (Later.trans hl1 (Later.alloc w1 (.cells #[.string ⟨#[45]⟩, .string ⟨#[61]⟩, .string ⟨#[63]⟩, .string ⟨#[43]⟩] 9))); clear hl1)
      | (go_at_call 7; (with_reducible refine (HD1.out _).mono ?_); rintro e w2 ⟨rfl, hl2⟩; have HL2 := Lib.hid (HL1.out.trans hl2); clear hl2)
      | (go_at_call 7; (with_reducible refine (HD2.out _).mono ?_); rintro e w3 ⟨rfl, hl3⟩; have HL3 := Lib.hid (HL2.out.trans hl3); clear hl3))
      go_ret
      exact ⟨rfl, HL3.out⟩
    · obtain rfl : t = true := by rw [ht, decide_eq_false hv]; rfl
      have hd3 : ∀ W, Calls Tryd.prog 7 #[.string ⟨#[43]⟩, .string (mkS v), .bool true] W fun e w' => e = .returned (.int .i64 2) ∧ Later W w' := fun W => by
        have := does_v [43] v true W
        rw [full [43] v (by decide) hv] at this
        exact this
      have HD3 := Lib.hid hd3
      have hn := ne_nil hv
      have hie : (mkS v).toList.isEmpty = false := by rw [List.isEmpty_eq_false_iff]; exact hn
      clear ht hns hd3 hv
      go_enter Tryd.func5, Tryd.ntmps5
      go_wp2_with (first
      | (go_at_call 6; (with_reducible refine HA.out.mono ?_); rintro e w1 ⟨rfl, hl1⟩; have HL1 := Lib.hid (Later.trans hl1 (Later.alloc w1 (.cells #[.string ⟨#[45]⟩, .string ⟨#[61]⟩, .string ⟨#[63]⟩, .string ⟨#[43]⟩] 9))); clear hl1)
      | (go_at_call 7; (with_reducible refine (HD1.out _).mono ?_); rintro e w2 ⟨rfl, hl2⟩; have HL2 := Lib.hid (HL1.out.trans hl2); clear hl2)
      | (go_at_call 7; (with_reducible refine (HD2.out _).mono ?_); rintro e w3 ⟨rfl, hl3⟩; have HL3 := Lib.hid (HL2.out.trans hl3); clear hl3)
      | (go_at_call 7; (with_reducible refine (HD3.out _).mono ?_); rintro e w4 ⟨rfl, hl4⟩; have HL4 := Lib.hid (HL3.out.trans hl4); clear hl4))
      go_ret
      exact ⟨rfl, HL4.out⟩
theorem walk (w : World) (hT : Tb w) (x : Int) (hx : (Lit.int .u8 x).wf = true) (v : ByteArray) (_hv : v.size ≤ maxLen) (b : Bool) (_ : True) : Calls Tryd.prog 5 #[.int .u8 x, .string v, .bool b] w fun e w' => e = .returned (.bool true) ∧ Below w.heap.size w w' := by
  rw [← mkS_of v]
  obtain ⟨x0, x1⟩ := bounds_u8 hx
  have hm : x.tmod 4 = 0 ∨ x.tmod 4 = 1 ∨ x.tmod 4 = 2 ∨ x.tmod 4 = 3 := by
    rw [Int.tmod_eq_emod_of_nonneg x0]; omega
  rcases hm with h | h | h | h
  · exact case0 x x0 x1 h _ b w hT
  · exact case1 x x0 x1 h _ b w hT
  · exact case2 x x0 x1 h _ b w hT
  · exact case3 x x0 x1 h _ b w hT
end paramColons
end Go.Proofs.YtdfnbanbofnabaaDoor
