/- The number of a text, where it has one. No premises. -/
import Derived.Test.YtcidklbeafjmoaaGreatDoorAi
namespace Go.Proofs.YtcidklbeafjmoaaGreatDoor
open Go.RowKit Go.Maps
namespace Ar
theorem parse_in (b : Nat) (hb : b = 8 ∨ b = 10 ∨ b = 16) (l : L) (W : World) (h0 : l ≠ []) (hd : l.all (isD b) = true) (hv : val b l < 9223372036854775808) (hl : l.length ≤ 5000) : Calls Tryz.prog 74 #[.string (mkS l), .int .i64 (b : Int), .int .i64 63] W fun e W' => e = .returned (.tuple #[.int .u64 (val b l : Nat), .nilIface]) ∧ Later W W' := by
  rcases hb with rfl | rfl | rfl
  · exact parse8 l W h0 hd hv hl
  · exact parse10 l W h0 hd hv hl
  · exact parse16 l W h0 hd hv hl
set_option maxRecDepth 100000 in
theorem parse_v (b : Nat) (hb : b = 8 ∨ b = 10 ∨ b = 16) (l : L) (W : World) (h0 : l ≠ []) (hd : l.all (isD b) = true) (hv : val b l < 9223372036854775808) (hl : l.length ≤ 5000) : Calls Tryz.prog 36 #[.string (mkS l), .int .i64 (b : Int), .int .i64 63] W fun e W' => e = .returned (.tuple #[.int .u64 (val b l : Nat), .nilIface]) ∧ Later W W' := by
  have HP := Lib.hid (parse_in b hb l W h0 hd hv hl)
  obtain ⟨v, hvv⟩ : ∃ v, v = val b l := ⟨_, rfl⟩
  rw [← hvv] at HP ⊢
  clear hvv hb h0 hd hv hl
  go_enter Tryz.func36, Tryz.ntmps36
  go_wp2_with (go_at_call 74; (with_reducible refine HP.out.mono ?_); rintro e w1 ⟨rfl, hl1⟩)
  go_ret2
  exact ⟨rfl, hl1⟩
abbrev PreC (l : L) (p : ByteArray) (b : Bool) : Prop := ∀ W, Calls Tryz.prog 35 #[.string (mkS l), .string p] W fun e W' => e = .returned (.bool b) ∧ W' = W
theorem pre_c (l p : L) (ps : ByteArray) (hps : ps = mkS p) (b : Bool) (hb : Lib.hasPrefix l p = b) : PreC l ps b := by subst hps; subst hb; exact pre_v l p
abbrev ParC (d : L) (b n : Int) : Prop := ∀ W, Calls Tryz.prog 36 #[.string (mkS d), .int .i64 b, .int .i64 63] W fun e W' => e = .returned (.tuple #[.int .u64 n, .nilIface]) ∧ Later W W'
theorem par_c {d : L} {b n : Nat} (hdl : d.length ≤ 5000) (hh : (if d ≠ [] ∧ d.all (isD b) = true ∧ val b d < 9223372036854775808 then some (val b d) else none) = some n) (hb : b = 8 ∨ b = 10 ∨ b = 16) : n < 9223372036854775808 ∧ ParC d (b : Int) (n : Int) := by
  split at hh
  · next hc =>
    injection hh with hh
    subst hh
    exact ⟨hc.2.2, fun W => parse_v b hb d W hc.1 hc.2.1 hc.2.2 hdl⟩
  · cases hh
set_option maxHeartbeats 1600000 in
set_option maxRecDepth 100000 in
theorem num_v (l : L) (n : Nat) (h : num l = some n) (hl : l.length ≤ 4000) (W : World) : Calls Tryz.prog 16 #[.string (mkS l)] W fun e W' => e = .returned (.tuple #[.int .i64 (n : Int), .bool true]) ∧ Later W W' := by
  have hp : ∀ p : L, Lib.hasPrefix l p = true → p.length ≤ l.length := fun p hp => (List.isPrefixOf_iff_prefix.1 hp).length_le
  unfold num at h
  cases hx : Lib.hasPrefix l [48, 120] with
  | true =>
    have H1 := Lib.hid (pre_c l [48, 120] ⟨#[48, 120]⟩ rfl true hx)
    have H2 := H1
    have H3 := H1
    rw [hx] at h
    simp only [Bool.true_or, if_true] at h
    have hx2 := hx
    obtain ⟨hn, hP⟩ := par_c (b := 16) (by rw [List.length_drop]; omega) h (by omega)
    have hlen := hp _ hx
    have HX := Lib.hid (drop_text l 2)
    have hsz : ((mkS l).size : Int) = (l.length : Nat) := by rw [mkS_size]
    obtain ⟨z, hz⟩ : ∃ z, z = l.length := ⟨_, rfl⟩
    rw [← hz] at hsz hlen
    have hz2 : (2 : Int) ≤ (z : Int) := by simp at hlen; omega
    clear hz hlen
    obtain ⟨a, ha⟩ : ∃ a : Int, a = (n : Int) := ⟨_, rfl⟩
    have hP2 : ParC (l.drop 2) 16 a := by rw [ha]; exact hP
    have HP := Lib.hid hP2
    have ha0 : 0 ≤ a := by omega
    have ha1 : a < 9223372036854775808 := by omega
    rw [← ha]
    clear h hP hP2 ha hn hx hx2
    go_enter Tryz.func16, Tryz.ntmps16
    go_wp2_with (first
          | (go_at_call 35; (with_reducible refine (H1.out _).mono ?_); rintro e w1 ⟨rfl, rfl⟩)
          | (go_at_call 35; (with_reducible refine (H2.out _).mono ?_); rintro e w1 ⟨rfl, rfl⟩)
          | (go_at_call 35; (with_reducible refine (H3.out _).mono ?_); rintro e w1 ⟨rfl, rfl⟩)
          | (go_at_call 36; (try rw [HX.out]); (with_reducible refine (HP.out _).mono ?_); rintro e w2 ⟨rfl, hl2⟩))
    go_ret2
    exact ⟨rfl, hl2⟩
  | false =>
    have H1 := Lib.hid (pre_c l [48, 120] ⟨#[48, 120]⟩ rfl false hx)
    cases hx2 : Lib.hasPrefix l [48, 88] with
    | true =>
      have H2 := Lib.hid (pre_c l [48, 88] ⟨#[48, 88]⟩ rfl true hx2)
      have H3 := H1
      rw [hx, hx2] at h
      simp only [Bool.or_true, if_true] at h
      obtain ⟨hn, hP⟩ := par_c (b := 16) (by rw [List.length_drop]; omega) h (by omega)
      have hlen := hp _ hx2
      have HX := Lib.hid (drop_text l 2)
      have hsz : ((mkS l).size : Int) = (l.length : Nat) := by rw [mkS_size]
      obtain ⟨z, hz⟩ : ∃ z, z = l.length := ⟨_, rfl⟩
      rw [← hz] at hsz hlen
      have hz2 : (2 : Int) ≤ (z : Int) := by simp at hlen; omega
      clear hz hlen
      obtain ⟨a, ha⟩ : ∃ a : Int, a = (n : Int) := ⟨_, rfl⟩
      have hP2 : ParC (l.drop 2) 16 a := by rw [ha]; exact hP
      have HP := Lib.hid hP2
      have ha0 : 0 ≤ a := by omega
      have ha1 : a < 9223372036854775808 := by omega
      rw [← ha]
      clear h hP hP2 ha hn hx hx2
      go_enter Tryz.func16, Tryz.ntmps16
      go_wp2_with (first
            | (go_at_call 35; (with_reducible refine (H1.out _).mono ?_); rintro e w1 ⟨rfl, rfl⟩)
            | (go_at_call 35; (with_reducible refine (H2.out _).mono ?_); rintro e w1 ⟨rfl, rfl⟩)
            | (go_at_call 35; (with_reducible refine (H3.out _).mono ?_); rintro e w1 ⟨rfl, rfl⟩)
            | (go_at_call 36; (try rw [HX.out]); (with_reducible refine (HP.out _).mono ?_); rintro e w2 ⟨rfl, hl2⟩))
      go_ret2
      exact ⟨rfl, hl2⟩
    | false =>
      have H2 := Lib.hid (pre_c l [48, 88] ⟨#[48, 88]⟩ rfl false hx2)
      rw [hx, hx2] at h
      simp only [Bool.or_false, Bool.false_eq_true, if_false] at h
      cases hx3 : Lib.hasPrefix l [48] with
      | true =>
        have H3 := Lib.hid (pre_c l [48] ⟨#[48]⟩ rfl true hx3)
        rw [hx3] at h
        simp only [if_true] at h
        clear hx3
        obtain ⟨hn, hP⟩ := par_c (b := 8) (by omega) h (by omega)
        obtain ⟨a, ha⟩ : ∃ a : Int, a = (n : Int) := ⟨_, rfl⟩
        have hP2 : ParC l 8 a := by rw [ha]; exact hP
        have HP := Lib.hid hP2
        have ha0 : 0 ≤ a := by omega
        have ha1 : a < 9223372036854775808 := by omega
        rw [← ha]
        clear h hP hP2 ha hn hx hx2
        go_enter Tryz.func16, Tryz.ntmps16
        go_wp2_with (first
              | (go_at_call 35; (with_reducible refine (H1.out _).mono ?_); rintro e w1 ⟨rfl, rfl⟩)
              | (go_at_call 35; (with_reducible refine (H2.out _).mono ?_); rintro e w1 ⟨rfl, rfl⟩)
              | (go_at_call 35; (with_reducible refine (H3.out _).mono ?_); rintro e w1 ⟨rfl, rfl⟩)
              | (go_at_call 36; (with_reducible refine (HP.out _).mono ?_); rintro e w2 ⟨rfl, hl2⟩))
        go_ret2
        exact ⟨rfl, hl2⟩
      | false =>
        have H3 := Lib.hid (pre_c l [48] ⟨#[48]⟩ rfl false hx3)
        rw [hx3] at h
        simp only [Bool.false_eq_true, if_false] at h
        clear hx3
        obtain ⟨hn, hP⟩ := par_c (b := 10) (by omega) h (by omega)
        obtain ⟨a, ha⟩ : ∃ a : Int, a = (n : Int) := ⟨_, rfl⟩
        have hP2 : ParC l 10 a := by rw [ha]; exact hP
        have HP := Lib.hid hP2
        have ha0 : 0 ≤ a := by omega
        have ha1 : a < 9223372036854775808 := by omega
        rw [← ha]
        clear h hP hP2 ha hn hx hx2
        go_enter Tryz.func16, Tryz.ntmps16
        go_wp2_with (first
              | (go_at_call 35; (with_reducible refine (H1.out _).mono ?_); rintro e w1 ⟨rfl, rfl⟩)
              | (go_at_call 35; (with_reducible refine (H2.out _).mono ?_); rintro e w1 ⟨rfl, rfl⟩)
              | (go_at_call 35; (with_reducible refine (H3.out _).mono ?_); rintro e w1 ⟨rfl, rfl⟩)
              | (go_at_call 36; (with_reducible refine (HP.out _).mono ?_); rintro e w2 ⟨rfl, hl2⟩))
        go_ret2
        exact ⟨rfl, hl2⟩
/-- What Number is of: a text that has a number. -/
theorem trim_v (l : L) (hl : l.length ≤ 4000) (W : World) : Calls Tryz.prog 14 #[.string (mkS l), .string ⟨#[32, 9, 10]⟩] W fun e W' => e = .returned (.string (mkS (trim l))) ∧ Below W.heap.size W W' :=
  Tryz.strings_Trim (mkS l) (mkS [32, 9, 10]) W (by rw [mkS_size]; omega) (by rw [mkS_size]; decide) (Go.Proofs.ascii_of_all (by decide)) |>.mono (by
    rintro e W' ⟨rfl, h⟩
    rw [mkS_list, mkS_list]
    exact ⟨rfl, h⟩)
theorem trim_len (l : L) : (trim l).length ≤ l.length := by
  unfold trim Lib.trimS Lib.trimLeftS Lib.trimRightS
  have h1 := (List.dropWhile_suffix (l := (l.reverse.dropWhile ([32, 9, 10].contains ·)).reverse) ([32, 9, 10].contains ·)).length_le
  have h2 := (List.dropWhile_suffix (l := l.reverse) ([32, 9, 10].contains ·)).length_le
  simp only [List.length_reverse] at h1 h2
  omega
set_option maxHeartbeats 1600000 in
set_option maxRecDepth 100000 in
theorem numV_v (l : L) (n : Int) (h : numV l = some n) (hl : l.length ≤ 4000) (W : World) : Calls Tryz.prog 9 #[.string (mkS l)] W fun e W' => e = .returned (.tuple #[.int .i64 n, .bool true]) ∧ Later W W' := by
  have HT := Lib.hid (trim_v l hl)
  have ht := trim_len l
  unfold numV at h
  dsimp only at h
  obtain ⟨t, htt⟩ : ∃ t, t = trim l := ⟨_, rfl⟩
  rw [← htt] at HT h ht
  clear htt
  have ht4 : t.length ≤ 4000 := by omega
  by_cases h0 : t = []
  · subst h0
    rw [if_pos rfl] at h
    injection h with h
    subst h
    have he : ((mkS []).toList == ([] : List UInt8)) = true := by rw [toList_mkS]; rfl
    clear ht hl ht4
    go_enter Tryz.func9, Tryz.ntmps9
    go_wp2_with (go_at_call 14; (with_reducible refine (HT.out _).mono ?_); rintro e w1 ⟨rfl, hb1⟩)
    go_ret2
    exact ⟨rfl, later_of_below hb1⟩
  · rw [if_neg h0] at h
    have he : ((mkS t).toList == ([] : List UInt8)) = false := by rw [toList_mkS]; exact beq_eq_false_iff_ne.2 h0
    have hcut := fun W => Tryz.strings_CutPrefix (mkS t) (mkS [45]) W
    have htp := fun W => Tryz.strings_TrimPrefix (mkS t) (mkS [43]) W
    simp only [mkS_list] at hcut htp
    have len : ∀ p : L, (Lib.trimPrefix t p).length ≤ t.length := fun p => by unfold Lib.trimPrefix; split; rw [List.length_drop]; omega; exact Nat.le_refl _
    cases hm : Lib.hasPrefix t [45] with
    | true =>
      rw [hm] at hcut h
      simp only [if_true] at h
      obtain ⟨k, hk1, hk2⟩ := Option.map_eq_some_iff.1 h
      have HN := Lib.hid (num_v _ k hk1 (by have := len [45]; omega))
      obtain ⟨d, hd⟩ : ∃ d, d = Lib.trimPrefix t [45] := ⟨_, rfl⟩
      rw [← hd] at HN hcut
      have HC := Lib.hid (show ∀ W, Calls Tryz.prog 15 #[.string (mkS t), .string ⟨#[45]⟩] W fun e W' => e = .returned (.tuple #[.string (mkS d), .bool true]) ∧ W' = W from hcut)
      have HK := Lib.hid hk2
      clear ht hl ht4 h hm hcut htp len hk1 hk2 hd h0
      go_enter Tryz.func9, Tryz.ntmps9
      go_wp2_with (first
        | (go_at_call 14; (with_reducible refine (HT.out _).mono ?_); rintro e w1 ⟨rfl, hb1⟩; have HB1 := Lib.hid (later_of_below hb1); clear hb1)
        | (go_at_call 15; (with_reducible refine (HC.out _).mono ?_); rintro e w2 ⟨rfl, rfl⟩)
        | (go_at_call 16; (with_reducible refine (HN.out _).mono ?_); rintro e w3 ⟨rfl, hl3⟩))
      go_ret2
      rw [← HK.out]
      exact ⟨rfl, HB1.out.trans hl3⟩
    | false =>
      rw [hm] at hcut h
      simp only [Bool.false_eq_true, if_false] at h
      obtain ⟨k, hk1, hk2⟩ := Option.map_eq_some_iff.1 h
      have HN := Lib.hid (num_v _ k hk1 (by have := len [43]; omega))
      obtain ⟨d, hd⟩ : ∃ d, d = Lib.trimPrefix t [43] := ⟨_, rfl⟩
      rw [← hd] at HN htp
      obtain ⟨d2, hd2⟩ : ∃ d2, d2 = Lib.trimPrefix t [45] := ⟨_, rfl⟩
      rw [← hd2] at hcut
      have HC := Lib.hid (show ∀ W, Calls Tryz.prog 15 #[.string (mkS t), .string ⟨#[45]⟩] W fun e W' => e = .returned (.tuple #[.string (mkS d2), .bool false]) ∧ W' = W from hcut)
      have HTP := Lib.hid (show ∀ W, Calls Tryz.prog 17 #[.string (mkS t), .string ⟨#[43]⟩] W fun e W' => e = .returned (.string (mkS d)) ∧ W' = W from htp)
      have HK := Lib.hid hk2
      clear ht hl ht4 h hm hcut htp len hk1 hk2 hd hd2 h0
      go_enter Tryz.func9, Tryz.ntmps9
      go_wp2_with (first
        | (go_at_call 14; (with_reducible refine (HT.out _).mono ?_); rintro e w1 ⟨rfl, hb1⟩; have HB1 := Lib.hid (later_of_below hb1); clear hb1)
        | (go_at_call 15; (with_reducible refine (HC.out _).mono ?_); rintro e w2 ⟨rfl, rfl⟩)
        | (go_at_call 17; (with_reducible refine (HTP.out _).mono ?_); rintro e w2 ⟨rfl, rfl⟩)
        | (go_at_call 16; (with_reducible refine (HN.out _).mono ?_); rintro e w3 ⟨rfl, hl3⟩))
      go_ret2
      rw [← HK.out]
      exact ⟨rfl, HB1.out.trans hl3⟩
end Ar
end Go.Proofs.YtcidklbeafjmoaaGreatDoor
