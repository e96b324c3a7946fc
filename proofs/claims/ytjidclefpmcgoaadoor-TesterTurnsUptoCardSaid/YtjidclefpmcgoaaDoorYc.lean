/- The library's ParseUint at 16 with sixty-three bits, of any text. No premises. -/
import Derived.Test.YtjidclefpmcgoaaDoorYa
namespace Go.Proofs.YtjidclefpmcgoaaDoor
open Go.RowKit Go.Maps
namespace Ar
set_option maxHeartbeats 6400000 in
set_option maxRecDepth 100000 in
theorem pu_16 (l : L) (W : World) (h0 : l ≠ []) (hl : l.length ≤ 2000000) : Calls Tryd.prog 61 #[.string (mkS l), .int .i64 16, .int .i64 63] W fun e W' => (∃ x q, e = .returned (.tuple #[.int .u64 x, q]) ∧ PuOk 16 l x q) ∧ Later W W' := by
  have he : ((mkS l).toList == ([] : List UInt8)) = false := by rw [toList_mkS]; exact beq_eq_false_iff_ne.2 h0
  obtain ⟨cp, W2, hcv, hl2, hr2⟩ := conv_str W l W.heap.size rfl
  obtain ⟨n, hn⟩ : ∃ n, n = l.length := ⟨_, rfl⟩
  rw [← hn] at hcv hr2 hl
  have HL2 := Lib.hid hl2
  have HR := Lib.hid hr2
  have HN := Lib.hid hn
  clear hl2 hr2 hn h0
  go_enter Tryd.func61, Tryd.ntmps61
  go_wp2
  go_loopw [12, 13, 101] (fun us v i wr => ∃ (k : Nat) (a : Int), k ≤ n ∧ us = .bool false ∧ i = .int .i64 (k : Int) ∧ v = .int .u64 a ∧ wr = W2 ∧ Hid (a = (val 16 (l.take k) : Nat) ∧ a < 9223372036854775808 ∧ (l.take k).all (isD 16) = true)) (fun _ _ i _ => n - (intOf i).toNat)
  case atStart => exact ⟨0, 0, by omega, rfl, rfl, rfl, rfl, Lib.hid ⟨rfl, by omega, rfl⟩⟩
  case round =>
    obtain ⟨k, a, hk, rfl, rfl, rfl, hw, hm⟩ := hrel
    have hw := hw.symm
    subst hw
    have hk0 : (0 : Int) ≤ (k : Int) := by omega
    by_cases hkn : k < n
    · have hk1 : (k : Int) < (n : Int) := by omega
      have hlk : k < l.length := by have := HN.out; omega
      obtain ⟨ad, _, had, _, hcell⟩ := HR.out.byte hkn
      obtain ⟨c, hc⟩ : ∃ c, c = l[k] := ⟨_, rfl⟩
      rw [← hc] at hcell
      injection had with had
      rw [← had, add_lit0] at hcell
      have HVS := Lib.hid (val_step 16 hlk)
      rw [← hc] at HVS
      obtain ⟨x, hx⟩ : ∃ x, x = c.toNat := ⟨_, rfl⟩
      obtain ⟨y, hy⟩ : ∃ y, y = (c ||| 32).toNat := ⟨_, rfl⟩
      have hx256 : x < 256 := by rw [hx]; exact UInt8.toNat_lt c
      have hy256 : y < 256 := by rw [hy]; exact UInt8.toNat_lt _
      have hcell3 : W2.cell? ⟨W.heap.size, k, none⟩ = some (.int .u8 (x : Int)) := by rw [hx]; exact hcell
      have hw1 : wrap64 ((k : Int) + 1) = (k : Int) + 1 := w64 _ (by omega)
      have ai0 : 0 ≤ a := by have := hm.out.1; omega
      have ai1 : a < 9223372036854775808 := hm.out.2.1
      have hlo := fun W => lower_v c W
      rw [← hx, ← hy] at hlo
      have HLO := Lib.hid hlo
      clear hlo
      have HYES := Lib.hid (fun (h : isD 16 c = true) => all_step 16 hlk hm.out.2.2 (by rw [← hc]; exact h))
      have HNOT := Lib.hid (fun (h : isD 16 c = false) => not_ok_dig hlk (by rw [← hc]; exact h))
      have HM1 := Lib.hid hm.out.1
      have hbi := byte_is 16 c
      rw [← hx, ← hy] at hbi
      clear hcell hx hy had hc hlk hm
      rcases hbi with ⟨f1, f2, f3, f4⟩ | ⟨f1, f2, f3, f4, f5, f6⟩ | ⟨f1, f2, f3⟩
      · have g1 : (48 : Int) ≤ (x : Int) := by omega
        have g2 : (x : Int) ≤ 57 := by omega
        have g3 : ((x : Int) == 95) = false := by simp; omega
        have g4 : (x : Int) - 48 < 16 := by omega
        have HND := Lib.hid (HYES.out (by rw [f4]; exact decide_eq_true (by omega)))
        have HNX : Hid (((val 16 (l.take (k + 1)) : Nat) : Int) = a * 16 + ((x : Int) - 48)) := Lib.hid (by rw [HVS.out, f3, HM1.out]; omega)
        clear f1 f2 f3 f4
        by_cases hcut : a < 1152921504606846976
        · by_cases hov : a * 16 + ((x : Int) - 48) < 9223372036854775808
          · have HOV := Lib.hid hov
            go_wp2
            have hov := HOV.out
            have h9 : a * 16 + ((x : Int) - 48) = ((val 16 (l.take (k + 1)) : Nat) : Int) := HNX.out.symm
            refine ⟨⟨k + 1, a * 16 + ((x : Int) - 48), by omega, rfl, by first | rfl | (congr 1; omega), by first | rfl | (congr 1; omega), trivial, Lib.hid ⟨h9, hov, HND.out⟩⟩, by simp [intOf]; omega⟩
          · have HBIG := Lib.hid (not_ok_big (b := 16) (by omega) (l := l) (k := k + 1) (by have := HNX.out; omega))
            have g6 : 9223372036854775807 < a * 16 + ((x : Int) - 48) := by omega
            have hwr : a * 16 + ((x : Int) - 48) < 18446744073709551616 := by omega
            go_wp2
            all_goals (
              go_ret2
              exact ⟨⟨_, _, rfl, .inr ⟨HBIG.out, .inl rfl⟩⟩, HL2.out⟩)
        · have g5 : 1152921504606846976 ≤ a := by omega
          have HBIG := Lib.hid (not_ok_big (b := 16) (by omega) (l := l) (k := k + 1) (by have := HNX.out; omega))
          go_wp2
          go_ret2
          exact ⟨⟨_, _, rfl, .inr ⟨HBIG.out, .inl rfl⟩⟩, HL2.out⟩
      · have hnd : ((48 : Int) ≤ (x : Int) ∧ ¬ ((x : Int) ≤ 57)) ∨ ¬ ((48 : Int) ≤ (x : Int)) := by omega
        have g1 : (97 : Int) ≤ (y : Int) := by omega
        have g2 : (y : Int) ≤ 122 := by omega
        have g3 : ((x : Int) == 95) = false := by simp; omega
        by_cases h16 : y < 103
        · have g4 : (y : Int) - 97 + 10 < 16 := by omega
          have HND := Lib.hid (HYES.out (by rw [f6]; exact decide_eq_true (by omega)))
          have HNX : Hid (((val 16 (l.take (k + 1)) : Nat) : Int) = a * 16 + ((y : Int) - 97 + 10)) := Lib.hid (by rw [HVS.out, f5, HM1.out]; omega)
          clear f1 f2 f3 f4 f5 f6
          rcases hnd with ⟨p1, p2⟩ | p1
          · by_cases hcut : a < 1152921504606846976
            · by_cases hov : a * 16 + ((y : Int) - 97 + 10) < 9223372036854775808
              · have HOV := Lib.hid hov
                go_wp2_with (go_at_call 67; (with_reducible refine (HLO.out _).mono ?_); rintro e w' ⟨rfl, hw'⟩; subst hw')
                have hov := HOV.out
                have h9 : a * 16 + ((y : Int) - 97 + 10) = ((val 16 (l.take (k + 1)) : Nat) : Int) := HNX.out.symm
                refine ⟨⟨k + 1, a * 16 + ((y : Int) - 97 + 10), by omega, rfl, by first | rfl | (congr 1; omega), by first | rfl | (congr 1; omega), trivial, Lib.hid ⟨h9, hov, HND.out⟩⟩, by simp [intOf]; omega⟩
              · have HBIG := Lib.hid (not_ok_big (b := 16) (by omega) (l := l) (k := k + 1) (by have := HNX.out; omega))
                have g6 : 9223372036854775807 < a * 16 + ((y : Int) - 97 + 10) := by omega
                have hwr : a * 16 + ((y : Int) - 97 + 10) < 18446744073709551616 := by omega
                go_wp2_with (go_at_call 67; (with_reducible refine (HLO.out _).mono ?_); rintro e w' ⟨rfl, hw'⟩; subst hw')
                all_goals (
                  go_ret2
                  exact ⟨⟨_, _, rfl, .inr ⟨HBIG.out, .inl rfl⟩⟩, HL2.out⟩)
            · have g5 : 1152921504606846976 ≤ a := by omega
              have HBIG := Lib.hid (not_ok_big (b := 16) (by omega) (l := l) (k := k + 1) (by have := HNX.out; omega))
              go_wp2_with (go_at_call 67; (with_reducible refine (HLO.out _).mono ?_); rintro e w' ⟨rfl, hw'⟩; subst hw')
              go_ret2
              exact ⟨⟨_, _, rfl, .inr ⟨HBIG.out, .inl rfl⟩⟩, HL2.out⟩
          · by_cases hcut : a < 1152921504606846976
            · by_cases hov : a * 16 + ((y : Int) - 97 + 10) < 9223372036854775808
              · have HOV := Lib.hid hov
                go_wp2_with (go_at_call 67; (with_reducible refine (HLO.out _).mono ?_); rintro e w' ⟨rfl, hw'⟩; subst hw')
                have hov := HOV.out
                have h9 : a * 16 + ((y : Int) - 97 + 10) = ((val 16 (l.take (k + 1)) : Nat) : Int) := HNX.out.symm
                refine ⟨⟨k + 1, a * 16 + ((y : Int) - 97 + 10), by omega, rfl, by first | rfl | (congr 1; omega), by first | rfl | (congr 1; omega), trivial, Lib.hid ⟨h9, hov, HND.out⟩⟩, by simp [intOf]; omega⟩
              · have HBIG := Lib.hid (not_ok_big (b := 16) (by omega) (l := l) (k := k + 1) (by have := HNX.out; omega))
                have g6 : 9223372036854775807 < a * 16 + ((y : Int) - 97 + 10) := by omega
                have hwr : a * 16 + ((y : Int) - 97 + 10) < 18446744073709551616 := by omega
                go_wp2_with (go_at_call 67; (with_reducible refine (HLO.out _).mono ?_); rintro e w' ⟨rfl, hw'⟩; subst hw')
                all_goals (
                  go_ret2
                  exact ⟨⟨_, _, rfl, .inr ⟨HBIG.out, .inl rfl⟩⟩, HL2.out⟩)
            · have g5 : 1152921504606846976 ≤ a := by omega
              have HBIG := Lib.hid (not_ok_big (b := 16) (by omega) (l := l) (k := k + 1) (by have := HNX.out; omega))
              go_wp2_with (go_at_call 67; (with_reducible refine (HLO.out _).mono ?_); rintro e w' ⟨rfl, hw'⟩; subst hw')
              go_ret2
              exact ⟨⟨_, _, rfl, .inr ⟨HBIG.out, .inl rfl⟩⟩, HL2.out⟩
        · have g4 : (16 : Int) ≤ (y : Int) - 97 + 10 := by omega
          have HNO := Lib.hid (HNOT.out (by rw [f6]; exact decide_eq_false (by omega)))
          clear f1 f2 f3 f4 f5 f6
          rcases hnd with ⟨p1, p2⟩ | p1
          · go_wp2_with (go_at_call 67; (with_reducible refine (HLO.out _).mono ?_); rintro e w' ⟨rfl, hw'⟩; subst hw')
            go_ret2
            exact ⟨⟨_, _, rfl, .inr ⟨HNO.out, .inr rfl⟩⟩, HL2.out⟩
          · go_wp2_with (go_at_call 67; (with_reducible refine (HLO.out _).mono ?_); rintro e w' ⟨rfl, hw'⟩; subst hw')
            go_ret2
            exact ⟨⟨_, _, rfl, .inr ⟨HNO.out, .inr rfl⟩⟩, HL2.out⟩
      · have hnd : ((48 : Int) ≤ (x : Int) ∧ ¬ ((x : Int) ≤ 57)) ∨ ¬ ((48 : Int) ≤ (x : Int)) := by omega
        have hnl : ((97 : Int) ≤ (y : Int) ∧ ¬ ((y : Int) ≤ 122)) ∨ ¬ ((97 : Int) ≤ (y : Int)) := by omega
        have HNO := Lib.hid (HNOT.out f3)
        obtain ⟨bb, g3⟩ : ∃ bb, ((x : Int) == 95) = bb := ⟨_, rfl⟩
        clear f1 f2 f3
        cases bb
        all_goals (
          rcases hnd with ⟨p1, p2⟩ | p1
          all_goals (
            rcases hnl with ⟨q1, q2⟩ | q1
            all_goals (
              go_wp2_with (go_at_call 67; (with_reducible refine (HLO.out _).mono ?_); rintro e w' ⟨rfl, hw'⟩; subst hw')
              go_ret2
              exact ⟨⟨_, _, rfl, .inr ⟨HNO.out, .inr rfl⟩⟩, HL2.out⟩)))
    · have HRES := Lib.hid (show a = (val 16 l : Nat) ∧ a < 9223372036854775808 ∧ l.all (isD 16) = true by
        have h := hm.out
        rw [List.take_of_length_le (by have := HN.out; omega)] at h
        exact h)
      have hkk : ¬ ((k : Int) < (n : Int)) := by omega
      clear hkn hm
      go_wp2
      go_ret2
      exact ⟨⟨_, _, rfl, .inl ⟨⟨HRES.out.2.2, by have := HRES.out.1; have := HRES.out.2.1; omega⟩, rfl, HRES.out.1⟩⟩, HL2.out⟩
end Ar
end Go.Proofs.YtjidclefpmcgoaaDoor
