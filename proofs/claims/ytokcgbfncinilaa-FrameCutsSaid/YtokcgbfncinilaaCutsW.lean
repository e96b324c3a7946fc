/- The walk of FrameCuts: whatever the rows and the cut are, the call returns true. -/
import Derived.Test.YtokcgbfncinilaaFLw
import Derived.Test.YtokcgbfncinilaaRefNum
import Derived.Test.YtokcgbfncinilaaRowArg
namespace Go.Proofs.Ytokcgbfncinilaa
namespace frameCuts
open Go.RowKit
attribute [local go_sem ↓] Go.wp_at_zero Go.wp_at_succ
set_option maxRecDepth 100000 in
set_option maxHeartbeats 4000000 in
theorem walk (w : World) (A0 : Option Addr) (n0 c0 : Nat) (ls : List (List UInt8)) (hl : RdL w w.heap.size A0 n0 ls ∧ n0 ≤ c0 ∧ c0 ≤ maxLen)
    (cut : Int) (hcut : (Lit.int .u16 cut).wf = true) :
    Calls Try.prog 3 #[.slice A0 n0 c0, .int .u16 cut] w fun e w' => e = .returned (.bool true) ∧ Below w.heap.size w w' := by
  obtain ⟨h1, h2, h3⟩ := hl
  unfold maxLen at h3
  have HB := Lib.hid h1
  have hn := Lib.hid h1.1
  have hbig : n0 ≤ 9223372036854775807 := by omega
  clear h1 h3
  obtain ⟨hc1, hc2⟩ := bounds_u16 hcut
  obtain ⟨ct, rfl⟩ := Int.eq_ofNat_of_zero_le hc1
  by_cases hfew : fewB n0 ls = false
  · go_enter Try.func3, Try.ntmps3
    go_wp2_with (first
      | (go_at_call 6; (with_reducible refine (frameAwake_v _).mono ?_); rintro e w1 ⟨rfl, hb1⟩; have HB1 := Lib.hid hb1; clear hb1)
      | (go_at_call 7; (with_reducible refine (few_v _ _ _ _ ls w1 (HB.out.keep HB1.out) hbig).mono ?_); rintro e w2 ⟨rfl, rfl⟩; rw [hfew]))
    go_ret
    exact ⟨rfl, HB1.out⟩
  have hfew' : fewB n0 ls = true := by simpa using hfew
  obtain ⟨hn20, h600⟩ := few_rows hfew'
  have hLs := frames_small h600
  rw [hn.out] at hLs
  obtain ⟨L, hL⟩ : ∃ L, L = (ls.flatMap frameL).length := ⟨_, rfl⟩
  rw [← hL] at hLs
  have hL2 : L ≤ 12280 := by omega
  obtain ⟨k, hk⟩ : ∃ k : Nat, (ct : Int) % ((L : Int) + 1) = (k : Int) := ⟨((ct : Int) % ((L : Int) + 1)).toNat, by have := Int.emod_nonneg (ct : Int) (show (L : Int) + 1 ≠ 0 by omega); omega⟩
  have hkL : k ≤ L := by have := Int.emod_lt_of_pos (ct : Int) (show (0 : Int) < (L : Int) + 1 by omega); omega
  have H600 := Lib.hid h600
  have HL := Lib.hid hL
  have HLS := Lib.hid hLs
  obtain ⟨wh, hwh⟩ : ∃ wh, wholeF ls k = wh := ⟨_, rfl⟩
  have hwn := wholeF_le ls k
  rw [hn.out, hwh] at hwn
  have HWH := Lib.hid hwh
  have HBIG := Lib.hid hbig
  clear hfew h600 hL hLs hwh hbig
  go_enter Try.func3, Try.ntmps3
  go_wp2_with (first
    | (go_at_call 6; (with_reducible refine (frameAwake_v _).mono ?_); rintro e w1 ⟨rfl, hb1⟩; have HB1 := Lib.hid hb1; clear hb1)
    | (go_at_call 7; (with_reducible refine (few_v _ _ _ _ ls w1 (HB.out.keep HB1.out) HBIG.out).mono ?_); rintro e w2 ⟨rfl, rfl⟩; rw [hfew'])
    | (go_at_call 8; (with_reducible refine (putF_v _ _ _ _ ls w1 (HB.out.keep HB1.out) HB1.out.size (by omega) (fun r hr => by have := H600.out r hr; omega) (by have := HLS.out; have := HL.out; omega)).mono ?_); rintro e w2 ⟨v2, rfl, hg2⟩; have hs2 := hg2.grown.size; have HB2 := Lib.hid (HB1.out.trans (hg2.belowNil.mono HB1.out.size)); obtain ⟨A7, c7, rfl, h71, hc7m, h72, h73⟩ := own_mapC hg2.own; have HC7 := Lib.hid hc7m; clear hc7m; rw [← HL.out] at h71 h72 ⊢; have H72 := Lib.hid h72; clear h72 h73 hg2))
  rw [hk]
  have HK := Lib.hid hk
  clear hk
  go_loopw [9, 10] (fun x y wr => ∃ j : Nat, j ≤ wh ∧ x = .int .i64 (j : Int) ∧ y = .int .i64 (endF ls j : Int) ∧ Below w2.heap.size w2 wr) (fun x _ _ => n0 - (intOf x).toNat)
  case atStart => exact ⟨0, by omega, rfl, rfl, Below.refl _ _⟩
  case round =>
    obtain ⟨j, hj, rfl, rfl, hbr⟩ := hrel
    have HBR := Lib.hid hbr
    have hbrs := hbr.size
    have hej := endF_le ls j
    rw [← HL.out] at hej
    obtain ⟨ej, hejv⟩ : ∃ ej, ej = endF ls j := ⟨_, rfl⟩
    rw [← hejv] at hej ⊢
    have HEJ := Lib.hid hejv
    clear hejv
    clear hbr
    by_cases hjn : j < n0
    · obtain ⟨ad, A', n', c', rfl, hb, hc, hr', hcm⟩ := (HB.out.keep (HB2.out.trans (HBR.out.mono HB2.out.size))).2 j (by have := hn.out; omega)
      have hlen' := hr'.len
      have h6 := H600.out _ (List.getElem_mem (show j < ls.length by have := hn.out; omega))
      have hat := whole_at ls k j (by have := hn.out; omega) (by rw [HWH.out]; exact hj)
      have hes := endF_succ ls j (by have := hn.out; omega)
      have hfs := (frame_small h6).2
      rw [hlen'] at h6 hfs hes
      rw [frameL_len, hlen', HWH.out] at hat
      obtain ⟨q, hq⟩ : ∃ q, q = (numL n').length := ⟨_, rfl⟩
      obtain ⟨s, hs⟩ : ∃ s, s = mkS (numL n') := ⟨_, rfl⟩
      have hsz : s.size = q := by rw [hs, mkS_size, hq]
      rw [← hq] at hat hes hfs
      rw [← HEJ.out] at hat hes
      have hw := wrapu64_v (x := n') (by omega)
      have KNUM : Hid (∀ W, Below wr.heap.size wr W → Calls Try.prog 9 #[.int .u64 (n' : Int)] W fun e w' => e = .returned (.string s) ∧ Below wr.heap.size wr w') := by
        refine Lib.hid fun W hW => (refNum_v n' W (by omega)).mono ?_
        rintro e w' ⟨rfl, hb⟩
        rw [hs]
        exact ⟨rfl, hW.trans (hb.mono hW.size)⟩
      have HCL : Hid (∀ W, Below wr.heap.size wr W → W.cell? (ad.add j) = some (.slice A' n' c')) := Lib.hid fun W hW => cell_keeps hW hc
      have hbw := Lib.hid ((Below.refl wr.heap.size wr).drew)
      have HAT := Lib.hid hat
      have HES := Lib.hid hes
      clear hat hes hs hq hr' hlen' hcm
      have hwa := wrap64_v (x := (q : Int) + (n' : Int)) (by omega) (by omega)
      have hwb := wrap64_v (x := (q : Int) + (n' : Int) + 4) (by omega) (by omega)
      have hj0 : (0 : Int) ≤ (j : Int) := by omega
      have hj1 : (j : Int) < (n0 : Int) := by omega
      go_wp2
      go_region_held (fun w' => Hid (Below wr.heap.size wr w') ∧ w'.cell? (ad.add j) = some (.slice A' n' c')) (first | assumption | exact ⟨hbw, HCL.out _ hbw.out⟩ | exact ⟨hb6, HCL.out _ hb6.out⟩)
        (first | (go_at_call 9; (with_reducible refine (KNUM.out _ hbw.out).mono ?_); rintro e w6 ⟨rfl, hb6'⟩; have hb6 := Lib.hid hb6'; clear hb6'))
      by_cases hcmp : k < ej + (q + n' + 4)
      · have HJW : Hid (j = wh) := Lib.hid (HAT.out.1 hcmp).symm
        have hgt : (k : Int) < (ej : Int) + ((q : Int) + (n' : Int) + 4) := by omega
        have H6W := Lib.hid (HBR.out.trans (hb6.out.mono hbrs))
        have hjw := HJW.out
        have hres := scan_res ls k (fun r hr => by have := H600.out r hr; omega) (by rw [← HL.out]; exact hkL)
        rw [HWH.out, ← hjw, ← HEJ.out] at hres
        have HRES := Lib.hid hres
        have hmn : min j n0 = j := by omega
        have KSC : Hid (Calls Try.prog 10 #[.slice A7 k c7] w6 fun e w' => ∃ A8 c8, e = .returned (.tuple #[.slice A8 j c8, .int .i64 (ej : Int), .int .i64 ((if k = ej then 0 else 10 : Nat) : Int)]) ∧ Below w6.heap.size w6 w' ∧ RdL w' w'.heap.size A8 j (ls.take j)) := by
          have hrd := (H72.out.take_ (k := k) hkL).below H6W.out
          rw [← List.map_take] at hrd
          refine Lib.hid ((scan_v A7 k c7 _ _ w6 hrd H6W.out.size (by omega) (Nat.le_trans hkL h71) HC7.out).mono ?_)
          rintro e w' ⟨v, rs, rfl, hb, hm⟩
          rw [HRES.out] at hm ⊢
          obtain ⟨A8, c8, rfl, h81, h82⟩ := hm.rdL
          rw [List.length_take, hn.out, hmn] at h82 ⊢
          exact ⟨A8, c8, rfl, hb, h82⟩
        have hk0 : (0 : Int) ≤ (k : Int) := by omega
        have hkc : (k : Int) ≤ (c7 : Int) := by omega
        clear hres hjw
        by_cases hke : k = ej
        all_goals
          first
            | (rw [if_pos hke] at KSC; subst hke)
            | (rw [if_neg hke] at KSC; have hne1 : ((ej : Int) == (k : Int)) = false := (by simp; omega))
          go_wp2_with (go_at_call 10; (with_reducible refine KSC.out.mono ?_); rintro e w3 ⟨A8, c8, rfl, hb3, hr3⟩; have hs3 := hb3.size; have HB3 := Lib.hid (H6W.out.trans (hb3.mono H6W.out.size)); have HR3 := Lib.hid hr3; clear hb3 hr3)
          go_loopw [15] (fun x wx => ∃ i : Nat, i ≤ j ∧ x = .int .i64 (i : Int) ∧ Below w3.heap.size w3 wx) (fun x _ => n0 - (intOf x).toNat)
          case atStart => exact ⟨0, by omega, rfl, Below.refl _ _⟩
          case round =>
            obtain ⟨i, hi, rfl, hbx⟩ := hrel
            have HBX := Lib.hid hbx
            have hbxs := hbx.size
            clear hbx
            by_cases hij : i < j
            · obtain ⟨ad8, A9, n9, c9, rfl, hb9, hc9, hr9, hm9⟩ := (HR3.out.keep HBX.out).2 i (by rw [List.length_take, hn.out]; omega)
              obtain ⟨ad, Ax, nx, cx, e0, hbx0, hcx, hrx, hmx⟩ := (HB.out.keep ((HB2.out.trans (HB3.out.mono HB2.out.size)).trans (HBX.out.mono (by have := HB2.out.size; have := HB3.out.size; omega)))).2 i (by have := hn.out; omega)
              first | subst e0 | (have e1 := (Option.some.inj e0).symm; subst e1)
              rw [List.getElem_take] at hr9
              obtain ⟨s, hs⟩ : ∃ s, s = mkS (ls[i]'(by have := hn.out; omega)) := ⟨_, rfl⟩
              have cv1 := str_later (c := c9) hr9 hbxs
              have cv2 := str_later (c := cx) hrx (by have := HB2.out.size; have := HB3.out.size; omega)
              rw [← hs] at cv1 cv2
              have hi0 : (0 : Int) ≤ (i : Int) := by omega
              have hi1 : (i : Int) < (j : Int) := by omega
              have hi2 : (i : Int) < (n0 : Int) := by omega
              have hbw := Lib.hid ((Below.refl wr.heap.size wr).drew)
              have HX1 := Lib.hid (cv1 _ hbw.out)
              have HX2 := Lib.hid (cv2 _ hbw.out)
              have HC1 := Lib.hid (cell_keeps hbw.out hc9)
              have HC2 := Lib.hid (cell_keeps hbw.out hcx)
              clear cv1 cv2 hr9 hrx hm9 hmx hs
              go_wp2
              go_region_held (fun w' => w'.cell? (ad8.add i) = some (.slice A9 n9 c9) ∧ w'.cell? (ad.add i) = some (.slice Ax nx cx) ∧ (convert 26 9 (.slice A9 n9 c9)).run Try.prog w' = .ok (.string s) w' ∧ (convert 26 9 (.slice Ax nx cx)).run Try.prog w' = .ok (.string s) w') (first | assumption | exact ⟨HC1.out, HC2.out, HX1.out, HX2.out⟩) (fail)
              all_goals go_wp2
              all_goals (refine ⟨⟨i + 1, by omega, by go_num, HBX.out.trans (hbw.out.mono hbxs)⟩, ?_⟩; simp [intOf]; omega)
            · have hij' : i = j := by omega
              subst hij'
              go_wp2
              go_ret
              exact ⟨rfl, HB2.out.trans ((HB3.out.trans (HBX.out.mono HB3.out.size)).mono HB2.out.size)⟩
      · have hge : ¬ (k : Int) < (ej : Int) + ((q : Int) + (n' : Int) + 4) := by omega
        go_wp2
        go_roundw
        case rel => exact ⟨j + 1, HAT.out.2 (by omega), by go_num, by rw [HES.out]; simp, HBR.out.trans (hb6.out.mono hbrs)⟩
        case measure => simp [intOf]; omega
    · have hjw : j = wh := by omega
      have hres := scan_res ls k (fun r hr => by have := H600.out r hr; omega) (by rw [← HL.out]; exact hkL)
      rw [HWH.out, ← hjw, ← HEJ.out] at hres
      have HRES := Lib.hid hres
      have hmn : min j n0 = j := by omega
      have KSC : Hid (Calls Try.prog 10 #[.slice A7 k c7] wr fun e w' => ∃ A8 c8, e = .returned (.tuple #[.slice A8 j c8, .int .i64 (ej : Int), .int .i64 ((if k = ej then 0 else 10 : Nat) : Int)]) ∧ Below wr.heap.size wr w' ∧ RdL w' w'.heap.size A8 j (ls.take j)) := by
        have hrd := (H72.out.take_ (k := k) hkL).below HBR.out
        rw [← List.map_take] at hrd
        refine Lib.hid ((scan_v A7 k c7 _ _ wr hrd HBR.out.size (by omega) (Nat.le_trans hkL h71) HC7.out).mono ?_)
        rintro e w' ⟨v, rs, rfl, hb, hm⟩
        rw [HRES.out] at hm ⊢
        obtain ⟨A8, c8, rfl, h81, h82⟩ := hm.rdL
        rw [List.length_take, hn.out, hmn] at h82 ⊢
        exact ⟨A8, c8, rfl, hb, h82⟩
      have hk0 : (0 : Int) ≤ (k : Int) := by omega
      have hkc : (k : Int) ≤ (c7 : Int) := by omega
      clear hres hjw
      by_cases hke : k = ej
      all_goals
        first
          | (rw [if_pos hke] at KSC; subst hke)
          | (rw [if_neg hke] at KSC; have hne1 : ((ej : Int) == (k : Int)) = false := (by simp; omega))
        go_wp2_with (go_at_call 10; (with_reducible refine KSC.out.mono ?_); rintro e w3 ⟨A8, c8, rfl, hb3, hr3⟩; have hs3 := hb3.size; have HB3 := Lib.hid (HBR.out.trans (hb3.mono HBR.out.size)); have HR3 := Lib.hid hr3; clear hb3 hr3)
        go_loopw [15] (fun x wx => ∃ i : Nat, i ≤ j ∧ x = .int .i64 (i : Int) ∧ Below w3.heap.size w3 wx) (fun x _ => n0 - (intOf x).toNat)
        case atStart => exact ⟨0, by omega, rfl, Below.refl _ _⟩
        case round =>
          obtain ⟨i, hi, rfl, hbx⟩ := hrel
          have HBX := Lib.hid hbx
          have hbxs := hbx.size
          clear hbx
          by_cases hij : i < j
          · obtain ⟨ad8, A9, n9, c9, rfl, hb9, hc9, hr9, hm9⟩ := (HR3.out.keep HBX.out).2 i (by rw [List.length_take, hn.out]; omega)
            obtain ⟨ad, Ax, nx, cx, e0, hbx0, hcx, hrx, hmx⟩ := (HB.out.keep ((HB2.out.trans (HB3.out.mono HB2.out.size)).trans (HBX.out.mono (by have := HB2.out.size; have := HB3.out.size; omega)))).2 i (by have := hn.out; omega)
            first | subst e0 | (have e1 := (Option.some.inj e0).symm; subst e1)
            rw [List.getElem_take] at hr9
            obtain ⟨s, hs⟩ : ∃ s, s = mkS (ls[i]'(by have := hn.out; omega)) := ⟨_, rfl⟩
            have cv1 := str_later (c := c9) hr9 hbxs
            have cv2 := str_later (c := cx) hrx (by have := HB2.out.size; have := HB3.out.size; omega)
            rw [← hs] at cv1 cv2
            have hi0 : (0 : Int) ≤ (i : Int) := by omega
            have hi1 : (i : Int) < (j : Int) := by omega
            have hi2 : (i : Int) < (n0 : Int) := by omega
            have hbw := Lib.hid ((Below.refl wr.heap.size wr).drew)
            have HX1 := Lib.hid (cv1 _ hbw.out)
            have HX2 := Lib.hid (cv2 _ hbw.out)
            have HC1 := Lib.hid (cell_keeps hbw.out hc9)
            have HC2 := Lib.hid (cell_keeps hbw.out hcx)
            clear cv1 cv2 hr9 hrx hm9 hmx hs
            go_wp2
            go_region_held (fun w' => w'.cell? (ad8.add i) = some (.slice A9 n9 c9) ∧ w'.cell? (ad.add i) = some (.slice Ax nx cx) ∧ (convert 26 9 (.slice A9 n9 c9)).run Try.prog w' = .ok (.string s) w' ∧ (convert 26 9 (.slice Ax nx cx)).run Try.prog w' = .ok (.string s) w') (first | assumption | exact ⟨HC1.out, HC2.out, HX1.out, HX2.out⟩) (fail)
            all_goals go_wp2
            all_goals (refine ⟨⟨i + 1, by omega, by go_num, HBX.out.trans (hbw.out.mono hbxs)⟩, ?_⟩; simp [intOf]; omega)
          · have hij' : i = j := by omega
            subst hij'
            go_wp2
            go_ret
            exact ⟨rfl, HB2.out.trans ((HB3.out.trans (HBX.out.mono HB3.out.size)).mono HB2.out.size)⟩
end frameCuts
end Go.Proofs.Ytokcgbfncinilaa
