/- The walk of FrameTurns: whatever the rows and the numbers are, the call returns true. -/
import Derived.Test.YtokcgbfncinilaaFTm
import Derived.Test.YtokcgbfncinilaaRefNum
import Derived.Test.YtokcgbfncinilaaRowArg
namespace Go.Proofs.Ytokcgbfncinilaa
namespace frameTurns
open Go.RowKit turning
attribute [local go_sem ↓] Go.wp_at_zero Go.wp_at_succ
set_option maxRecDepth 100000 in
set_option maxHeartbeats 4000000 in
theorem walk (w : World) (A0 : Option Addr) (n0 c0 : Nat) (ls : List (List UInt8)) (hl : RdL w w.heap.size A0 n0 ls ∧ n0 ≤ c0 ∧ c0 ≤ maxLen)
    (which : Int) (hwh : (Lit.int .u8 which).wf = true) (at_ : Int) (hat0 : (Lit.int .u16 at_).wf = true) (turn : Int) (htu0 : (Lit.int .u32 turn).wf = true) :
    Calls Try.prog 4 #[.slice A0 n0 c0, .int .u8 which, .int .u16 at_, .int .u32 turn] w fun e w' => e = .returned (.bool true) ∧ Below w.heap.size w w' := by
  obtain ⟨h1, h2, h3⟩ := hl
  unfold maxLen at h3
  have HB := Lib.hid h1
  have hn := Lib.hid h1.1
  have hbig : n0 ≤ 9223372036854775807 := by omega
  clear h1 h3
  have HBIG := Lib.hid hbig
  clear hbig
  obtain ⟨hw1, hw2⟩ := bounds_u8 hwh
  obtain ⟨ha1, ha2⟩ := bounds_u16 hat0
  obtain ⟨ht1, ht2⟩ := bounds_u32 htu0
  obtain ⟨t, rfl⟩ := Int.eq_ofNat_of_zero_le ht1
  clear hwh hat0 htu0 ht1
  by_cases hfew : fewB n0 ls = false
  · go_enter Try.func4, Try.ntmps4
    go_wp2_with (first
      | (go_at_call 6; (with_reducible refine (frameAwake_v _).mono ?_); rintro e w1 ⟨rfl, hb1⟩; have HB1 := Lib.hid hb1; clear hb1)
      | (go_at_call 7; (with_reducible refine (few_v _ _ _ _ ls w1 (HB.out.keep HB1.out) HBIG.out).mono ?_); rintro e w2 ⟨rfl, rfl⟩; rw [hfew]))
    go_ret
    exact ⟨rfl, HB1.out⟩
  have hfew' : fewB n0 ls = true := by simpa using hfew
  by_cases hn0 : n0 = 0
  · subst hn0
    go_enter Try.func4, Try.ntmps4
    go_wp2_with (first
      | (go_at_call 6; (with_reducible refine (frameAwake_v _).mono ?_); rintro e w1 ⟨rfl, hb1⟩; have HB1 := Lib.hid hb1; clear hb1)
      | (go_at_call 7; (with_reducible refine (few_v _ _ _ _ ls w1 (HB.out.keep HB1.out) HBIG.out).mono ?_); rintro e w2 ⟨rfl, rfl⟩; rw [hfew']))
    go_ret
    exact ⟨rfl, HB1.out⟩
  have hn0' : ((n0 : Int) == 0) = false := by simp; omega
  by_cases ht0 : t = 0
  · subst ht0
    go_enter Try.func4, Try.ntmps4
    go_wp2_with (first
      | (go_at_call 6; (with_reducible refine (frameAwake_v _).mono ?_); rintro e w1 ⟨rfl, hb1⟩; have HB1 := Lib.hid hb1; clear hb1)
      | (go_at_call 7; (with_reducible refine (few_v _ _ _ _ ls w1 (HB.out.keep HB1.out) HBIG.out).mono ?_); rintro e w2 ⟨rfl, rfl⟩; rw [hfew']))
    go_ret
    exact ⟨rfl, HB1.out⟩
  have ht0' : ((t : Int) == 0) = false := by simp; omega
  obtain ⟨hn20, h600⟩ := few_rows hfew'
  have hLs := frames_small h600
  rw [hn.out] at hLs
  obtain ⟨L, hL⟩ : ∃ L, L = (ls.flatMap frameL).length := ⟨_, rfl⟩
  rw [← hL] at hLs
  have hL2 : L ≤ 12280 := by omega
  obtain ⟨k, hk⟩ : ∃ k : Nat, which % (n0 : Int) = (k : Int) := ⟨(which % (n0 : Int)).toNat, by have := Int.emod_nonneg which (show (n0 : Int) ≠ 0 by omega); omega⟩
  have hkn : k < n0 := by have := Int.emod_lt_of_pos which (show (0 : Int) < (n0 : Int) by omega); omega
  have hkl : k < ls.length := by have := hn.out; omega
  obtain ⟨r, hr⟩ : ∃ r, r = ls[k] := ⟨_, rfl⟩
  have hr6 : r.length ≤ 600 := by rw [hr]; exact h600 _ (List.getElem_mem hkl)
  obtain ⟨q, hq⟩ : ∃ q, q = (numL r.length).length := ⟨_, rfl⟩
  have hq10 : q ≤ 10 := by rw [hq]; exact (frame_small hr6).2
  obtain ⟨ln, hln⟩ : ∃ ln, ln = r.length := ⟨_, rfl⟩
  rw [← hln] at hr6
  have hab := frames_about ls k hkl
  have hfl := flat_at_len frameL ls k hkl
  rw [← hL, frameL_len, ← hr, ← hln] at hfl
  obtain ⟨fr, hfr⟩ : ∃ fr, fr = endF ls k := ⟨_, rfl⟩
  have hfl2 : fr + (q + ln + 4) ≤ L := by rw [hfr, hq, ← hln]; exact hfl
  obtain ⟨S, hS⟩ : ∃ S, S = r ++ tailL (crcL (headL r)) := ⟨_, rfl⟩
  obtain ⟨P, hP⟩ : ∃ P, P = (ls.take k).flatMap frameL ++ numL r.length := ⟨_, rfl⟩
  obtain ⟨C, hC⟩ : ∃ C, C = (ls.drop (k + 1)).flatMap frameL := ⟨_, rfl⟩
  rw [← hr, ← hS, ← hP, ← hC] at hab
  have hSl : S.length = ln + 4 := by rw [hS, List.length_append, tailL_length, hln]
  have hPl : P.length = fr + q := by rw [hP, List.length_append, hfr, hq]; rfl
  have HSV := Lib.hid hS
  have HP := Lib.hid hP
  have HSL := Lib.hid hSl
  have HPL := Lib.hid hPl
  clear hS hP hC hSl hPl
  obtain ⟨b, hbit⟩ : ∃ b : Nat, at_ % (8 * ((ln : Int) + 4) - 31) = (b : Int) := ⟨(at_ % (8 * ((ln : Int) + 4) - 31)).toNat, by have := Int.emod_nonneg at_ (show 8 * ((ln : Int) + 4) - 31 ≠ 0 by omega); omega⟩
  have hbn : b + 32 ≤ 8 * (ln + 4) := by have := Int.emod_lt_of_pos at_ (show (0 : Int) < 8 * ((ln : Int) + 4) - 31 by omega); omega
  obtain ⟨s, hs⟩ : ∃ s, s = mkS (numL ln) := ⟨_, rfl⟩
  have hsz : s.size = q := by rw [hs, mkS_size, hq, hln]
  have H600 := Lib.hid h600
  have HL := Lib.hid hL
  have HLS := Lib.hid hLs
  have HR := Lib.hid hr
  have HQ := Lib.hid hq
  have HLN := Lib.hid hln
  have HFR := Lib.hid hfr
  have HAB := Lib.hid hab
  have HS := Lib.hid hs
  have HT0 := Lib.hid ht0
  have HK := Lib.hid hk
  have HBIT := Lib.hid hbit
  have HKL := Lib.hid hkl
  clear hfew h600 hL hLs hr hq hln hab hfl hfr hs ht0 hn0
  go_enter Try.func4, Try.ntmps4
  go_wp2_with (first
    | (go_at_call 6; (with_reducible refine (frameAwake_v _).mono ?_); rintro e w1 ⟨rfl, hb1⟩; have HB1 := Lib.hid hb1; clear hb1)
    | (go_at_call 7; (with_reducible refine (few_v _ _ _ _ ls w1 (HB.out.keep HB1.out) HBIG.out).mono ?_); rintro e w2 ⟨rfl, rfl⟩; rw [hfew']))
  go_loopw [12, 13] (fun x y wr => ∃ j : Nat, j ≤ k ∧ y = .int .i64 (j : Int) ∧ x = .int .i64 (endF ls j : Int) ∧ Below w1.heap.size w1 wr) (fun _ y _ => k - (intOf y).toNat)
  case atStart => exact ⟨0, by omega, rfl, rfl, Below.refl _ _⟩
  case round =>
    obtain ⟨j, hj, rfl, rfl, hbr⟩ := hrel
    have HBR := Lib.hid hbr
    have hbrs := hbr.size
    have hej := endF_le ls j
    rw [← HL.out] at hej
    obtain ⟨ej, hejv⟩ : ∃ ej, ej = endF ls j := ⟨_, rfl⟩
    rw [← hejv] at hej ⊢
    have HEJ := Lib.hid hejv
    clear hejv hbr
    by_cases hjn : j < k
    · obtain ⟨ad, A', n', c', rfl, hb, hc, hr', hcm⟩ := (HB.out.keep (HB1.out.trans (HBR.out.mono HB1.out.size))).2 j (by have := hn.out; omega)
      have hlen' := hr'.len
      have h6 := H600.out _ (List.getElem_mem (show j < ls.length by have := hn.out; omega))
      have hes := endF_succ ls j (by have := hn.out; omega)
      have hfs := (frame_small h6).2
      rw [hlen'] at h6 hfs hes
      obtain ⟨qj, hqj⟩ : ∃ qj, qj = (numL n').length := ⟨_, rfl⟩
      obtain ⟨sj, hsj⟩ : ∃ sj, sj = mkS (numL n') := ⟨_, rfl⟩
      have hszj : sj.size = qj := by rw [hsj, mkS_size, hqj]
      rw [← hqj, ← HEJ.out] at hes
      rw [← hqj] at hfs
      have hw := wrapu64_v (x := n') (by omega)
      have KNUM : Hid (∀ W, Below wr.heap.size wr W → Calls Try.prog 9 #[.int .u64 (n' : Int)] W fun e w' => e = .returned (.string sj) ∧ Below wr.heap.size wr w') := by
        refine Lib.hid fun W hW => (refNum_v n' W (by omega)).mono ?_
        rintro e w' ⟨rfl, hb⟩
        rw [hsj]
        exact ⟨rfl, hW.trans (hb.mono hW.size)⟩
      have HCL : Hid (∀ W, Below wr.heap.size wr W → W.cell? (ad.add j) = some (.slice A' n' c')) := Lib.hid fun W hW => cell_keeps hW hc
      have hbw := Lib.hid ((Below.refl wr.heap.size wr).drew)
      have HES := Lib.hid hes
      clear hes hsj hqj hr' hlen' hcm
      have hwa := wrap64_v (x := (qj : Int) + (n' : Int)) (by omega) (by omega)
      have hwb := wrap64_v (x := (qj : Int) + (n' : Int) + 4) (by omega) (by omega)
      have hwc := wrap64_v (x := (ej : Int) + ((qj : Int) + (n' : Int) + 4)) (by omega) (by omega)
      have hj0 : (0 : Int) ≤ (j : Int) := by omega
      have hj1 : (j : Int) < (n0 : Int) := by omega
      rw [HK.out]
      go_wp2
      go_region_held (fun w' => Hid (Below wr.heap.size wr w') ∧ w'.cell? (ad.add j) = some (.slice A' n' c')) (first | assumption | exact ⟨hbw, HCL.out _ hbw.out⟩ | exact ⟨hb6, HCL.out _ hb6.out⟩)
        (first | (go_at_call 9; (with_reducible refine (KNUM.out _ hbw.out).mono ?_); rintro e w6 ⟨rfl, hb6'⟩; have hb6 := Lib.hid hb6'; clear hb6'))
      clear hwa hwb hwc
      go_wp2
      refine ⟨⟨j + 1, by omega, by go_num, ?_, HBR.out.trans (hb6.out.mono hbrs)⟩, ?_⟩
      · rw [wrapi64_small (x := (qj : Int) + (n' : Int)) (by omega) (by omega), wrapi64_small (x := (qj : Int) + (n' : Int) + 4) (by omega) (by omega), wrapi64_small (by omega) (by omega), HES.out]
        simp
      · simp [intOf]; omega
    · have hjk : j = k := by omega
      subst hjk
      obtain ⟨ad, A', n', c', rfl, hb, hc, hr', hcm⟩ := (HB.out.keep (HB1.out.trans (HBR.out.mono HB1.out.size))).2 j hkl
      have hlen' := hr'.len
      have hn' : n' = ln := by rw [← hlen', HLN.out, HR.out]
      subst hn'
      have HEF : Hid (fr = ej) := Lib.hid (by rw [HFR.out, HEJ.out])
      have hfe : fr = ej := HEF.out
      subst hfe
      have hw := wrapu64_v (x := n') (by omega)
      have hwa := wrap64_v (x := (fr : Int) + (q : Int)) (by omega) (by omega)
      have hwb := wrap64_v (x := (fr : Int) + (q : Int) + (n' : Int)) (by omega) (by omega)
      have hwc := wrap64_v (x := (fr : Int) + (q : Int) + (n' : Int) + 4) (by omega) (by omega)
      have hge : ¬ (L : Int) < (fr : Int) + (q : Int) + (n' : Int) + 4 := by omega
      have hj1 : (j : Int) < (n0 : Int) := by omega
      clear hr' hlen' hcm
      have KPUT : Hid (∀ W, Below w.heap.size w W → Calls Try.prog 8 #[.slice (some ad) n0 c0] W fun e w' => ∃ g c5, e = .returned (.slice (some ⟨g, 0, none⟩) L c5) ∧ L ≤ c5 ∧ c5 ≤ maxLen ∧ Has W w' g (P ++ S ++ C)) := by
        refine Lib.hid fun W hW => (putF_v _ _ _ _ ls W (HB.out.keep hW) hW.size (by omega) (fun r hr => by have := H600.out r hr; omega) (by have := HLS.out; have := HL.out; omega)).mono ?_
        rintro e w4 ⟨v4, rfl, hg4⟩
        have hown := hg4.own
        rw [List.length_map, ← HL.out, HAB.out] at hown
        obtain ⟨g, c5, rfl, h51, h52, h53⟩ := has_of hown hg4.belowNil (by omega)
        exact ⟨g, c5, rfl, h51, h52, h53⟩
      rw [HK.out]
      go_wp2_with (first
        | (go_at_call 9; (with_reducible refine (refNum_v n' wr (by omega)).mono ?_); rintro e w3 ⟨rfl, hb3⟩; rw [← HS.out]; have hs3 := hb3.size; have hc3 := cell_keeps hb3 hc; have HB3 := Lib.hid (HB1.out.trans ((HBR.out.trans (hb3.mono hbrs)).mono HB1.out.size)); clear hb3)
        | (go_at_call 8; (with_reducible refine (KPUT.out w3 HB3.out).mono ?_); rintro e w4 ⟨g, c5, rfl, h51, h52, h53⟩; have hs4 := h53.bel.size; have H53 := Lib.hid h53; have HC5 := Lib.hid h52; have hc4 := cell_keeps h53.bel hc3; clear h53 h52))
      rw [HBIT.out]
      go_loopw [3, 17] (fun z x wx => ∃ (i : Nat) (m : List UInt8), i ≤ 32 ∧ x = .int .i64 (i : Int) ∧ z = .int .u32 ((t / 2 ^ i : Nat) : Int) ∧ Turned S m b t i ∧ Has w3 wx g (P ++ m ++ C)) (fun _ x _ => 32 - (intOf x).toNat)
      case atStart => exact ⟨0, S, by omega, rfl, by simp, Turned.start S b t, H53.out⟩
      case round =>
        obtain ⟨i, m, hi, rfl, rfl, htu, hhas⟩ := hrel
        have HTU := Lib.hid htu
        have HH := Lib.hid hhas
        have hml : Hid (m.length = n' + 4) := Lib.hid (by rw [htu.1, HSL.out])
        clear htu hhas
        by_cases hi32 : i < 32
        · obtain ⟨z, hz⟩ : ∃ z, z = t / 2 ^ i := ⟨_, rfl⟩
          have hz2 : t / 2 ^ (i + 1) = z / 2 := by rw [hz, Nat.div_div_eq_div_mul, Nat.pow_succ]
          have hzl : z < 4294967296 := by rw [hz]; exact Nat.lt_of_le_of_lt (Nat.div_le_self ..) (by omega)
          rw [← hz]
          have HZ := Lib.hid hz
          have HZ2 := Lib.hid hz2
          clear hz hz2
          by_cases ho : z % 2 = 1
          · have ho' : ((z : Int) % 2 == 1) = true := by simp; omega
            obtain ⟨d, hd⟩ : ∃ d : Nat, ((b : Int) + (i : Int)) % 8 = (d : Int) := ⟨(b + i) % 8, by omega⟩
            have hd7 : d ≤ 7 := by omega
            have hdn : d = (b + i) % 8 := by omega
            have HO := Lib.hid ho
            have HDN := Lib.hid hdn
            clear ho hdn
            go_wp2
            go_loop [18, 19] (fun y x => ∃ p : Nat, p ≤ d ∧ x = .int .i64 (p : Int) ∧ y = .int .u8 ((2 ^ p : Nat) : Int)) (fun _ x => d - (intOf x).toNat)
            case atStart => exact ⟨0, by omega, rfl, rfl⟩
            case round =>
              obtain ⟨p, hp, rfl, rfl⟩ := hrel
              by_cases hpd : p < d
              · have h2p : (2 : Nat) ^ p ≤ 64 := Nat.le_trans (Nat.pow_le_pow_right (by omega) (show p ≤ 6 by omega)) (by omega)
                have h2s : Hid ((2 : Nat) ^ (p + 1) = 2 ^ p * 2) := Lib.hid (Nat.pow_succ ..)
                generalize (2 : Nat) ^ p = y at h2p h2s
                go_wp2
                go_round
                case rel => exact ⟨p + 1, by omega, by go_num, by rw [h2s.out]; simp⟩
                case measure => simp [intOf]; omega
              · have hpd' : p = d := by omega
                subst hpd'
                obtain ⟨u, hu⟩ : ∃ u : Nat, u = (b + i) / 8 := ⟨_, rfl⟩
                have hul : u < m.length := by rw [hml.out]; omega
                obtain ⟨pl, hpl⟩ : ∃ pl : Nat, pl = fr + q + u := ⟨_, rfl⟩
                have hpe : (fr : Int) + (q : Int) + ((b : Int) + (i : Int)) / 8 = (pl : Int) := by omega
                have hplL : pl < L := by omega
                obtain ⟨hgl, hge2⟩ := mid_get (P := P) (C := C) HPL.out hpl hul
                obtain ⟨hcell, hfr⟩ := HH.out.cell pl hgl
                rw [hge2] at hcell
                obtain ⟨a, ha⟩ : ∃ a, a = m[u] := ⟨_, rfl⟩
                rw [← ha] at hcell
                have hone := one_v p hd7
                obtain ⟨y, hy⟩ : ∃ y, y = 2 ^ p := ⟨_, rfl⟩
                have hy256 : y < 256 := by rw [hy]; exact Nat.lt_of_le_of_lt (Nat.pow_le_pow_right (by omega) hd7) (by omega)
                have hx := u8_xor_nat a.toNat y (UInt8.toNat_lt a) hy256
                have hxa : a.toNat ^^^ y = (a ^^^ UInt8.ofNat y).toNat := by rw [UInt8.toNat_xor, hy, hone]
                rw [hxa] at hx
                obtain ⟨rr, hrr⟩ : ∃ rr, rr = (a ^^^ UInt8.ofNat y).toNat := ⟨_, rfl⟩
                rw [← hrr] at hx
                have hodd := Turned.odd HTU.out (by rw [← HZ.out]; exact HO.out) (by rw [HSL.out]; omega) (UInt8.ofNat y) (by rw [hy, hone, HDN.out])
                have hgd : m.getD ((b + i) / 8) 0 = a := by rw [← hu, ha]; simp [List.getD, List.getElem?_eq_getElem hul]
                rw [hgd, ← hu] at hodd
                have hset := HH.out.set pl hgl (a ^^^ UInt8.ofNat y) (v := .int .u8 (rr : Int)) (by rw [hrr]; rfl)
                rw [show (P ++ m ++ C).set pl (a ^^^ UInt8.ofNat y) = P ++ m.set u (a ^^^ UInt8.ofNat y) ++ C from by rw [hpl]; exact mid_set HPL.out hul _] at hset
                have HODD := Lib.hid hodd
                have HSET := Lib.hid hset
                obtain ⟨av, hav⟩ : ∃ av, av = a.toNat := ⟨_, rfl⟩
                have hcell' : wr.cell? ⟨g, pl, none⟩ = some (.int .u8 (av : Int)) := by rw [hcell, hav]; rfl
                rw [← hav] at hx
                rw [← hy]
                have hq0 : (0 : Int) ≤ (pl : Int) := by omega
                have hqb : (pl : Int) < (L : Int) := by omega
                have HU := Lib.hid hu
                have HPE := Lib.hid hpl
                clear hodd hset hgd hxa hrr hone hcell ha hav hy hu hpl hge2 hgl
                go_wp2
                refine ⟨⟨i + 1, _, by omega, by go_num, by rw [HZ2.out]; simp, HODD.out, HSET.out⟩, ?_⟩
                simp [intOf]; omega
          · have ho' : ((z : Int) % 2 == 1) = false := by simp; omega
            have HE := Lib.hid (Turned.even HTU.out (by rw [← HZ.out]; omega))
            have HO := Lib.hid ho
            clear ho
            go_wp2
            go_roundw
            case rel => exact ⟨i + 1, m, by omega, by go_num, by rw [HZ2.out]; simp, HE.out, HH.out⟩
            case measure => simp [intOf]; omega
        · have hi' : i = 32 := by omega
          subst hi'
          have hML : (P ++ m ++ C).length = L := by
            have h1 := congrArg List.length HAB.out
            rw [← HL.out] at h1
            simp only [List.length_append] at h1 ⊢
            have := hml.out; have := HSL.out; omega
          have hrd := HH.out.rd hML
          have hbr := HH.out.bel
          have hsz := hbr.size
          have hsc : scanF L (P ++ m ++ C) = (ls.take j, fr, 12) := by
            have := scan_turned ls j hkl (fun r hr => by have := H600.out r hr; omega) m C b t L (by have := endF_ge ls j (by omega); rw [← HFR.out] at this; omega) (by rw [hml.out, ← HR.out, ← HLN.out]) (by rw [← HR.out, ← HLN.out]; exact hbn) HT0.out (by omega) (by rw [← HR.out, ← HSV.out]; exact HTU.out)
            rw [← HR.out, ← HP.out, ← HFR.out] at this
            exact this
          have HSC := Lib.hid hsc
          have htl : (ls.take j).length = j := by rw [List.length_take]; omega
          have KSC : Hid (Calls Try.prog 10 #[.slice (some ⟨g, 0, none⟩) L c5] wr fun e w' => ∃ A8 c8, e = .returned (.tuple #[.slice A8 j c8, .int .i64 (fr : Int), .int .i64 12]) ∧ Below wr.heap.size wr w') := by
            refine Lib.hid ((scan_v _ L c5 _ _ wr hrd (Nat.le_refl _) (by omega) h51 HC5.out).mono ?_)
            rintro e w' ⟨v, rs, rfl, hb, hm⟩
            rw [HSC.out] at hm ⊢
            obtain ⟨A8, c8, rfl, h81, h82⟩ := hm.rdL
            rw [htl]
            exact ⟨A8, c8, rfl, hb⟩
          have HBW := Lib.hid (HB3.out.trans (hbr.mono HB3.out.size))
          clear hsc hrd hML htl
          go_wp2_with (go_at_call 10; (with_reducible refine KSC.out.mono ?_); rintro e w6 ⟨A8, c8, rfl, hb6⟩; have HB6 := Lib.hid (HBW.out.trans (hb6.mono HBW.out.size)); clear hb6)
          go_ret
          exact ⟨by simp, HB6.out⟩
end frameTurns
end Go.Proofs.Ytokcgbfncinilaa
