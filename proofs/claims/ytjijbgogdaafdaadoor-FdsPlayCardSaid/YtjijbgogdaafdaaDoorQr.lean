/- FdsPlay: its walk. Behind the powers of ten. -/
import Derived.Test.YtjijbgogdaafdaaDoorQp
namespace Go.Proofs.YtjijbgogdaafdaaDoor
open Go.RowKit Go.Maps
namespace Fd
set_option maxRecDepth 100000
set_option maxHeartbeats 25600000 in
theorem play_v (A : Option Addr) (n c : Nat) (l : List Deed) (A2 : Option Addr) (m c2 : Nat) (qs : List Int) (W : World) (hd : RdD W W.heap.size A n l) (hk : ∀ d ∈ l, DdOk d) (hq : Rd W W.heap.size A2 m (qs.map (Value.int .i64))) (hT : Tb W) : Calls Tryd.prog 3 #[.slice A n c, .slice A2 m c2] W fun e W' => e = .returned (.bool true) ∧ Later W W' := by
  have HT := Lib.hid hT
  have HAW := Lib.hid (awake_v W hT)
  have HD := Lib.hid hd
  have HK := Lib.hid hk
  have HQ := Lib.hid hq
  have hln := hd.len
  have HLN := Lib.hid hln
  clear hT hd hk hln hq
  by_cases hbig : 60 < n
  · have hb1 : (60 : Int) < (n : Int) := by omega
    go_enter Tryd.func3, Tryd.ntmps3
    go_wp2_with (go_at_call 5; (with_reducible refine HAW.out.mono ?_); rintro e w1 ⟨rfl, hl1⟩; (have HL1 := Lib.hid hl1); clear hl1)
    go_ret
    exact ⟨rfl, HL1.out⟩
  have hb1 : ¬ (60 : Int) < (n : Int) := by omega
  have hn60 : n ≤ 60 := by omega
  clear hbig
  by_cases hbig : 20 < m
  · have hb2 : (20 : Int) < (m : Int) := by omega
    go_enter Tryd.func3, Tryd.ntmps3
    go_wp2_with (go_at_call 5; (with_reducible refine HAW.out.mono ?_); rintro e w1 ⟨rfl, hl1⟩; (have HL1 := Lib.hid hl1); clear hl1)
    go_ret
    exact ⟨rfl, HL1.out⟩
  have hb2 : ¬ (20 : Int) < (m : Int) := by omega
  clear hbig
  go_enter Tryd.func3, Tryd.ntmps3
  go_wp2_with (first
    | (go_at_call 5; (with_reducible refine HAW.out.mono ?_); rintro e w1 ⟨rfl, hl1⟩; (have HL1 := Lib.hid hl1); clear hl1)
    | (go_at_call 6; (with_reducible refine (first_v _).mono ?_); rintro e w2 ⟨⟨v2, rfl, h2⟩, hl2⟩; (have H2 := Lib.hid h2); (have HL2 := Lib.hid (HL1.out.trans hl2)); clear h2 hl2)
    | (go_at_call 7; (with_reducible refine (rfirst_v _).mono ?_); rintro e w3 ⟨⟨v3, rfl, h3⟩, hl3⟩; (have H3 := Lib.hid h3); (have H23 := Lib.hid (H2.out.later hl3)); (have HL3 := Lib.hid (HL2.out.trans hl3)); clear h3 hl3))
  go_loopw [6, 7, 8] (fun s6 s7 s8 wr => ∃ i : Nat, s8 = .int .i64 (i : Int) ∧ i ≤ n ∧ Hid (RdP wr wr.heap.size s6 (pl (l.take i)) ∧ RdP wr wr.heap.size s7 (pl (l.take i)) ∧ Later W wr)) (fun _ _ i _ => n - (intOf i).toNat)
  case atStart => exact ⟨0, rfl, Nat.zero_le _, Lib.hid ⟨H23.out, H3.out, HL3.out⟩⟩
  case round =>
    obtain ⟨i, rfl, hi, HR⟩ := hrel
    obtain ⟨wc, hwo⟩ : ∃ wc, wc = wr := ⟨_, rfl⟩
    subst hwo
    have hi0 : (0 : Int) ≤ (i : Int) := by omega
    obtain ⟨LT, hLT⟩ : ∃ LT, LT = pl (l.take i) := ⟨_, rfl⟩
    have hgd := gd_pl HK.out i (by rw [HLN.out]; exact hi)
    rw [← hLT] at HR hgd
    have HGD := Lib.hid (hgd.more (n := 64) (by omega))
    obtain ⟨AT, cT, hv0, _⟩ := HR.out.1.le
    subst hv0
    obtain ⟨AU, cU, hv1, _⟩ := HR.out.2.1.le
    subst hv1
    by_cases hlt : i < n
    · have hlt1 : (i : Int) < (n : Int) := by omega
      have hil : i < l.length := by rw [HLN.out]; exact hlt
      obtain ⟨adr, hA, hab, hda⟩ := HD.out.at_ i hil
      subst hA
      obtain ⟨fd1, hfd⟩ : ∃ fd1, fd1 = l[i].fd := ⟨_, rfl⟩
      obtain ⟨k1, hk1⟩ : ∃ k1, k1 = l[i].k := ⟨_, rfl⟩
      obtain ⟨no, hno⟩ : ∃ no, no = l[i].no := ⟨_, rfl⟩
      have hdk := HK.out _ (List.getElem_mem hil)
      have hst : pl (l.take (i + 1)) = if no = true then wo LT fd1 else wi LT fd1 k1 := by rw [pl_step hil, ← hLT, hfd, hk1, hno]; rfl
      have HDA := Lib.hid (show ∀ w, Later wc w → w.cell? (adr.add (i * 3)) = some (.int .i64 fd1) ∧ w.cell? ⟨(adr.add (i * 3)).block, (adr.add (i * 3)).off + 1, none⟩ = some (.int .i64 k1) from fun w hl => by
        have h := hda.keep (by rw [block_add]; exact hab) (fun p hp => (HR.out.2.2.trans hl).cell hp)
        rw [hfd, hk1]
        exact ⟨h.c0, h.c1⟩)
      have HDN := Lib.hid (show ∀ w, Later wc w → w.cell? ⟨(adr.add (i * 3)).block, (adr.add (i * 3)).off + 2, none⟩ = some (.bool no) from fun w hl => by
        have h := hda.keep (by rw [block_add]; exact hab) (fun p hp => (HR.out.2.2.trans hl).cell hp)
        rw [hno]
        exact h.c2)
      have HIN := Lib.hid (show In fd1 ∧ In k1 by rw [hfd, hk1]; exact hdk)
      have HST := Lib.hid hst
      obtain ⟨TT, hTT⟩ : ∃ t, t = text LT := ⟨_, rfl⟩
      have HTT := Lib.hid hTT
      have HSO := Lib.hid (show Calls Tryd.prog 8 #[.slice AU LT.length cU] wc fun e w' => e = .returned (.string (mkS TT)) ∧ Later wc w' by rw [hTT]; exact rshow_v _ LT wc HR.out.2.1 HGD.out.ok (by have := HGD.out.len; omega))
      clear hLT hgd hda hfd hk1 hno hab hil hdk hst hTT
      go_wp2_with fail
      go_at_call 8
      with_reducible refine HSO.out.mono ?_
      rintro e wb ⟨rfl, hlb⟩
      have HLB := Lib.hid hlb
      have q2 := HDN.out wb hlb
      clear hlb
      cases no with
      | true =>
        obtain ⟨LX, hLX⟩ : ∃ LX, LX = wo LT fd1 := ⟨_, rfl⟩
        have HGX := Lib.hid (show Gd LX 65 by rw [hLX]; exact (HGD.out.wo fd1).more (by omega))
        have HSX := Lib.hid (show pl (l.take (i + 1)) = LX by rw [HST.out, if_pos rfl, hLX])
        have q0 := (HDA.out wb HLB.out).1
        have HW1 := Lib.hid (show Calls Tryd.prog 9 #[.slice AT LT.length cT, .int .i64 fd1] wb fun e w' => Told wb w' e LX by rw [hLX]; exact without_v _ LT fd1 wb (HR.out.1.later HLB.out) (by have := HGD.out.len; omega))
        have HW2 := Lib.hid (show ∀ w, Later wb w → Calls Tryd.prog 10 #[.slice AU LT.length cU, .int .i64 fd1] w fun e w' => Told w w' e LX from fun w hl => by rw [hLX]; exact rwo_v _ LT fd1 w (HR.out.2.1.later (HLB.out.trans hl)) (by have := HGD.out.len; omega))
        clear hLX
        go_wp2_with fail
        go_at_call 9
        with_reducible refine HW1.out.mono ?_
        rintro e w4 ⟨⟨v4, rfl, h4⟩, hl4⟩
        have H4 := Lib.hid h4
        have K4 := Lib.hid hl4
        clear q0 q2
        have q0 := (HDA.out w4 (HLB.out.trans hl4)).1
        obtain ⟨AX, cX, rfl, _⟩ := h4.le
        clear h4 hl4
        go_wp2_with fail
        go_at_call 10
        with_reducible refine (HW2.out _ K4.out).mono ?_
        rintro e wz ⟨⟨v5, rfl, h5⟩, hl5⟩
        obtain ⟨AY, cY, rfl, _⟩ := h5.le
        have HXX := Lib.hid (show RdP wz wz.heap.size (.slice AX LX.length cX) LX ∧ RdP wz wz.heap.size (.slice AY LX.length cY) LX ∧ Later wc wz from ⟨H4.out.later hl5, h5, HLB.out.trans (K4.out.trans hl5)⟩)
        clear h5 hl5 q0
        obtain ⟨TX, hTX⟩ : ∃ t, t = text LX := ⟨_, rfl⟩
        have HS1 := Lib.hid (show Calls Tryd.prog 13 #[.slice AX LX.length cX] wz fun e w' => e = .returned (.string (mkS TX)) ∧ Later wz w' by rw [hTX]; exact show_v _ LX wz HXX.out.1 HGX.out.ok (by have := HGX.out.len; omega) (HT.out.later (HR.out.2.2.trans HXX.out.2.2)))
        have HS2 := Lib.hid (show ∀ w, Later wz w → Calls Tryd.prog 8 #[.slice AY LX.length cY] w fun e w' => e = .returned (.string (mkS TX)) ∧ Later w w' from fun w hl => by rw [hTX]; exact rshow_v _ LX w (HXX.out.2.1.later hl) HGX.out.ok (by have := HGX.out.len; omega))
        have HS3 := Lib.hid (show ∀ w, Later wz w → Calls Tryd.prog 13 #[.slice AT LT.length cT] w fun e w' => e = .returned (.string (mkS TT)) ∧ Later w w' from fun w hl => by rw [HTT.out]; exact show_v _ LT w (HR.out.1.later (HXX.out.2.2.trans hl)) HGD.out.ok (by have := HGD.out.len; omega) (HT.out.later (HR.out.2.2.trans (HXX.out.2.2.trans hl))))
        have htX : ((mkS TX).toList == (mkS TX).toList) = true := beq_self_eq_true _
        have htT : ((mkS TT).toList == (mkS TT).toList) = true := beq_self_eq_true _
        have hnX : ((LX.length : Int) == (LX.length : Int)) = true := beq_self_eq_true _
        clear hTX
        go_wp2_with fail
        go_at_call 13
        with_reducible refine HS1.out.mono ?_
        rintro e w6 ⟨rfl, hl6⟩
        have K6 := Lib.hid hl6
        clear hl6
        go_wp2_with fail
        go_at_call 8
        with_reducible refine (HS2.out _ K6.out).mono ?_
        rintro e w7 ⟨rfl, hl7⟩
        have K7 := Lib.hid (K6.out.trans hl7)
        clear hl7
        go_wp2_with fail
        go_at_call 13
        with_reducible refine (HS3.out _ K7.out).mono ?_
        rintro e w8 ⟨rfl, hl8⟩
        have K8 := Lib.hid (K7.out.trans hl8)
        clear hl8
        go_wp2_with fail
        go_loopw [11] (fun s11 wr => ∃ k : Nat, s11 = .int .i64 (k : Int) ∧ k ≤ m ∧ Hid (Later wz wr)) (fun k _ => m - (intOf k).toNat)
        case atStart => exact ⟨0, rfl, Nat.zero_le _, K8⟩
        case round =>
          obtain ⟨k, rfl, hkm, HKL⟩ := hrel
          have hk0 : (0 : Int) ≤ (k : Int) := by omega
          by_cases hlk : k < m
          · have hlk1 : (k : Int) < (m : Int) := by omega
            obtain ⟨ad2, hkl, hA2, hb2', hc2'⟩ := HQ.out.at_map hlk
            subst hA2
            obtain ⟨q, hqq⟩ : ∃ q, q = qs[k] := ⟨_, rfl⟩
            rw [← hqq] at hc2'
            have HCQ := Lib.hid (show ∀ w, Later wr w → w.cell? (ad2.add k) = some (.int .i64 q) from fun w hl => ((HR.out.2.2.trans (HXX.out.2.2.trans (HKL.out.trans hl))).cell (by rw [block_add]; exact hb2')).trans hc2')
            obtain ⟨gg, hgg⟩ : ∃ gg, gg = get LX q := ⟨_, rfl⟩
            have HG1 := Lib.hid (show Calls Tryd.prog 14 #[.slice AX LX.length cX, .int .i64 q] wr fun e w' => e = .returned (.tuple #[.int .i64 gg.1, .bool gg.2]) ∧ Later wr w' by rw [hgg]; exact get_v _ LX q wr (HXX.out.1.later HKL.out) HGX.out.up (by have := HGX.out.len; omega))
            have HG2 := Lib.hid (show ∀ w, Later wr w → Calls Tryd.prog 15 #[.slice AY LX.length cY, .int .i64 q] w fun e w' => e = .returned (.tuple #[.int .i64 gg.1, .bool gg.2]) ∧ Later w w' from fun w hl => by rw [hgg]; exact rget_v _ LX q w (HXX.out.2.1.later (HKL.out.trans hl)))
            have hq3 : (gg.1 == gg.1) = true := beq_self_eq_true _
            have hq4 : (gg.2 == gg.2) = true := beq_self_eq_true _
            have p0 := HCQ.out wr (Later.refl _)
            clear hkl hb2' hc2' hqq hgg
            go_wp2_with fail
            go_at_call 14
            with_reducible refine HG1.out.mono ?_
            rintro e w9 ⟨rfl, hl9⟩
            have K9 := Lib.hid hl9
            clear p0
            have p0 := HCQ.out w9 hl9
            clear hl9
            go_wp2_with fail
            go_at_call 15
            with_reducible refine (HG2.out _ K9.out).mono ?_
            rintro e w10 ⟨rfl, hl10⟩
            have K10 := Lib.hid (K9.out.trans hl10)
            clear hl10 p0
            go_wp2
            go_roundw
            case rel => exact ⟨k + 1, by go_num, by omega, Lib.hid (HKL.out.trans K10.out)⟩
            case measure => simp [intOf]; omega
          · have hlk1 : ¬ (k : Int) < (m : Int) := by omega
            go_wp2
            go_roundw
            case rel => exact ⟨i + 1, by go_num, by omega, Lib.hid (by rw [HSX.out]; exact ⟨HXX.out.1.later HKL.out, HXX.out.2.1.later HKL.out, HR.out.2.2.trans (HXX.out.2.2.trans HKL.out)⟩)⟩
            case measure => simp [intOf]; omega
      | false =>
        obtain ⟨LX, hLX⟩ : ∃ LX, LX = wi LT fd1 k1 := ⟨_, rfl⟩
        have HGX := Lib.hid (show Gd LX 65 by rw [hLX]; exact HGD.out.wi HIN.out.1 HIN.out.2)
        have HSX := Lib.hid (show pl (l.take (i + 1)) = LX by rw [HST.out, if_neg (by simp), hLX])
        have HDW := HDA
        have HWI := Lib.hid (show ∀ w, Later wb w → Calls Tryd.prog 11 #[.slice AT LT.length cT, .int .i64 fd1, .int .i64 k1] w fun e w' => Told w w' e LX from fun w hl => by rw [hLX]; exact with_v _ LT fd1 k1 w (HR.out.1.later (HLB.out.trans hl)) HGD.out.up (by have := HGD.out.len; omega))
        have HWJ := Lib.hid (show ∀ w, Later wb w → Calls Tryd.prog 12 #[.slice AU LT.length cU, .int .i64 fd1, .int .i64 k1] w fun e w' => Told w w' e LX from fun w hl => by rw [hLX]; exact rwith_v _ LT fd1 k1 w (HR.out.2.1.later (HLB.out.trans hl)) HGD.out.up (by have := HGD.out.len; omega))
        replace HDA := Lib.hid (fun w (hl : Later wb w) => HDW.out w (HLB.out.trans hl))
        clear hLX
        go_wp2_with fail
        clear q2
        obtain ⟨C0, hC0⟩ : ∃ C0 : Nat → Value → World → Prop, C0 = fun j u w => (j = 0 ∧ Later wb w) ∨ (1 ≤ j ∧ RdP w w.heap.size u LX ∧ Later wb w) := ⟨_, rfl⟩
        have HC0 := Lib.hid (show C0 0 undef wb.drew by rw [hC0]; exact .inl ⟨rfl, Later.drew wb⟩)
        have HC1 := Lib.hid (show ∀ j u w, C0 j u w → j ≤ 0 → Later wb w from fun j u w hc hj => by
          rw [hC0] at hc
          rcases hc with ⟨_, h⟩ | ⟨h, _⟩
          · exact h
          · omega)
        have HC2 := Lib.hid (show ∀ v w, RdP w w.heap.size v LX → Later wb w → C0 1 v w from fun v w h1 h2 => by rw [hC0]; exact .inr ⟨Nat.le_refl _, h1, h2⟩)
        have HC3 := Lib.hid (show ∀ u w, C0 1 u w → ∃ A c, u = .slice A LX.length c ∧ RdP w w.heap.size (.slice A LX.length c) LX ∧ Later wb w from fun u w hc => by
          rw [hC0] at hc
          rcases hc with ⟨h, _⟩ | ⟨_, h1, h2⟩
          · omega
          · obtain ⟨A, c, rfl, _⟩ := h1.le
            exact ⟨A, c, rfl, h1, h2⟩)
        have HC4 := Lib.hid (show ∀ A c w, (RdP w w.heap.size (.slice A LX.length c) LX ∧ Later wb w) → C0 2 (.slice A LX.length c) w from fun A c w h => by rw [hC0]; exact .inr ⟨by omega, h.1, h.2⟩)
        have HC5 := Lib.hid (show ∀ u w, C0 2 u w → ∃ A c, u = .slice A LX.length c ∧ RdP w w.heap.size (.slice A LX.length c) LX ∧ Later wb w from fun u w hc => by
          rw [hC0] at hc
          rcases hc with ⟨h, _⟩ | ⟨_, h1, h2⟩
          · omega
          · obtain ⟨A, c, rfl, _⟩ := h1.le
            exact ⟨A, c, rfl, h1, h2⟩)
        clear hC0
        refine wp_region_seqE (by kernel_rfl) [11, 12] (C0) [some (.slice AT LT.length cT), some (.slice (some adr) n c), some (.int .i64 (i : Int)), some (.pointer (some (adr.add (i * 3)))), some (.pointer (some (adr.add (i * 3)))), some (.int .i64 fd1), some (.slice (some adr) n c), some (.int .i64 (i : Int)), some (.pointer (some (adr.add (i * 3)))), some (.pointer (some ⟨(adr.add (i * 3)).block, (adr.add (i * 3)).off + 1, none⟩)), some (.int .i64 k1), none, none] (by decide) (by decide) (by kernel_rfl) (by kernel_rfl) 6 (by kernel_rfl) (HC0.out) ?_ ?_
        · refine ⟨?_, ?_, ?_, ?_, ?_, ?_, ?_, ?_, ?_, ?_, ?_, ?_, ?_, trivial⟩
          · -- 0: slot 57 := Op.move t6
            refine OwesSE.q rfl fun a w j u hC hb he hs => ⟨rfl, ?_⟩
            have e6 : a.tmps.getD 6 undef = .slice AT LT.length cT := he (by have := hb 1 12 rfl rfl; simp only [List.length_cons, List.length_nil]; omega)
            refine ValWp.pure (v := .slice AT LT.length cT) (fun K' hK' => ?_) ⟨rfl, rfl⟩
            simp only [ValWp, execOp, Act.eval, e6]
            go_simp
            all_goals exact hK'
          · -- 1: slot 58 := Op.move t0
            refine OwesSE.q rfl fun a w j u hC hb he hs => ⟨rfl, ?_⟩
            have e0 : a.tmps.getD 0 undef = .slice (some adr) n c := hs.free 0 rfl
            refine ValWp.pure (v := .slice (some adr) n c) (fun K' hK' => ?_) ⟨rfl, rfl⟩
            simp only [ValWp, execOp, Act.eval, e0]
            go_simp
            all_goals exact hK'
          · -- 2: slot 59 := Op.move t8
            refine OwesSE.q rfl fun a w j u hC hb he hs => ⟨rfl, ?_⟩
            have e8 : a.tmps.getD 8 undef = .int .i64 (i : Int) := hs.free 8 rfl
            refine ValWp.pure (v := .int .i64 (i : Int)) (fun K' hK' => ?_) ⟨rfl, rfl⟩
            simp only [ValWp, execOp, Act.eval, e8]
            go_simp
            all_goals exact hK'
          · -- 3: slot 60 := Op.indexAddr 22 t58 t59
            refine OwesSE.q rfl fun a w j u hC hb he hs => ⟨rfl, ?_⟩
            have e58 : a.tmps.getD 58 undef = .slice (some adr) n c := hs.dep 1 _ rfl rfl
            have e59 : a.tmps.getD 59 undef = .int .i64 (i : Int) := hs.dep 2 _ rfl rfl
            refine ValWp.pure (v := .pointer (some (adr.add (i * 3)))) (fun K' hK' => ?_) ⟨rfl, rfl⟩
            simp only [ValWp, execOp, Act.eval, e58, e59]
            go_simp
            all_goals exact hK'
          · -- 4: slot 61 := Op.fieldAddr 32 t60 0
            refine OwesSE.q rfl fun a w j u hC hb he hs => ⟨rfl, ?_⟩
            have e60 : a.tmps.getD 60 undef = .pointer (some (adr.add (i * 3))) := hs.dep 3 _ rfl rfl
            refine ValWp.pure (v := .pointer (some (adr.add (i * 3)))) (fun K' hK' => ?_) ⟨rfl, rfl⟩
            simp only [ValWp, execOp, Act.eval, e60]
            go_simp
            all_goals exact hK'
          · -- 5: slot 62 := Op.load 3 t61
            refine OwesSE.q rfl fun a w j u hC hb he hs => ⟨rfl, ?_⟩
            have e61 : a.tmps.getD 61 undef = .pointer (some (adr.add (i * 3))) := hs.dep 4 _ rfl rfl
            have hj := hb 0 11 rfl rfl
            have q0 := (HDA.out w (HC1.out j u w hC (by omega))).1
            refine ValWp.pure (v := .int .i64 fd1) (fun K' hK' => ?_) ⟨rfl, rfl⟩
            simp only [ValWp, execOp, Act.eval, e61]
            go_simp
            all_goals exact hK'
          · -- 6: slot 63 := Op.move t0
            refine OwesSE.q rfl fun a w j u hC hb he hs => ⟨rfl, ?_⟩
            have e0 : a.tmps.getD 0 undef = .slice (some adr) n c := hs.free 0 rfl
            refine ValWp.pure (v := .slice (some adr) n c) (fun K' hK' => ?_) ⟨rfl, rfl⟩
            simp only [ValWp, execOp, Act.eval, e0]
            go_simp
            all_goals exact hK'
          · -- 7: slot 64 := Op.move t8
            refine OwesSE.q rfl fun a w j u hC hb he hs => ⟨rfl, ?_⟩
            have e8 : a.tmps.getD 8 undef = .int .i64 (i : Int) := hs.free 8 rfl
            refine ValWp.pure (v := .int .i64 (i : Int)) (fun K' hK' => ?_) ⟨rfl, rfl⟩
            simp only [ValWp, execOp, Act.eval, e8]
            go_simp
            all_goals exact hK'
          · -- 8: slot 65 := Op.indexAddr 22 t63 t64
            refine OwesSE.q rfl fun a w j u hC hb he hs => ⟨rfl, ?_⟩
            have e63 : a.tmps.getD 63 undef = .slice (some adr) n c := hs.dep 6 _ rfl rfl
            have e64 : a.tmps.getD 64 undef = .int .i64 (i : Int) := hs.dep 7 _ rfl rfl
            refine ValWp.pure (v := .pointer (some (adr.add (i * 3)))) (fun K' hK' => ?_) ⟨rfl, rfl⟩
            simp only [ValWp, execOp, Act.eval, e63, e64]
            go_simp
            all_goals exact hK'
          · -- 9: slot 66 := Op.fieldAddr 32 t65 1
            refine OwesSE.q rfl fun a w j u hC hb he hs => ⟨rfl, ?_⟩
            have e65 : a.tmps.getD 65 undef = .pointer (some (adr.add (i * 3))) := hs.dep 8 _ rfl rfl
            refine ValWp.pure (v := .pointer (some ⟨(adr.add (i * 3)).block, (adr.add (i * 3)).off + 1, none⟩)) (fun K' hK' => ?_) ⟨rfl, rfl⟩
            simp only [ValWp, execOp, Act.eval, e65]
            go_simp
            all_goals exact hK'
          · -- 10: slot 67 := Op.load 2 t66
            refine OwesSE.q rfl fun a w j u hC hb he hs => ⟨rfl, ?_⟩
            have e66 : a.tmps.getD 66 undef = .pointer (some ⟨(adr.add (i * 3)).block, (adr.add (i * 3)).off + 1, none⟩) := hs.dep 9 _ rfl rfl
            have hj := hb 0 11 rfl rfl
            have q0 := (HDA.out w (HC1.out j u w hC (by omega))).2
            refine ValWp.pure (v := .int .i64 k1) (fun K' hK' => ?_) ⟨rfl, rfl⟩
            simp only [ValWp, execOp, Act.eval, e66]
            go_simp
            all_goals exact hK'
          · -- 11: slot 68 := Op.call { value (Operand.func 11), args := #[t57, t62, t67], argTypes := #[26, 3, 2] }
            refine OwesSE.w rfl fun a w u hC hl hs => ⟨rfl, fun K hK => ?_⟩
            have e57 : a.tmps.getD 57 undef = .slice AT LT.length cT := hs.dep 0 _ rfl rfl
            have e62 : a.tmps.getD 62 undef = .int .i64 fd1 := hs.dep 5 _ rfl rfl
            have e67 : a.tmps.getD 67 undef = .int .i64 k1 := hs.dep 10 _ rfl rfl
            have hl0 := HC1.out _ u w hC (by decide)
            refine wp_of_val ?_
            refine ValWp.call #[.slice AT LT.length cT, .int .i64 fd1, .int .i64 k1] rfl rfl Tryd.func11 rfl rfl (by simp only [List.map_toArray, List.map_cons, List.map_nil, Act.eval, e57, e62, e67]) ?_
            refine (HWI.out w hl0).mono ?_
            rintro e w' ⟨⟨v, rfl, hrd⟩, hl⟩
            exact ⟨_, rfl, hK _ _ trivial (HC2.out v w' hrd (Later.trans hl0 hl))⟩
          · -- 12: slot 6 := Op.assign t68
            refine OwesSE.w rfl fun a w u hC hl hs => ⟨rfl, fun K hK => ?_⟩
            have e68 : a.tmps.getD 68 undef = u := hl
            obtain ⟨AX, cX, hu, hx⟩ := HC3.out u w hC
            subst hu
            refine wp_of_val ?_
            refine ValWp.pure (v := .slice AX LX.length cX) (w' := w) (fun K' hK' => ?_) (hK _ _ trivial (HC4.out AX cX w hx))
            simp only [ValWp, execOp, Act.eval, e68]
            go_simp
            all_goals exact hK'
        · intro a W_ u hC hl hd hsz hfree hs
          obtain ⟨u57, hu57⟩ : ∃ u, u = a.tmps.getD 57 undef := ⟨_, rfl⟩
          obtain ⟨u58, hu58⟩ : ∃ u, u = a.tmps.getD 58 undef := ⟨_, rfl⟩
          obtain ⟨u59, hu59⟩ : ∃ u, u = a.tmps.getD 59 undef := ⟨_, rfl⟩
          obtain ⟨u60, hu60⟩ : ∃ u, u = a.tmps.getD 60 undef := ⟨_, rfl⟩
          obtain ⟨u61, hu61⟩ : ∃ u, u = a.tmps.getD 61 undef := ⟨_, rfl⟩
          obtain ⟨u62, hu62⟩ : ∃ u, u = a.tmps.getD 62 undef := ⟨_, rfl⟩
          obtain ⟨u63, hu63⟩ : ∃ u, u = a.tmps.getD 63 undef := ⟨_, rfl⟩
          obtain ⟨u64, hu64⟩ : ∃ u, u = a.tmps.getD 64 undef := ⟨_, rfl⟩
          obtain ⟨u65, hu65⟩ : ∃ u, u = a.tmps.getD 65 undef := ⟨_, rfl⟩
          obtain ⟨u66, hu66⟩ : ∃ u, u = a.tmps.getD 66 undef := ⟨_, rfl⟩
          obtain ⟨u67, hu67⟩ : ∃ u, u = a.tmps.getD 67 undef := ⟨_, rfl⟩
          obtain ⟨u68, hu68⟩ : ∃ u, u = a.tmps.getD 68 undef := ⟨_, rfl⟩
          have hal : AllAt a 0 [_, _, _, _, _, _, u, _, _, _, _, _, _, _, _, _, _, _, _, _, _, _, _, _, _, _, _, _, _, _, _, _, _, _, _, _, _, _, _, _, _, _, _, _, _, _, _, _, _, _, _, _, _, _, _, _, _, u57, u58, u59, u60, u61, u62, u63, u64, u65, u66, u67, u68, _, _, _, _, _, _, _, _, _, _, _, _, _, _, _, _, _, _, _, _, _, _, _, _, _, _, _, _, _, _, _, _, _, _, _, _, _, _, _, _, _, _, _, _, _, _, _, _, _, _, _, _, _, _, _, _, _, _, _, _, _, _] := ⟨hfree 0 rfl, hfree 1 rfl, hfree 2 rfl, hfree 3 rfl, hfree 4 rfl, hfree 5 rfl, hl, hfree 7 rfl, hfree 8 rfl, hfree 9 rfl, hfree 10 rfl, hfree 11 rfl, hfree 12 rfl, hfree 13 rfl, hfree 14 rfl, hfree 15 rfl, hfree 16 rfl, hfree 17 rfl, hfree 18 rfl, hfree 19 rfl, hfree 20 rfl, hfree 21 rfl, hfree 22 rfl, hfree 23 rfl, hfree 24 rfl, hfree 25 rfl, hfree 26 rfl, hfree 27 rfl, hfree 28 rfl, hfree 29 rfl, hfree 30 rfl, hfree 31 rfl, hfree 32 rfl, hfree 33 rfl, hfree 34 rfl, hfree 35 rfl, hfree 36 rfl, hfree 37 rfl, hfree 38 rfl, hfree 39 rfl, hfree 40 rfl, hfree 41 rfl, hfree 42 rfl, hfree 43 rfl, hfree 44 rfl, hfree 45 rfl, hfree 46 rfl, hfree 47 rfl, hfree 48 rfl, hfree 49 rfl, hfree 50 rfl, hfree 51 rfl, hfree 52 rfl, hfree 53 rfl, hfree 54 rfl, hfree 55 rfl, hfree 56 rfl, hu57.symm, hu58.symm, hu59.symm, hu60.symm, hu61.symm, hu62.symm, hu63.symm, hu64.symm, hu65.symm, hu66.symm, hu67.symm, hu68.symm, hfree 69 rfl, hfree 70 rfl, hfree 71 rfl, hfree 72 rfl, hfree 73 rfl, hfree 74 rfl, hfree 75 rfl, hfree 76 rfl, hfree 77 rfl, hfree 78 rfl, hfree 79 rfl, hfree 80 rfl, hfree 81 rfl, hfree 82 rfl, hfree 83 rfl, hfree 84 rfl, hfree 85 rfl, hfree 86 rfl, hfree 87 rfl, hfree 88 rfl, hfree 89 rfl, hfree 90 rfl, hfree 91 rfl, hfree 92 rfl, hfree 93 rfl, hfree 94 rfl, hfree 95 rfl, hfree 96 rfl, hfree 97 rfl, hfree 98 rfl, hfree 99 rfl, hfree 100 rfl, hfree 101 rfl, hfree 102 rfl, hfree 103 rfl, hfree 104 rfl, hfree 105 rfl, hfree 106 rfl, hfree 107 rfl, hfree 108 rfl, hfree 109 rfl, hfree 110 rfl, hfree 111 rfl, hfree 112 rfl, hfree 113 rfl, hfree 114 rfl, hfree 115 rfl, hfree 116 rfl, hfree 117 rfl, hfree 118 rfl, hfree 119 rfl, hfree 120 rfl, hfree 121 rfl, hfree 122 rfl, hfree 123 rfl, hfree 124 rfl, hfree 125 rfl, hfree 126 rfl, hfree 127 rfl, hfree 128 rfl, hfree 129 rfl, hfree 130 rfl, trivial⟩
          have hlit := fun h => act_lit hd h hal
          rw [hlit hsz]
          simp only [Array.getD_eq_getD_getElem?, List.getElem?_toArray, List.getElem?_cons_zero, List.getElem?_cons_succ, Option.getD_some]
          clear hlit hal hd hsz hfree hs hu57 hu58 hu59 hu60 hu61 hu62 hu63 hu64 hu65 hu66 hu67 hu68
          obtain ⟨AX, cX, hu, hx, hlx⟩ := HC5.out u W_ hC
          subst hu
          have H4 := Lib.hid hx
          have K4 := Lib.hid hlx
          replace HDA := Lib.hid (fun w (hl : Later W_ w) => HDW.out w (HLB.out.trans (K4.out.trans hl)))
          replace HWI := Lib.hid (fun w (hl : Later W_ w) => HWJ.out w (K4.out.trans hl))
          clear hx hlx hC HC0 HC1 HC2 HC3 HC4 HC5
          go_wp2_with fail
          obtain ⟨C0, hC0⟩ : ∃ C0 : Nat → Value → World → Prop, C0 = fun j u w => (j = 0 ∧ Later W_ w) ∨ (1 ≤ j ∧ RdP w w.heap.size u LX ∧ Later W_ w) := ⟨_, rfl⟩
          have HC0 := Lib.hid (show C0 0 undef W_.drew by rw [hC0]; exact .inl ⟨rfl, Later.drew W_⟩)
          have HC1 := Lib.hid (show ∀ j u w, C0 j u w → j ≤ 0 → Later W_ w from fun j u w hc hj => by
            rw [hC0] at hc
            rcases hc with ⟨_, h⟩ | ⟨h, _⟩
            · exact h
            · omega)
          have HC2 := Lib.hid (show ∀ v w, RdP w w.heap.size v LX → Later W_ w → C0 1 v w from fun v w h1 h2 => by rw [hC0]; exact .inr ⟨Nat.le_refl _, h1, h2⟩)
          have HC3 := Lib.hid (show ∀ u w, C0 1 u w → ∃ A c, u = .slice A LX.length c ∧ RdP w w.heap.size (.slice A LX.length c) LX ∧ Later W_ w from fun u w hc => by
            rw [hC0] at hc
            rcases hc with ⟨h, _⟩ | ⟨_, h1, h2⟩
            · omega
            · obtain ⟨A, c, rfl, _⟩ := h1.le
              exact ⟨A, c, rfl, h1, h2⟩)
          have HC4 := Lib.hid (show ∀ A c w, (RdP w w.heap.size (.slice A LX.length c) LX ∧ Later W_ w) → C0 2 (.slice A LX.length c) w from fun A c w h => by rw [hC0]; exact .inr ⟨by omega, h.1, h.2⟩)
          have HC5 := Lib.hid (show ∀ u w, C0 2 u w → ∃ A c, u = .slice A LX.length c ∧ RdP w w.heap.size (.slice A LX.length c) LX ∧ Later W_ w from fun u w hc => by
            rw [hC0] at hc
            rcases hc with ⟨h, _⟩ | ⟨_, h1, h2⟩
            · omega
            · obtain ⟨A, c, rfl, _⟩ := h1.le
              exact ⟨A, c, rfl, h1, h2⟩)
          clear hC0
          refine wp_region_seqE (by kernel_rfl) [11, 12] (C0) [some (.slice AU LT.length cU), some (.slice (some adr) n c), some (.int .i64 (i : Int)), some (.pointer (some (adr.add (i * 3)))), some (.pointer (some (adr.add (i * 3)))), some (.int .i64 fd1), some (.slice (some adr) n c), some (.int .i64 (i : Int)), some (.pointer (some (adr.add (i * 3)))), some (.pointer (some ⟨(adr.add (i * 3)).block, (adr.add (i * 3)).off + 1, none⟩)), some (.int .i64 k1), none, none] (by decide) (by decide) (by kernel_rfl) (by kernel_rfl) 7 (by kernel_rfl) (HC0.out) ?_ ?_
          · refine ⟨?_, ?_, ?_, ?_, ?_, ?_, ?_, ?_, ?_, ?_, ?_, ?_, ?_, trivial⟩
            · -- 0: slot 69 := Op.move t7
              refine OwesSE.q rfl fun a w j u hC hb he hs => ⟨rfl, ?_⟩
              have e7 : a.tmps.getD 7 undef = .slice AU LT.length cU := he (by have := hb 1 12 rfl rfl; simp only [List.length_cons, List.length_nil]; omega)
              refine ValWp.pure (v := .slice AU LT.length cU) (fun K' hK' => ?_) ⟨rfl, rfl⟩
              simp only [ValWp, execOp, Act.eval, e7]
              go_simp
              all_goals exact hK'
            · -- 1: slot 70 := Op.move t0
              refine OwesSE.q rfl fun a w j u hC hb he hs => ⟨rfl, ?_⟩
              have e0 : a.tmps.getD 0 undef = .slice (some adr) n c := hs.free 0 rfl
              refine ValWp.pure (v := .slice (some adr) n c) (fun K' hK' => ?_) ⟨rfl, rfl⟩
              simp only [ValWp, execOp, Act.eval, e0]
              go_simp
              all_goals exact hK'
            · -- 2: slot 71 := Op.move t8
              refine OwesSE.q rfl fun a w j u hC hb he hs => ⟨rfl, ?_⟩
              have e8 : a.tmps.getD 8 undef = .int .i64 (i : Int) := hs.free 8 rfl
              refine ValWp.pure (v := .int .i64 (i : Int)) (fun K' hK' => ?_) ⟨rfl, rfl⟩
              simp only [ValWp, execOp, Act.eval, e8]
              go_simp
              all_goals exact hK'
            · -- 3: slot 72 := Op.indexAddr 22 t70 t71
              refine OwesSE.q rfl fun a w j u hC hb he hs => ⟨rfl, ?_⟩
              have e70 : a.tmps.getD 70 undef = .slice (some adr) n c := hs.dep 1 _ rfl rfl
              have e71 : a.tmps.getD 71 undef = .int .i64 (i : Int) := hs.dep 2 _ rfl rfl
              refine ValWp.pure (v := .pointer (some (adr.add (i * 3)))) (fun K' hK' => ?_) ⟨rfl, rfl⟩
              simp only [ValWp, execOp, Act.eval, e70, e71]
              go_simp
              all_goals exact hK'
            · -- 4: slot 73 := Op.fieldAddr 32 t72 0
              refine OwesSE.q rfl fun a w j u hC hb he hs => ⟨rfl, ?_⟩
              have e72 : a.tmps.getD 72 undef = .pointer (some (adr.add (i * 3))) := hs.dep 3 _ rfl rfl
              refine ValWp.pure (v := .pointer (some (adr.add (i * 3)))) (fun K' hK' => ?_) ⟨rfl, rfl⟩
              simp only [ValWp, execOp, Act.eval, e72]
              go_simp
              all_goals exact hK'
            · -- 5: slot 74 := Op.load 3 t73
              refine OwesSE.q rfl fun a w j u hC hb he hs => ⟨rfl, ?_⟩
              have e73 : a.tmps.getD 73 undef = .pointer (some (adr.add (i * 3))) := hs.dep 4 _ rfl rfl
              have hj := hb 0 11 rfl rfl
              have q0 := (HDA.out w (HC1.out j u w hC (by omega))).1
              refine ValWp.pure (v := .int .i64 fd1) (fun K' hK' => ?_) ⟨rfl, rfl⟩
              simp only [ValWp, execOp, Act.eval, e73]
              go_simp
              all_goals exact hK'
            · -- 6: slot 75 := Op.move t0
              refine OwesSE.q rfl fun a w j u hC hb he hs => ⟨rfl, ?_⟩
              have e0 : a.tmps.getD 0 undef = .slice (some adr) n c := hs.free 0 rfl
              refine ValWp.pure (v := .slice (some adr) n c) (fun K' hK' => ?_) ⟨rfl, rfl⟩
              simp only [ValWp, execOp, Act.eval, e0]
              go_simp
              all_goals exact hK'
            · -- 7: slot 76 := Op.move t8
              refine OwesSE.q rfl fun a w j u hC hb he hs => ⟨rfl, ?_⟩
              have e8 : a.tmps.getD 8 undef = .int .i64 (i : Int) := hs.free 8 rfl
              refine ValWp.pure (v := .int .i64 (i : Int)) (fun K' hK' => ?_) ⟨rfl, rfl⟩
              simp only [ValWp, execOp, Act.eval, e8]
              go_simp
              all_goals exact hK'
            · -- 8: slot 77 := Op.indexAddr 22 t75 t76
              refine OwesSE.q rfl fun a w j u hC hb he hs => ⟨rfl, ?_⟩
              have e75 : a.tmps.getD 75 undef = .slice (some adr) n c := hs.dep 6 _ rfl rfl
              have e76 : a.tmps.getD 76 undef = .int .i64 (i : Int) := hs.dep 7 _ rfl rfl
              refine ValWp.pure (v := .pointer (some (adr.add (i * 3)))) (fun K' hK' => ?_) ⟨rfl, rfl⟩
              simp only [ValWp, execOp, Act.eval, e75, e76]
              go_simp
              all_goals exact hK'
            · -- 9: slot 78 := Op.fieldAddr 32 t77 1
              refine OwesSE.q rfl fun a w j u hC hb he hs => ⟨rfl, ?_⟩
              have e77 : a.tmps.getD 77 undef = .pointer (some (adr.add (i * 3))) := hs.dep 8 _ rfl rfl
              refine ValWp.pure (v := .pointer (some ⟨(adr.add (i * 3)).block, (adr.add (i * 3)).off + 1, none⟩)) (fun K' hK' => ?_) ⟨rfl, rfl⟩
              simp only [ValWp, execOp, Act.eval, e77]
              go_simp
              all_goals exact hK'
            · -- 10: slot 79 := Op.load 2 t78
              refine OwesSE.q rfl fun a w j u hC hb he hs => ⟨rfl, ?_⟩
              have e78 : a.tmps.getD 78 undef = .pointer (some ⟨(adr.add (i * 3)).block, (adr.add (i * 3)).off + 1, none⟩) := hs.dep 9 _ rfl rfl
              have hj := hb 0 11 rfl rfl
              have q0 := (HDA.out w (HC1.out j u w hC (by omega))).2
              refine ValWp.pure (v := .int .i64 k1) (fun K' hK' => ?_) ⟨rfl, rfl⟩
              simp only [ValWp, execOp, Act.eval, e78]
              go_simp
              all_goals exact hK'
            · -- 11: slot 80 := Op.call { value (Operand.func 12), args := #[t69, t74, t79], argTypes := #[28, 3, 2] }
              refine OwesSE.w rfl fun a w u hC hl hs => ⟨rfl, fun K hK => ?_⟩
              have e69 : a.tmps.getD 69 undef = .slice AU LT.length cU := hs.dep 0 _ rfl rfl
              have e74 : a.tmps.getD 74 undef = .int .i64 fd1 := hs.dep 5 _ rfl rfl
              have e79 : a.tmps.getD 79 undef = .int .i64 k1 := hs.dep 10 _ rfl rfl
              have hl0 := HC1.out _ u w hC (by decide)
              refine wp_of_val ?_
              refine ValWp.call #[.slice AU LT.length cU, .int .i64 fd1, .int .i64 k1] rfl rfl Tryd.func12 rfl rfl (by simp only [List.map_toArray, List.map_cons, List.map_nil, Act.eval, e69, e74, e79]) ?_
              refine (HWI.out w hl0).mono ?_
              rintro e w' ⟨⟨v, rfl, hrd⟩, hl⟩
              exact ⟨_, rfl, hK _ _ trivial (HC2.out v w' hrd (Later.trans hl0 hl))⟩
            · -- 12: slot 7 := Op.assign t80
              refine OwesSE.w rfl fun a w u hC hl hs => ⟨rfl, fun K hK => ?_⟩
              have e80 : a.tmps.getD 80 undef = u := hl
              obtain ⟨AX, cX, hu, hx⟩ := HC3.out u w hC
              subst hu
              refine wp_of_val ?_
              refine ValWp.pure (v := .slice AX LX.length cX) (w' := w) (fun K' hK' => ?_) (hK _ _ trivial (HC4.out AX cX w hx))
              simp only [ValWp, execOp, Act.eval, e80]
              go_simp
              all_goals exact hK'
          · intro a wz u hC hl hd hsz hfree hs
            obtain ⟨u69, hu69⟩ : ∃ u, u = a.tmps.getD 69 undef := ⟨_, rfl⟩
            obtain ⟨u70, hu70⟩ : ∃ u, u = a.tmps.getD 70 undef := ⟨_, rfl⟩
            obtain ⟨u71, hu71⟩ : ∃ u, u = a.tmps.getD 71 undef := ⟨_, rfl⟩
            obtain ⟨u72, hu72⟩ : ∃ u, u = a.tmps.getD 72 undef := ⟨_, rfl⟩
            obtain ⟨u73, hu73⟩ : ∃ u, u = a.tmps.getD 73 undef := ⟨_, rfl⟩
            obtain ⟨u74, hu74⟩ : ∃ u, u = a.tmps.getD 74 undef := ⟨_, rfl⟩
            obtain ⟨u75, hu75⟩ : ∃ u, u = a.tmps.getD 75 undef := ⟨_, rfl⟩
            obtain ⟨u76, hu76⟩ : ∃ u, u = a.tmps.getD 76 undef := ⟨_, rfl⟩
            obtain ⟨u77, hu77⟩ : ∃ u, u = a.tmps.getD 77 undef := ⟨_, rfl⟩
            obtain ⟨u78, hu78⟩ : ∃ u, u = a.tmps.getD 78 undef := ⟨_, rfl⟩
            obtain ⟨u79, hu79⟩ : ∃ u, u = a.tmps.getD 79 undef := ⟨_, rfl⟩
            obtain ⟨u80, hu80⟩ : ∃ u, u = a.tmps.getD 80 undef := ⟨_, rfl⟩
            have hal : AllAt a 0 [_, _, _, _, _, _, _, u, _, _, _, _, _, _, _, _, _, _, _, _, _, _, _, _, _, _, _, _, _, _, _, _, _, _, _, _, _, _, _, _, _, _, _, _, _, _, _, _, _, _, _, _, _, _, _, _, _, _, _, _, _, _, _, _, _, _, _, _, _, u69, u70, u71, u72, u73, u74, u75, u76, u77, u78, u79, u80, _, _, _, _, _, _, _, _, _, _, _, _, _, _, _, _, _, _, _, _, _, _, _, _, _, _, _, _, _, _, _, _, _, _, _, _, _, _, _, _, _, _, _, _, _, _, _, _, _, _] := ⟨hfree 0 rfl, hfree 1 rfl, hfree 2 rfl, hfree 3 rfl, hfree 4 rfl, hfree 5 rfl, hfree 6 rfl, hl, hfree 8 rfl, hfree 9 rfl, hfree 10 rfl, hfree 11 rfl, hfree 12 rfl, hfree 13 rfl, hfree 14 rfl, hfree 15 rfl, hfree 16 rfl, hfree 17 rfl, hfree 18 rfl, hfree 19 rfl, hfree 20 rfl, hfree 21 rfl, hfree 22 rfl, hfree 23 rfl, hfree 24 rfl, hfree 25 rfl, hfree 26 rfl, hfree 27 rfl, hfree 28 rfl, hfree 29 rfl, hfree 30 rfl, hfree 31 rfl, hfree 32 rfl, hfree 33 rfl, hfree 34 rfl, hfree 35 rfl, hfree 36 rfl, hfree 37 rfl, hfree 38 rfl, hfree 39 rfl, hfree 40 rfl, hfree 41 rfl, hfree 42 rfl, hfree 43 rfl, hfree 44 rfl, hfree 45 rfl, hfree 46 rfl, hfree 47 rfl, hfree 48 rfl, hfree 49 rfl, hfree 50 rfl, hfree 51 rfl, hfree 52 rfl, hfree 53 rfl, hfree 54 rfl, hfree 55 rfl, hfree 56 rfl, hfree 57 rfl, hfree 58 rfl, hfree 59 rfl, hfree 60 rfl, hfree 61 rfl, hfree 62 rfl, hfree 63 rfl, hfree 64 rfl, hfree 65 rfl, hfree 66 rfl, hfree 67 rfl, hfree 68 rfl, hu69.symm, hu70.symm, hu71.symm, hu72.symm, hu73.symm, hu74.symm, hu75.symm, hu76.symm, hu77.symm, hu78.symm, hu79.symm, hu80.symm, hfree 81 rfl, hfree 82 rfl, hfree 83 rfl, hfree 84 rfl, hfree 85 rfl, hfree 86 rfl, hfree 87 rfl, hfree 88 rfl, hfree 89 rfl, hfree 90 rfl, hfree 91 rfl, hfree 92 rfl, hfree 93 rfl, hfree 94 rfl, hfree 95 rfl, hfree 96 rfl, hfree 97 rfl, hfree 98 rfl, hfree 99 rfl, hfree 100 rfl, hfree 101 rfl, hfree 102 rfl, hfree 103 rfl, hfree 104 rfl, hfree 105 rfl, hfree 106 rfl, hfree 107 rfl, hfree 108 rfl, hfree 109 rfl, hfree 110 rfl, hfree 111 rfl, hfree 112 rfl, hfree 113 rfl, hfree 114 rfl, hfree 115 rfl, hfree 116 rfl, hfree 117 rfl, hfree 118 rfl, hfree 119 rfl, hfree 120 rfl, hfree 121 rfl, hfree 122 rfl, hfree 123 rfl, hfree 124 rfl, hfree 125 rfl, hfree 126 rfl, hfree 127 rfl, hfree 128 rfl, hfree 129 rfl, hfree 130 rfl, trivial⟩
            have hlit := fun h => act_lit hd h hal
            rw [hlit hsz]
            simp only [Array.getD_eq_getD_getElem?, List.getElem?_toArray, List.getElem?_cons_zero, List.getElem?_cons_succ, Option.getD_some]
            clear hlit hal hd hsz hfree hs hu69 hu70 hu71 hu72 hu73 hu74 hu75 hu76 hu77 hu78 hu79 hu80
            obtain ⟨AY, cY, hu, hy, hly⟩ := HC5.out u wz hC
            subst hu
            have HXX := Lib.hid (show RdP wz wz.heap.size (.slice AX LX.length cX) LX ∧ RdP wz wz.heap.size (.slice AY LX.length cY) LX ∧ Later wc wz from ⟨H4.out.later hly, hy, HLB.out.trans (K4.out.trans hly)⟩)
            clear hy hly hC HC0 HC1 HC2 HC3 HC4 HC5
            obtain ⟨TX, hTX⟩ : ∃ t, t = text LX := ⟨_, rfl⟩
            have HS1 := Lib.hid (show Calls Tryd.prog 13 #[.slice AX LX.length cX] wz fun e w' => e = .returned (.string (mkS TX)) ∧ Later wz w' by rw [hTX]; exact show_v _ LX wz HXX.out.1 HGX.out.ok (by have := HGX.out.len; omega) (HT.out.later (HR.out.2.2.trans HXX.out.2.2)))
            have HS2 := Lib.hid (show ∀ w, Later wz w → Calls Tryd.prog 8 #[.slice AY LX.length cY] w fun e w' => e = .returned (.string (mkS TX)) ∧ Later w w' from fun w hl => by rw [hTX]; exact rshow_v _ LX w (HXX.out.2.1.later hl) HGX.out.ok (by have := HGX.out.len; omega))
            have HS3 := Lib.hid (show ∀ w, Later wz w → Calls Tryd.prog 13 #[.slice AT LT.length cT] w fun e w' => e = .returned (.string (mkS TT)) ∧ Later w w' from fun w hl => by rw [HTT.out]; exact show_v _ LT w (HR.out.1.later (HXX.out.2.2.trans hl)) HGD.out.ok (by have := HGD.out.len; omega) (HT.out.later (HR.out.2.2.trans (HXX.out.2.2.trans hl))))
            have htX : ((mkS TX).toList == (mkS TX).toList) = true := beq_self_eq_true _
            have htT : ((mkS TT).toList == (mkS TT).toList) = true := beq_self_eq_true _
            have hnX : ((LX.length : Int) == (LX.length : Int)) = true := beq_self_eq_true _
            clear hTX
            go_wp2_with fail
            go_at_call 13
            with_reducible refine HS1.out.mono ?_
            rintro e w6 ⟨rfl, hl6⟩
            have K6 := Lib.hid hl6
            clear hl6
            go_wp2_with fail
            go_at_call 8
            with_reducible refine (HS2.out _ K6.out).mono ?_
            rintro e w7 ⟨rfl, hl7⟩
            have K7 := Lib.hid (K6.out.trans hl7)
            clear hl7
            go_wp2_with fail
            go_at_call 13
            with_reducible refine (HS3.out _ K7.out).mono ?_
            rintro e w8 ⟨rfl, hl8⟩
            have K8 := Lib.hid (K7.out.trans hl8)
            clear hl8
            go_wp2_with fail
            go_loopw [11] (fun s11 wr => ∃ k : Nat, s11 = .int .i64 (k : Int) ∧ k ≤ m ∧ Hid (Later wz wr)) (fun k _ => m - (intOf k).toNat)
            case atStart => exact ⟨0, rfl, Nat.zero_le _, K8⟩
            case round =>
              obtain ⟨k, rfl, hkm, HKL⟩ := hrel
              have hk0 : (0 : Int) ≤ (k : Int) := by omega
              by_cases hlk : k < m
              · have hlk1 : (k : Int) < (m : Int) := by omega
                obtain ⟨ad2, hkl, hA2, hb2', hc2'⟩ := HQ.out.at_map hlk
                subst hA2
                obtain ⟨q, hqq⟩ : ∃ q, q = qs[k] := ⟨_, rfl⟩
                rw [← hqq] at hc2'
                have HCQ := Lib.hid (show ∀ w, Later wr w → w.cell? (ad2.add k) = some (.int .i64 q) from fun w hl => ((HR.out.2.2.trans (HXX.out.2.2.trans (HKL.out.trans hl))).cell (by rw [block_add]; exact hb2')).trans hc2')
                obtain ⟨gg, hgg⟩ : ∃ gg, gg = get LX q := ⟨_, rfl⟩
                have HG1 := Lib.hid (show Calls Tryd.prog 14 #[.slice AX LX.length cX, .int .i64 q] wr fun e w' => e = .returned (.tuple #[.int .i64 gg.1, .bool gg.2]) ∧ Later wr w' by rw [hgg]; exact get_v _ LX q wr (HXX.out.1.later HKL.out) HGX.out.up (by have := HGX.out.len; omega))
                have HG2 := Lib.hid (show ∀ w, Later wr w → Calls Tryd.prog 15 #[.slice AY LX.length cY, .int .i64 q] w fun e w' => e = .returned (.tuple #[.int .i64 gg.1, .bool gg.2]) ∧ Later w w' from fun w hl => by rw [hgg]; exact rget_v _ LX q w (HXX.out.2.1.later (HKL.out.trans hl)))
                have hq3 : (gg.1 == gg.1) = true := beq_self_eq_true _
                have hq4 : (gg.2 == gg.2) = true := beq_self_eq_true _
                have p0 := HCQ.out wr (Later.refl _)
                clear hkl hb2' hc2' hqq hgg
                go_wp2_with fail
                go_at_call 14
                with_reducible refine HG1.out.mono ?_
                rintro e w9 ⟨rfl, hl9⟩
                have K9 := Lib.hid hl9
                clear p0
                have p0 := HCQ.out w9 hl9
                clear hl9
                go_wp2_with fail
                go_at_call 15
                with_reducible refine (HG2.out _ K9.out).mono ?_
                rintro e w10 ⟨rfl, hl10⟩
                have K10 := Lib.hid (K9.out.trans hl10)
                clear hl10 p0
                go_wp2
                go_roundw
                case rel => exact ⟨k + 1, by go_num, by omega, Lib.hid (HKL.out.trans K10.out)⟩
                case measure => simp [intOf]; omega
              · have hlk1 : ¬ (k : Int) < (m : Int) := by omega
                go_wp2
                go_roundw
                case rel => exact ⟨i + 1, by go_num, by omega, Lib.hid (by rw [HSX.out]; exact ⟨HXX.out.1.later HKL.out, HXX.out.2.1.later HKL.out, HR.out.2.2.trans (HXX.out.2.2.trans HKL.out)⟩)⟩
                case measure => simp [intOf]; omega
    · have hlt1 : ¬ (i : Int) < (n : Int) := by omega
      go_wp2
      go_ret
      exact ⟨rfl, HR.out.2.2⟩
end Fd
end Go.Proofs.YtjijbgogdaafdaaDoor
