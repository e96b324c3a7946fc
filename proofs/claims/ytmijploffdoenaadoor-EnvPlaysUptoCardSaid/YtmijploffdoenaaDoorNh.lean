/- THE DOCUMENT'S Get. No premises. -/
import Derived.Test.YtmijploffdoenaaDoorNy
import Derived.Test.YtmijploffdoenaaDoorNg
namespace Go.Proofs.YtmijploffdoenaaDoor
open Go.RowKit Go.Maps
namespace En
/-- A value and whether there is one, as a call tells them. -/
def tellV (r : B × Bool) : Value := .tuple #[.string (mkS r.1), .bool r.2]
theorem take_one (f : B) : (mkS f).extract 0 1 = mkS (f.take 1) := by
  apply ByteArray.ext
  simp [mkS]
theorem block_add' (ad : Addr) (j : Nat) : (ad.add j).block = ad.block := block_add ad j
set_option maxRecDepth 100000 in
set_option maxHeartbeats 6400000 in
theorem rget_v (va : Value) (e : E) (s : B) (W : World) (h1 : RdE W va e) (hs : s.length ≤ 2000000) (hal : e.args.length ≤ 1000) (hax : ∀ x ∈ e.args, x.length ≤ 1000000) (hst : e.status ≤ 1000000) (hif : (ifs e.vars).length ≤ 1000000) : Calls Tryd.prog 21 #[va, .string (mkS s)] W fun x W' => x = .returned (tellV (get nm e s)) ∧ Later W W' := by
  have HRN := Lib.hid (fun W => Ar.refName_v s hs W)
  have HVR := Lib.hid (show ∀ W', Later W W' → Calls Tryd.prog 34 #[va, .string (mkS s)] W' fun x W'' => (∃ r : Int, x = .returned (.int .i64 r) ∧ AtV e.vars s r) ∧ Later W' W'' from fun W' hl => rvar_v va e s W' (h1.later hl))
  have HIF := Lib.hid (show ∀ W', Later W W' → Calls Tryd.prog 18 #[va] W' fun x W'' => x = .returned (.string (mkS (ifs e.vars))) ∧ Later W' W'' from fun W' hl => rifs_v va e W' (h1.later hl))
  have HDS := Lib.hid (Pm.digits_v e.status (by omega))
  have HDL := Lib.hid (Pm.digits_v e.args.length (by omega))
  obtain ⟨vs, xs, st, fl⟩ := e
  obtain ⟨_, A, n, c, rfl, hv, ha, hc1, hc2⟩ := h1
  obtain ⟨Av, cv, rfl, hcv, hcw, _⟩ := hv.le
  have en : n = xs.length := by have := ha.1; simpa using this.symm
  dsimp only at hv ha hcv en hal hax hst hif HVR HIF HDS HDL ⊢
  subst en
  have HV := Lib.hid hv
  have HA := Lib.hid ha
  have HAX := Lib.hid hax
  have HAL := Lib.hid hal
  have HFF := Lib.hid hif
  have HLA := Lib.hid (Later.alloc W (.cells #[.slice Av vs.length cv, .slice A xs.length c, .int .i64 (st : Int), .string (mkS fl)] 31))
  have HNA := Lib.hid (heap_alloc_new W (.cells #[.slice Av vs.length cv, .slice A xs.length c, .int .i64 (st : Int), .string (mkS fl)] 31))
  clear hv ha hax hif hs hst
  have htl : ∀ l : B, (mkS l).toList = l := toList_mkS
  obtain ⟨b, hb⟩ : ∃ b, b = Ar.nameB s := ⟨_, rfl⟩
  rw [← hb] at HRN
  have HB := Lib.hid hb
  clear hb
  cases b with
  | true =>
    have hg : get nm ⟨vs, xs, st, fl⟩ s = told (var vs s) := by unfold get; rw [if_pos HB.out.symm]
    rw [hg]
    clear hg
    go_enter Tryd.func21, Tryd.ntmps21
    go_wp2_with fail
    go_at_call 30
    with_reducible refine (HRN.out _).mono ?_
    rintro x w1 ⟨rfl, hw1⟩
    rw [hw1]
    clear hw1
    go_wp2_with fail
    go_at_call 34
    with_reducible refine (HVR.out _ HLA.out).mono ?_
    rintro x w2 ⟨⟨r, rfl, hat⟩, hl2⟩
    have hb := later_cells hl2 HNA.out
    have a0 : w2.cell? ⟨W.heap.size, 0, none⟩ = some (.slice Av vs.length cv) := (cell_row hb 0).1
    have HL := Lib.hid (HLA.out.trans hl2)
    clear hb hl2
    rcases hat with ⟨rfl, hn⟩ | ⟨k, hk, rfl, hvk⟩
    · have HN := Lib.hid hn
      clear hn
      go_wp2
      go_ret2
      exact ⟨by rw [HN.out]; rfl, HL.out⟩
    · obtain ⟨g, o, c', e1, hg, hcc⟩ := HV.out.at_ (by omega)
      injection e1 with e1 _ e2
      subst e1 e2
      obtain ⟨x, hx⟩ : ∃ x, x = vs[k] := ⟨_, rfl⟩
      have p1 := (HL.out.cell (p := ⟨g, o + k * 2 + 1, none⟩) hg).trans (hcc k hk).2
      rw [← hx] at p1 hvk
      have hk0 : (0 : Int) ≤ (k : Int) := by omega
      have hk1 : (k : Int) < (vs.length : Int) := by omega
      have HVK := Lib.hid hvk
      clear hcc hx hvk
      go_wp2
      go_ret2
      exact ⟨by rw [HVK.out]; rfl, HL.out⟩
  | false =>
    have hg : ∀ r, (if s = [48] then ([115, 104], true) else if s = [63] then (Lib.decDigits st, true) else if s = [35] then (Lib.decDigits xs.length, true) else if s = [45] then (fl, true) else if s = [64] ∨ s = [42] then (joined ((ifs vs).take 1) xs, !xs.isEmpty) else told (arg xs s)) = r → get nm ⟨vs, xs, st, fl⟩ s = r := by
      intro r hr
      unfold get
      rw [if_neg (by show ¬ Ar.nameB s = true; rw [← HB.out]; simp)]
      exact hr
    have HG := Lib.hid hg
    clear hg
    by_cases s0 : s = [48]
    · rw [HG.out _ (by rw [if_pos s0])]
      subst s0
      go_enter Tryd.func21, Tryd.ntmps21
      go_wp2_with (go_at_call 30; (with_reducible refine (HRN.out _).mono ?_); rintro x w1 ⟨rfl, hw1⟩; rw [hw1]; clear hw1)
      go_ret2
      exact ⟨rfl, HLA.out⟩
    have k0 : (s == [48]) = false := by simpa using s0
    by_cases s1 : s = [63]
    · rw [HG.out _ (by rw [if_neg s0, if_pos s1])]
      subst s1
      clear s0 k0
      go_enter Tryd.func21, Tryd.ntmps21
      go_wp2_with (first
        | (go_at_call 30; (with_reducible refine (HRN.out _).mono ?_); rintro x w1 ⟨rfl, hw1⟩; rw [hw1]; clear hw1)
        | (go_at_call 41; (with_reducible refine (HDS.out _).mono ?_); rintro x w2 ⟨rfl, hl2⟩; (have HL2 := Lib.hid (HLA.out.trans hl2)); clear hl2))
      go_ret2
      exact ⟨rfl, HL2.out⟩
    have k1 : (s == [63]) = false := by simpa using s1
    by_cases s2 : s = [35]
    · rw [HG.out _ (by rw [if_neg s0, if_neg s1, if_pos s2])]
      subst s2
      clear s0 k0 s1 k1
      go_enter Tryd.func21, Tryd.ntmps21
      go_wp2_with (first
        | (go_at_call 30; (with_reducible refine (HRN.out _).mono ?_); rintro x w1 ⟨rfl, hw1⟩; rw [hw1]; clear hw1)
        | (go_at_call 41; (with_reducible refine (HDL.out _).mono ?_); rintro x w2 ⟨rfl, hl2⟩; (have HL2 := Lib.hid (HLA.out.trans hl2)); clear hl2))
      go_ret2
      exact ⟨rfl, HL2.out⟩
    have k2 : (s == [35]) = false := by simpa using s2
    by_cases s3 : s = [45]
    · rw [HG.out _ (by rw [if_neg s0, if_neg s1, if_neg s2, if_pos s3])]
      subst s3
      clear s0 k0 s1 k1 s2 k2
      go_enter Tryd.func21, Tryd.ntmps21
      go_wp2_with (go_at_call 30; (with_reducible refine (HRN.out _).mono ?_); rintro x w1 ⟨rfl, hw1⟩; rw [hw1]; clear hw1)
      go_ret2
      exact ⟨rfl, HLA.out⟩
    have k3 : (s == [45]) = false := by simpa using s3
    by_cases s4 : s = [64] ∨ s = [42]
    · rw [HG.out _ (by rw [if_neg s0, if_neg s1, if_neg s2, if_neg s3, if_pos s4])]
      obtain ⟨f, hf⟩ : ∃ f, f = ifs vs := ⟨_, rfl⟩
      rw [← hf] at HIF HFF ⊢
      clear hf
      have hfs : ((mkS f).size : Int) = (f.length : Int) := by rw [mkS_size]
      have htk1 : (mkS f).extract 0 1 = mkS (f.take 1) := take_one f
      by_cases hf1 : 1 < f.length
      · obtain ⟨f1, hf1e⟩ : ∃ f1, f1 = f.take 1 := ⟨_, rfl⟩
        have HF1 := Lib.hid (And.intro hf1e (show f1.length ≤ 1 by rw [hf1e, List.length_take]; omega))
        have hf2 : (1 : Int) < (f.length : Int) := by omega
        rw [← hf1e] at htk1
        clear hf1e hf1
        by_cases s5 : s = [64]
        · have k4 : (s == [64]) = true := by simpa using s5
          clear s0 s1 s2 s3 s4 s5
          go_enter Tryd.func21, Tryd.ntmps21
          go_wp2_with (first
            | (go_at_call 30; (with_reducible refine (HRN.out _).mono ?_); rintro x w1 ⟨rfl, hw1⟩; rw [hw1]; clear hw1)
            | (go_at_call 18; (with_reducible refine (HIF.out _ HLA.out).mono ?_); rintro x w2 ⟨rfl, hl2⟩; (have HB2 := Lib.hid (later_cells hl2 HNA.out)); (have HL2 := Lib.hid (HLA.out.trans hl2)); clear hl2; (have a1 : w2.cell? ⟨W.heap.size, 1, none⟩ = some (.slice A xs.length c) := (cell_row HB2.out 1).1)))
          go_loopw [9, 10] (fun s9 s10 wr => ∃ i : Nat, s10 = .int .i64 (i : Int) ∧ i ≤ xs.length ∧ s9 = .string (mkS (joined f1 (xs.take i))) ∧ wr = w2) (fun _ i _ => xs.length - (intOf i).toNat)
          case atStart => exact ⟨0, rfl, Nat.zero_le _, rfl, rfl⟩
          case round =>
            obtain ⟨i, rfl, hi, rfl, hw⟩ := hrel
            have hw := hw.symm
            subst hw
            have hi0 : (0 : Int) ≤ (i : Int) := by omega
            obtain ⟨y, hy⟩ : ∃ y, y = joined f1 (xs.take i) := ⟨_, rfl⟩
            by_cases hlt : i < xs.length
            · have hi1 : (i : Int) < (xs.length : Int) := by omega
              obtain ⟨ad, hl1, rfl, hg, hcc⟩ := HA.out.at_map (k := i) hlt
              obtain ⟨x, hx⟩ : ∃ x, x = xs[i] := ⟨_, rfl⟩
              have p1 : w2.cell? (ad.add i) = some (.string (mkS x)) := (HL2.out.cell (p := ad.add i) (by rw [block_add]; exact hg)).trans (by rw [hx]; exact hcc)
              have hxl : x.length ≤ 1000000 := by rw [hx]; exact HAX.out _ (List.getElem_mem hlt)
              have hyl : y.length ≤ 2000000000 := by
                have h1 := joined_len f1 1000000 (xs.take i) (fun z hz => HAX.out z (List.mem_of_mem_take hz))
                have h2 : (xs.take i).length ≤ 1000 := by rw [List.length_take]; have := HAL.out; omega
                have h3 : f1.length ≤ 1 := HF1.out.2
                have h4 : (xs.take i).length * (1000000 + f1.length) ≤ 1000 * 1000001 := Nat.mul_le_mul h2 (by omega)
                rw [hy]; omega
              have hfl : f1.length ≤ 1 := HF1.out.2
              have HJT := Lib.hid (joined_take f1 hlt)
              rw [← hy, ← hx] at HJT
              rw [← hy]
              clear hcc hg hx hy hlt hl1
              by_cases hi00 : i = 0
              · have h5 : ¬ (0 : Int) < (i : Int) := by omega
                have hs2 : ¬ 9223372036854775807 < (mkS y).size + (mkS x).size := by rw [mkS_size, mkS_size]; omega
                have hadd : mkS y ++ mkS x = mkS (y ++ x) := mkS_add _ _
                rw [if_pos hi00] at HJT
                clear hi00
                go_wp2
                go_roundw
                case rel => exact ⟨i + 1, by go_num, by omega, by rw [HJT.out]; rfl, trivial⟩
                case measure => simp [intOf]; omega
              · have h5 : (0 : Int) < (i : Int) := by omega
                have hs1 : ¬ 9223372036854775807 < (mkS y).size + (mkS f1).size := by rw [mkS_size, mkS_size]; omega
                have hadd1 : mkS y ++ mkS f1 = mkS (y ++ f1) := mkS_add _ _
                have hs2 : ¬ 9223372036854775807 < (mkS (y ++ f1)).size + (mkS x).size := by rw [mkS_size, mkS_size, List.length_append]; omega
                have hadd2 : mkS (y ++ f1) ++ mkS x = mkS (y ++ f1 ++ x) := mkS_add _ _
                rw [if_neg hi00, ← List.append_assoc] at HJT
                clear hi00
                go_wp2
                go_roundw
                case rel => exact ⟨i + 1, by go_num, by omega, by rw [HJT.out]; first | rfl | rw [List.append_assoc], trivial⟩
                case measure => simp [intOf]; omega
            · have hfull : joined f1 (xs.take i) = joined f1 xs := by rw [List.take_of_length_le (by omega)]
              rw [← hy] at hfull
              have HFU := Lib.hid hfull
              rw [← hy]
              clear hfull hy
              have H7 := Lib.hid (show (!xs.isEmpty) = decide (0 < xs.length) by cases xs <;> simp)
              go_wp2
              go_quiet (fail)
              go_wp2_with fail
              go_ret2
              exact ⟨by rw [← HF1.out.1, ← HFU.out, H7.out]; rfl, HL2.out.trans ⟨rfl, rfl, rfl, Nat.le_refl _, fun _ _ => rfl⟩⟩
        · have k4 : (s == [64]) = false := by simpa using s5
          have k5 : (s == [42]) = true := by simpa using s4.resolve_left s5
          clear s0 s1 s2 s3 s4 s5
          go_enter Tryd.func21, Tryd.ntmps21
          go_wp2_with (first
            | (go_at_call 30; (with_reducible refine (HRN.out _).mono ?_); rintro x w1 ⟨rfl, hw1⟩; rw [hw1]; clear hw1)
            | (go_at_call 18; (with_reducible refine (HIF.out _ HLA.out).mono ?_); rintro x w2 ⟨rfl, hl2⟩; (have HB2 := Lib.hid (later_cells hl2 HNA.out)); (have HL2 := Lib.hid (HLA.out.trans hl2)); clear hl2; (have a1 : w2.cell? ⟨W.heap.size, 1, none⟩ = some (.slice A xs.length c) := (cell_row HB2.out 1).1)))
          go_loopw [9, 10] (fun s9 s10 wr => ∃ i : Nat, s10 = .int .i64 (i : Int) ∧ i ≤ xs.length ∧ s9 = .string (mkS (joined f1 (xs.take i))) ∧ wr = w2) (fun _ i _ => xs.length - (intOf i).toNat)
          case atStart => exact ⟨0, rfl, Nat.zero_le _, rfl, rfl⟩
          case round =>
            obtain ⟨i, rfl, hi, rfl, hw⟩ := hrel
            have hw := hw.symm
            subst hw
            have hi0 : (0 : Int) ≤ (i : Int) := by omega
            obtain ⟨y, hy⟩ : ∃ y, y = joined f1 (xs.take i) := ⟨_, rfl⟩
            by_cases hlt : i < xs.length
            · have hi1 : (i : Int) < (xs.length : Int) := by omega
              obtain ⟨ad, hl1, rfl, hg, hcc⟩ := HA.out.at_map (k := i) hlt
              obtain ⟨x, hx⟩ : ∃ x, x = xs[i] := ⟨_, rfl⟩
              have p1 : w2.cell? (ad.add i) = some (.string (mkS x)) := (HL2.out.cell (p := ad.add i) (by rw [block_add]; exact hg)).trans (by rw [hx]; exact hcc)
              have hxl : x.length ≤ 1000000 := by rw [hx]; exact HAX.out _ (List.getElem_mem hlt)
              have hyl : y.length ≤ 2000000000 := by
                have h1 := joined_len f1 1000000 (xs.take i) (fun z hz => HAX.out z (List.mem_of_mem_take hz))
                have h2 : (xs.take i).length ≤ 1000 := by rw [List.length_take]; have := HAL.out; omega
                have h3 : f1.length ≤ 1 := HF1.out.2
                have h4 : (xs.take i).length * (1000000 + f1.length) ≤ 1000 * 1000001 := Nat.mul_le_mul h2 (by omega)
                rw [hy]; omega
              have hfl : f1.length ≤ 1 := HF1.out.2
              have HJT := Lib.hid (joined_take f1 hlt)
              rw [← hy, ← hx] at HJT
              rw [← hy]
              clear hcc hg hx hy hlt hl1
              by_cases hi00 : i = 0
              · have h5 : ¬ (0 : Int) < (i : Int) := by omega
                have hs2 : ¬ 9223372036854775807 < (mkS y).size + (mkS x).size := by rw [mkS_size, mkS_size]; omega
                have hadd : mkS y ++ mkS x = mkS (y ++ x) := mkS_add _ _
                rw [if_pos hi00] at HJT
                clear hi00
                go_wp2
                go_roundw
                case rel => exact ⟨i + 1, by go_num, by omega, by rw [HJT.out]; rfl, trivial⟩
                case measure => simp [intOf]; omega
              · have h5 : (0 : Int) < (i : Int) := by omega
                have hs1 : ¬ 9223372036854775807 < (mkS y).size + (mkS f1).size := by rw [mkS_size, mkS_size]; omega
                have hadd1 : mkS y ++ mkS f1 = mkS (y ++ f1) := mkS_add _ _
                have hs2 : ¬ 9223372036854775807 < (mkS (y ++ f1)).size + (mkS x).size := by rw [mkS_size, mkS_size, List.length_append]; omega
                have hadd2 : mkS (y ++ f1) ++ mkS x = mkS (y ++ f1 ++ x) := mkS_add _ _
                rw [if_neg hi00, ← List.append_assoc] at HJT
                clear hi00
                go_wp2
                go_roundw
                case rel => exact ⟨i + 1, by go_num, by omega, by rw [HJT.out]; first | rfl | rw [List.append_assoc], trivial⟩
                case measure => simp [intOf]; omega
            · have hfull : joined f1 (xs.take i) = joined f1 xs := by rw [List.take_of_length_le (by omega)]
              rw [← hy] at hfull
              have HFU := Lib.hid hfull
              rw [← hy]
              clear hfull hy
              have H7 := Lib.hid (show (!xs.isEmpty) = decide (0 < xs.length) by cases xs <;> simp)
              go_wp2
              go_quiet (fail)
              go_wp2_with fail
              go_ret2
              exact ⟨by rw [← HF1.out.1, ← HFU.out, H7.out]; rfl, HL2.out.trans ⟨rfl, rfl, rfl, Nat.le_refl _, fun _ _ => rfl⟩⟩
      · obtain ⟨f1, hf1e⟩ : ∃ f1, f1 = f := ⟨_, rfl⟩
        have HF1 := Lib.hid (And.intro (show f1 = f.take 1 by rw [hf1e, List.take_of_length_le (by omega)]) (show f1.length ≤ 1 by rw [hf1e]; omega))
        have hf2 : ¬ (1 : Int) < (f.length : Int) := by omega
        have HFE := Lib.hid hf1e
        subst hf1e
        clear htk1 hf1
        by_cases s5 : s = [64]
        · have k4 : (s == [64]) = true := by simpa using s5
          clear s0 s1 s2 s3 s4 s5
          go_enter Tryd.func21, Tryd.ntmps21
          go_wp2_with (first
            | (go_at_call 30; (with_reducible refine (HRN.out _).mono ?_); rintro x w1 ⟨rfl, hw1⟩; rw [hw1]; clear hw1)
            | (go_at_call 18; (with_reducible refine (HIF.out _ HLA.out).mono ?_); rintro x w2 ⟨rfl, hl2⟩; (have HB2 := Lib.hid (later_cells hl2 HNA.out)); (have HL2 := Lib.hid (HLA.out.trans hl2)); clear hl2; (have a1 : w2.cell? ⟨W.heap.size, 1, none⟩ = some (.slice A xs.length c) := (cell_row HB2.out 1).1)))
          go_loopw [9, 10] (fun s9 s10 wr => ∃ i : Nat, s10 = .int .i64 (i : Int) ∧ i ≤ xs.length ∧ s9 = .string (mkS (joined f1 (xs.take i))) ∧ wr = w2) (fun _ i _ => xs.length - (intOf i).toNat)
          case atStart => exact ⟨0, rfl, Nat.zero_le _, rfl, rfl⟩
          case round =>
            obtain ⟨i, rfl, hi, rfl, hw⟩ := hrel
            have hw := hw.symm
            subst hw
            have hi0 : (0 : Int) ≤ (i : Int) := by omega
            obtain ⟨y, hy⟩ : ∃ y, y = joined f1 (xs.take i) := ⟨_, rfl⟩
            by_cases hlt : i < xs.length
            · have hi1 : (i : Int) < (xs.length : Int) := by omega
              obtain ⟨ad, hl1, rfl, hg, hcc⟩ := HA.out.at_map (k := i) hlt
              obtain ⟨x, hx⟩ : ∃ x, x = xs[i] := ⟨_, rfl⟩
              have p1 : w2.cell? (ad.add i) = some (.string (mkS x)) := (HL2.out.cell (p := ad.add i) (by rw [block_add]; exact hg)).trans (by rw [hx]; exact hcc)
              have hxl : x.length ≤ 1000000 := by rw [hx]; exact HAX.out _ (List.getElem_mem hlt)
              have hyl : y.length ≤ 2000000000 := by
                have h1 := joined_len f1 1000000 (xs.take i) (fun z hz => HAX.out z (List.mem_of_mem_take hz))
                have h2 : (xs.take i).length ≤ 1000 := by rw [List.length_take]; have := HAL.out; omega
                have h3 : f1.length ≤ 1 := HF1.out.2
                have h4 : (xs.take i).length * (1000000 + f1.length) ≤ 1000 * 1000001 := Nat.mul_le_mul h2 (by omega)
                rw [hy]; omega
              have hfl : f1.length ≤ 1 := HF1.out.2
              have HJT := Lib.hid (joined_take f1 hlt)
              rw [← hy, ← hx] at HJT
              rw [← hy]
              clear hcc hg hx hy hlt hl1
              by_cases hi00 : i = 0
              · have h5 : ¬ (0 : Int) < (i : Int) := by omega
                have hs2 : ¬ 9223372036854775807 < (mkS y).size + (mkS x).size := by rw [mkS_size, mkS_size]; omega
                have hadd : mkS y ++ mkS x = mkS (y ++ x) := mkS_add _ _
                rw [if_pos hi00] at HJT
                clear hi00
                go_wp2
                go_roundw
                case rel => exact ⟨i + 1, by go_num, by omega, by rw [HJT.out]; rfl, trivial⟩
                case measure => simp [intOf]; omega
              · have h5 : (0 : Int) < (i : Int) := by omega
                have hs1 : ¬ 9223372036854775807 < (mkS y).size + (mkS f1).size := by rw [mkS_size, mkS_size]; omega
                have hadd1 : mkS y ++ mkS f1 = mkS (y ++ f1) := mkS_add _ _
                have hs2 : ¬ 9223372036854775807 < (mkS (y ++ f1)).size + (mkS x).size := by rw [mkS_size, mkS_size, List.length_append]; omega
                have hadd2 : mkS (y ++ f1) ++ mkS x = mkS (y ++ f1 ++ x) := mkS_add _ _
                rw [if_neg hi00, ← List.append_assoc] at HJT
                clear hi00
                go_wp2
                go_roundw
                case rel => exact ⟨i + 1, by go_num, by omega, by rw [HJT.out]; first | rfl | rw [List.append_assoc], trivial⟩
                case measure => simp [intOf]; omega
            · have hfull : joined f1 (xs.take i) = joined f1 xs := by rw [List.take_of_length_le (by omega)]
              rw [← hy] at hfull
              have HFU := Lib.hid hfull
              rw [← hy]
              clear hfull hy
              have H7 := Lib.hid (show (!xs.isEmpty) = decide (0 < xs.length) by cases xs <;> simp)
              go_wp2
              go_quiet (fail)
              go_wp2_with fail
              go_ret2
              exact ⟨by rw [← HF1.out.1, ← HFU.out, H7.out]; rfl, HL2.out.trans ⟨rfl, rfl, rfl, Nat.le_refl _, fun _ _ => rfl⟩⟩
        · have k4 : (s == [64]) = false := by simpa using s5
          have k5 : (s == [42]) = true := by simpa using s4.resolve_left s5
          clear s0 s1 s2 s3 s4 s5
          go_enter Tryd.func21, Tryd.ntmps21
          go_wp2_with (first
            | (go_at_call 30; (with_reducible refine (HRN.out _).mono ?_); rintro x w1 ⟨rfl, hw1⟩; rw [hw1]; clear hw1)
            | (go_at_call 18; (with_reducible refine (HIF.out _ HLA.out).mono ?_); rintro x w2 ⟨rfl, hl2⟩; (have HB2 := Lib.hid (later_cells hl2 HNA.out)); (have HL2 := Lib.hid (HLA.out.trans hl2)); clear hl2; (have a1 : w2.cell? ⟨W.heap.size, 1, none⟩ = some (.slice A xs.length c) := (cell_row HB2.out 1).1)))
          go_loopw [9, 10] (fun s9 s10 wr => ∃ i : Nat, s10 = .int .i64 (i : Int) ∧ i ≤ xs.length ∧ s9 = .string (mkS (joined f1 (xs.take i))) ∧ wr = w2) (fun _ i _ => xs.length - (intOf i).toNat)
          case atStart => exact ⟨0, rfl, Nat.zero_le _, rfl, rfl⟩
          case round =>
            obtain ⟨i, rfl, hi, rfl, hw⟩ := hrel
            have hw := hw.symm
            subst hw
            have hi0 : (0 : Int) ≤ (i : Int) := by omega
            obtain ⟨y, hy⟩ : ∃ y, y = joined f1 (xs.take i) := ⟨_, rfl⟩
            by_cases hlt : i < xs.length
            · have hi1 : (i : Int) < (xs.length : Int) := by omega
              obtain ⟨ad, hl1, rfl, hg, hcc⟩ := HA.out.at_map (k := i) hlt
              obtain ⟨x, hx⟩ : ∃ x, x = xs[i] := ⟨_, rfl⟩
              have p1 : w2.cell? (ad.add i) = some (.string (mkS x)) := (HL2.out.cell (p := ad.add i) (by rw [block_add]; exact hg)).trans (by rw [hx]; exact hcc)
              have hxl : x.length ≤ 1000000 := by rw [hx]; exact HAX.out _ (List.getElem_mem hlt)
              have hyl : y.length ≤ 2000000000 := by
                have h1 := joined_len f1 1000000 (xs.take i) (fun z hz => HAX.out z (List.mem_of_mem_take hz))
                have h2 : (xs.take i).length ≤ 1000 := by rw [List.length_take]; have := HAL.out; omega
                have h3 : f1.length ≤ 1 := HF1.out.2
                have h4 : (xs.take i).length * (1000000 + f1.length) ≤ 1000 * 1000001 := Nat.mul_le_mul h2 (by omega)
                rw [hy]; omega
              have hfl : f1.length ≤ 1 := HF1.out.2
              have HJT := Lib.hid (joined_take f1 hlt)
              rw [← hy, ← hx] at HJT
              rw [← hy]
              clear hcc hg hx hy hlt hl1
              by_cases hi00 : i = 0
              · have h5 : ¬ (0 : Int) < (i : Int) := by omega
                have hs2 : ¬ 9223372036854775807 < (mkS y).size + (mkS x).size := by rw [mkS_size, mkS_size]; omega
                have hadd : mkS y ++ mkS x = mkS (y ++ x) := mkS_add _ _
                rw [if_pos hi00] at HJT
                clear hi00
                go_wp2
                go_roundw
                case rel => exact ⟨i + 1, by go_num, by omega, by rw [HJT.out]; rfl, trivial⟩
                case measure => simp [intOf]; omega
              · have h5 : (0 : Int) < (i : Int) := by omega
                have hs1 : ¬ 9223372036854775807 < (mkS y).size + (mkS f1).size := by rw [mkS_size, mkS_size]; omega
                have hadd1 : mkS y ++ mkS f1 = mkS (y ++ f1) := mkS_add _ _
                have hs2 : ¬ 9223372036854775807 < (mkS (y ++ f1)).size + (mkS x).size := by rw [mkS_size, mkS_size, List.length_append]; omega
                have hadd2 : mkS (y ++ f1) ++ mkS x = mkS (y ++ f1 ++ x) := mkS_add _ _
                rw [if_neg hi00, ← List.append_assoc] at HJT
                clear hi00
                go_wp2
                go_roundw
                case rel => exact ⟨i + 1, by go_num, by omega, by rw [HJT.out]; first | rfl | rw [List.append_assoc], trivial⟩
                case measure => simp [intOf]; omega
            · have hfull : joined f1 (xs.take i) = joined f1 xs := by rw [List.take_of_length_le (by omega)]
              rw [← hy] at hfull
              have HFU := Lib.hid hfull
              rw [← hy]
              clear hfull hy
              have H7 := Lib.hid (show (!xs.isEmpty) = decide (0 < xs.length) by cases xs <;> simp)
              go_wp2
              go_quiet (fail)
              go_wp2_with fail
              go_ret2
              exact ⟨by rw [← HF1.out.1, ← HFU.out, H7.out]; rfl, HL2.out.trans ⟨rfl, rfl, rfl, Nat.le_refl _, fun _ _ => rfl⟩⟩
    · rw [HG.out _ (by rw [if_neg s0, if_neg s1, if_neg s2, if_neg s3, if_neg s4])]
      have k4 : (s == [64]) = false := by simpa using fun h => s4 (.inl h)
      have k5 : (s == [42]) = false := by simpa using fun h => s4 (.inr h)
      clear s0 s1 s2 s3 s4
      go_enter Tryd.func21, Tryd.ntmps21
      go_wp2_with (go_at_call 30; (with_reducible refine (HRN.out _).mono ?_); rintro x w1 ⟨rfl, hw1⟩; rw [hw1]; clear hw1)
      go_loopw [11] (fun s11 wr => ∃ i : Nat, s11 = .int .i64 (i : Int) ∧ i ≤ xs.length ∧ (∀ j, j < i → Lib.decDigits (j + 1) ≠ s) ∧ Later (W.alloc (.cells #[.slice Av vs.length cv, .slice A xs.length c, .int .i64 (st : Int), .string (mkS fl)] 31)) wr) (fun i _ => xs.length - (intOf i).toNat)
      case atStart => exact ⟨0, rfl, Nat.zero_le _, fun j hj => absurd hj (Nat.not_lt_zero _), Later.refl _⟩
      case round =>
        obtain ⟨i, rfl, hi, hno, hlw⟩ := hrel
        have HNO := Lib.hid hno
        have HLW := Lib.hid hlw
        have a1 : wr.cell? ⟨W.heap.size, 1, none⟩ = some (.slice A xs.length c) := (cell_row (later_cells hlw HNA.out) 1).1
        clear hno hlw
        have hi0 : (0 : Int) ≤ (i : Int) := by omega
        by_cases hlt : i < xs.length
        · have hi1 : (i : Int) < (xs.length : Int) := by omega
          obtain ⟨ad, hl1, rfl, hg, hcc⟩ := HA.out.at_map (k := i) hlt
          obtain ⟨x, hx⟩ : ∃ x, x = xs[i] := ⟨_, rfl⟩
          obtain ⟨d, hd⟩ : ∃ d, d = Lib.decDigits (i + 1) := ⟨_, rfl⟩
          have HDI := Lib.hid (show ∀ W, Calls Tryd.prog 41 #[.int .i64 ((i : Int) + 1)] W fun x W' => x = .returned (.string (mkS d)) ∧ Later W W' from by
            have h := Pm.digits_v (i + 1) (by have := HAL.out; omega)
            rw [← hd, show ((i + 1 : Nat) : Int) = (i : Int) + 1 by omega] at h
            exact h)
          have HD := Lib.hid hd
          have HX := Lib.hid hx
          have HC := Lib.hid (show ∀ W', Later W W' → W'.cell? (ad.add i) = some (.string (mkS x)) from fun W' hl => (hl.cell (p := ad.add i) (by rw [block_add]; exact hg)).trans (by rw [hx]; exact hcc))
          have hal2 := HAL.out
          clear hcc hg hx hd
          by_cases hds : d = s
          · have f1 : (d == s) = true := by simpa using hds
            have HDD := Lib.hid hds
            clear hds
            go_wp2_with (go_at_call 41; (with_reducible refine (HDI.out _).mono ?_); rintro x' w2 ⟨rfl, hl2⟩; (have a1 : w2.cell? ⟨W.heap.size, 1, none⟩ = some (.slice (some ad) xs.length c) := (cell_row (later_cells hl2 (later_cells HLW.out HNA.out)) 1).1); (have HL2 := Lib.hid (HLA.out.trans (HLW.out.trans hl2))); (have p1 := HC.out _ HL2.out); clear hl2)
            go_ret2
            have har : arg xs s = some x := by rw [HX.out]; exact arg_some hl1 (HD.out.symm.trans HDD.out)
            exact ⟨by rw [har]; rfl, HL2.out⟩
          · have f1 : (d == s) = false := by simpa using hds
            have HDD := Lib.hid hds
            clear hds
            go_wp2_with (go_at_call 41; (with_reducible refine (HDI.out _).mono ?_); rintro x' w2 ⟨rfl, hl2⟩; (have a1 : w2.cell? ⟨W.heap.size, 1, none⟩ = some (.slice (some ad) xs.length c) := (cell_row (later_cells hl2 (later_cells HLW.out HNA.out)) 1).1); (have HL2 := Lib.hid (HLW.out.trans hl2)); clear hl2)
            go_roundw
            case rel =>
              refine ⟨i + 1, by go_num, by omega, ?_, HL2.out⟩
              intro j hj
              rcases Nat.lt_succ_iff_lt_or_eq.1 hj with h1 | rfl
              · exact HNO.out j h1
              · rw [← HD.out]; exact HDD.out
            case measure => simp [intOf]; omega
        · have har : arg xs s = none := arg_none fun j hj => HNO.out j (by omega)
          have HAR := Lib.hid har
          clear har
          go_wp2
          go_ret2
          exact ⟨by rw [HAR.out]; rfl, HLA.out.trans HLW.out⟩
end En
end Go.Proofs.YtmijploffdoenaaDoor
