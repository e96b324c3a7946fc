/- THE WALK OF SplitKeeps: the fields hold the row's plain bytes, in their order; without separators, a field for each run between breaks. No premises. -/
import Derived.Test.YtghdimcdkjlpcaaJColW
import Derived.BigQuiet
namespace Go.Proofs.Ytghdimcdkjlpcaa
open Go.RowKit Go.Maps
namespace Jo
theorem ft_app (a b : Rw) : ft (a ++ b) = ft a ++ ft b := by unfold ft; exact List.map_append
theorem ft_len (a : Rw) : (ft a).length = a.length := by unfold ft; exact List.length_map ..
theorem slice_one (t : L) (k : Nat) (htl : k < t.length) (c : UInt8) (hc : t[k] = c) (wr : World) : (Instr.slice 9 (.string (mkS t)) (some (.int .i64 (k : Int))) (some (.int .i64 ((k : Int) + 1))) none).run Try.prog wr = .ok (.string (mkS [c])) wr := by
  have HEX := set_text t k c htl hc
  have us := Try.underlying9
  have hts : (mkS t).size = t.length := mkS_size t
  have hk2 : (k : Int) + 1 ≤ ((mkS t).size : Int) := by omega
  have hk0 : (0 : Int) ≤ (k : Int) := by omega
  have hk3 : (k : Int) ≤ (k : Int) + 1 := by omega
  have hn1 : ((k : Int) + 1).toNat = k + 1 := by omega
  clear hts
  go_simp
theorem has_snoc (ifs : L) {k : Nat} (hk : k < ifs.length) (a : UInt8) : (ifs.take (k + 1)).contains a = ((ifs.take k).contains a || (ifs[k] == a)) := by
  rw [List.take_succ_eq_append_getElem hk]
  simp only [List.contains_eq_mem, List.mem_append, List.mem_singleton]
  rw [Bool.eq_iff_iff]
  simp only [decide_eq_true_eq, Bool.or_eq_true, beq_iff_eq]
  exact or_congr Iff.rfl eq_comm
theorem keeps_take (ifs : L) {z : Rw} {i : Nat} (h : i < z.length) : ft ((z.take (i + 1)).filter (plainB ifs)) = ft ((z.take i).filter (plainB ifs)) ++ (if plainB ifs z[i] = true then [z[i].1] else []) := by
  rw [List.take_succ_eq_append_getElem h, List.filter_append, ft_app]
  by_cases hp : plainB ifs z[i] = true
  · rw [if_pos hp, List.filter_cons, if_pos hp]; rfl
  · rw [if_neg hp, List.filter_cons, if_neg hp]; rfl
theorem parts_drop {z : Rw} {i : Nat} (h : i < z.length) (b : Bool) : parts (z.drop i) b = if (z[i].2 == 98) = true then parts (z.drop (i + 1)) false else (if b = true then 0 else 1) + parts (z.drop (i + 1)) true := by
  rw [List.drop_eq_getElem_cons h]
  rfl
theorem outs_take {l : List Rw} {k : Nat} (h : k < l.length) : ft (l.take (k + 1)).flatten = ft (l.take k).flatten ++ ft l[k] := by
  rw [List.take_succ_eq_append_getElem h, List.flatten_append, ft_app]
  simp
theorem outs_len (l : List Rw) (k : Nat) : (ft (l.take k).flatten).length ≤ l.flatten.length := by
  rw [ft_len]
  have : l.flatten.length = (l.take k).flatten.length + (l.drop k).flatten.length := by
    rw [← List.length_append, ← List.flatten_append, List.take_append_drop]
  omega
end Jo
namespace splitKeeps
open Jo
set_option maxRecDepth 100000 in
set_option maxHeartbeats 6400000 in
theorem walk_m (w : World) (t m ifs : L) (h0 : t.length ≤ 9223372036854775807) (_ : m.length ≤ 9223372036854775807) (h2 : ifs.length ≤ 9223372036854775807) :
    Calls Try.prog 5 #[.agg #[.string (mkS t), .string (mkS m)], .string (mkS ifs)] w fun e w' => e = .returned (.bool true) ∧ Later w w' := by
  have HAW := Lib.hid (fun W => awake_v W)
  have HLA := Lib.hid (Later.alloc w (.cells #[.string (mkS t), .string (mkS m)] 23))
  have HNA := Lib.hid (heap_alloc_new w (.cells #[.string (mkS t), .string (mkS m)] 23))
  have hst : ((mkS t).size : Int) = (t.length : Int) := by rw [mkS_size]
  have hsm : ((mkS m).size : Int) = (m.length : Int) := by rw [mkS_size]
  have hsi : ((mkS ifs).size : Int) = (ifs.length : Int) := by rw [mkS_size]
  obtain ⟨N, hN⟩ : ∃ N, N = (t.zip m).length := ⟨_, rfl⟩
  have hN2 : N = min t.length m.length := by rw [hN, List.length_zip]
  have hmin : min (t.length : Int) (m.length : Int) = (N : Int) := by omega
  have HN := Lib.hid hN
  clear hN
  by_cases b0 : N > 200
  · have b0' : (200 : Int) < (N : Int) := by omega
    clear hsi hN2
    go_enter Try.func5, Try.ntmps5
    go_wp2_with (go_at_call 8; (with_reducible refine (HAW.out _).mono ?_); rintro e w1 ⟨rfl, hl1⟩; (have hb := later_cells hl1 HNA.out); (have c0 : w1.cell? ⟨w.heap.size, 0, none⟩ = some (.string (mkS t)) := (cell_row hb 0).1); (have c1 : w1.cell? ⟨w.heap.size, 1, none⟩ = some (.string (mkS m)) := (cell_row hb 1).1); (have HB1 := Lib.hid hb); (have HL1 := Lib.hid (HLA.out.trans hl1)); clear hl1 hb)
    go_ret
    exact ⟨rfl, HL1.out⟩
  have b0' : ¬ (200 : Int) < (N : Int) := by omega
  by_cases b1 : ifs.length > 30
  · have b1' : (30 : Int) < (ifs.length : Int) := by omega
    clear hN2
    go_enter Try.func5, Try.ntmps5
    go_wp2_with (go_at_call 8; (with_reducible refine (HAW.out _).mono ?_); rintro e w1 ⟨rfl, hl1⟩; (have hb := later_cells hl1 HNA.out); (have c0 : w1.cell? ⟨w.heap.size, 0, none⟩ = some (.string (mkS t)) := (cell_row hb 0).1); (have c1 : w1.cell? ⟨w.heap.size, 1, none⟩ = some (.string (mkS m)) := (cell_row hb 1).1); (have HB1 := Lib.hid hb); (have HL1 := Lib.hid (HLA.out.trans hl1)); clear hl1 hb)
    go_ret
    exact ⟨rfl, HL1.out⟩
  have b1' : ¬ (30 : Int) < (ifs.length : Int) := by omega
  obtain ⟨z, hz⟩ : ∃ z, z = t.zip m := ⟨_, rfl⟩
  rw [← hz] at HN
  obtain ⟨F, hF⟩ : ∃ F, F = split ifs z := ⟨_, rfl⟩
  have hzn := HN.out
  have HSP := Lib.hid (fun W => split_v t m ifs W h0 (by rw [← hz]; omega))
  rw [← hz, ← hF] at HSP
  have hflat : F.flatten = z.filter (plainB ifs) := by rw [hF]; exact split_flat ifs z
  have hfl2 : F.flatten.length ≤ 200 := by
    rw [hflat]
    have := List.length_filter_le (plainB ifs) z
    omega
  have HFLAT := Lib.hid hflat
  have HFL2 := Lib.hid hfl2
  have HFL := Lib.hid (show F.length ≤ 1000 by
    have h := run_len ifs z z.length (Nat.le_refl _)
    rw [List.take_of_length_le (Nat.le_refl _)] at h
    rw [hF]; unfold split fin; split <;> simp <;> omega)
  have HPT := Lib.hid (show ifs = [] → F.length = parts z false from fun h => by rw [hF, h]; exact split_parts z)
  have HZ := Lib.hid hz
  have HN2 := Lib.hid hN2
  clear hF b0 b1 hz hzn hflat hfl2 hN2
  go_enter Try.func5, Try.ntmps5
  go_wp2_with (go_at_call 8; (with_reducible refine (HAW.out _).mono ?_); rintro e w1 ⟨rfl, hl1⟩; (have hb := later_cells hl1 HNA.out); (have c0 : w1.cell? ⟨w.heap.size, 0, none⟩ = some (.string (mkS t)) := (cell_row hb 0).1); (have c1 : w1.cell? ⟨w.heap.size, 1, none⟩ = some (.string (mkS m)) := (cell_row hb 1).1); (have HB1 := Lib.hid hb); (have HL1 := Lib.hid (HLA.out.trans hl1)); clear hl1 hb)
  go_loopw [7, 8, 9, 10] (fun s7 s8 s9 s10 wr => ∃ (i p : Nat) (b : Bool), s10 = .int .i64 (i : Int) ∧ i ≤ N ∧ s7 = .string (mkS (ft ((z.take i).filter (plainB ifs)))) ∧ s8 = .int .i64 (p : Int) ∧ s9 = .bool b ∧ p ≤ i ∧ parts z false = p + parts (z.drop i) b ∧ Later w1 wr) (fun _ _ _ i _ => N - (intOf i).toNat)
  case atStart => exact ⟨0, 0, false, rfl, Nat.zero_le _, rfl, rfl, rfl, Nat.zero_le _, by simp, Later.refl _⟩
  case round =>
    obtain ⟨i, p, b, rfl, hi, rfl, rfl, rfl, hpi, hpa, hlw⟩ := hrel
    have HP := Lib.hid hpa
    have HLW := Lib.hid hlw
    have hb := later_cells hlw HB1.out
    have HBW := Lib.hid hb
    clear c0 c1 hpa hlw hb
    have hi0 : (0 : Int) ≤ (i : Int) := by omega
    have hp0 : (0 : Int) ≤ (p : Int) := by omega
    by_cases hlt : i < N
    · have hi1 : (i : Int) < (N : Int) := by omega
      obtain ⟨x, hx⟩ : ∃ x, x = ft ((z.take i).filter (plainB ifs)) := ⟨_, rfl⟩
      have hxl : x.length ≤ 200 := by
        rw [hx, ft_len]
        have h1 := List.length_filter_le (plainB ifs) (z.take i)
        have h2 : (z.take i).length ≤ i := by rw [List.length_take]; omega
        omega
      have hzn := HN.out
      have hN2 := HN2.out
      have hltz : i < z.length := by omega
      have htl : i < t.length := by omega
      have hml : i < m.length := by omega
      have ht2 : i < (mkS t).size := by rw [mkS_size]; exact htl
      have hm2 : i < (mkS m).size := by rw [mkS_size]; exact hml
      obtain ⟨c, hc⟩ : ∃ c, c = (mkS t)[i] := ⟨_, rfl⟩
      obtain ⟨d, hd⟩ : ∃ d, d = (mkS m)[i] := ⟨_, rfl⟩
      have htc : t[i] = c := by rw [hc]; exact (mkS_get t i ht2 htl).symm
      have hp : z[i] = (c, d) := by
        have hz := HZ.out
        subst hz
        rw [List.getElem_zip]
        exact Prod.ext htc (by rw [hd]; exact (mkS_get m i hm2 hml).symm)
      have htk := keeps_take ifs hltz
      rw [hp, ← hx] at htk
      have hpd := parts_drop hltz b
      rw [hp] at hpd
      have HTK := Lib.hid htk
      have HPD := Lib.hid hpd
      have hct : (mkS t)[i] = c := hc.symm
      have hdt : (mkS m)[i] = d := hd.symm
      have HSL1 := Lib.hid (fun W => slice_one t i htl c htc W)
      have hit : (i : Int) < ((mkS t).size : Int) := by omega
      have him : (i : Int) < ((mkS m).size : Int) := by omega
      have hit2 : (i : Int) < (t.length : Int) := by omega
      have him2 : (i : Int) < (m.length : Int) := by omega
      rw [← hx]
      clear hp hc hd htl hml hltz htk hpd hx htc hzn hN2
      go_wp2_with fail
      go_loopw [11, 12] (fun s11 s12 wi => ∃ (k : Nat) (gb : Bool), s12 = .int .i64 (k : Int) ∧ k ≤ ifs.length ∧ s11 = .bool gb ∧ gb = (d == 115 && (ifs.take k).contains c) ∧ Later w1 wi) (fun _ k _ => ifs.length - (intOf k).toNat)
      case atStart => exact ⟨0, false, rfl, Nat.zero_le _, rfl, by simp, HLW.out⟩
      case round =>
        obtain ⟨k, gb, rfl, hk, rfl, hg, hli⟩ := hrel
        have HLI := Lib.hid hli
        have hb := later_cells hli HB1.out
        have c0 : wr.cell? ⟨w.heap.size, 0, none⟩ = some (.string (mkS t)) := (cell_row hb 0).1
        have c1 : wr.cell? ⟨w.heap.size, 1, none⟩ = some (.string (mkS m)) := (cell_row hb 1).1
        clear hli hb
        have hk0 : (0 : Int) ≤ (k : Int) := by omega
        by_cases hki : k < ifs.length
        · have hk1 : (k : Int) < (ifs.length : Int) := by omega
          have hk2 : k < (mkS ifs).size := by rw [mkS_size]; exact hki
          have hk3 : (k : Int) < ((mkS ifs).size : Int) := by omega
          obtain ⟨e, he⟩ : ∃ e, e = (mkS ifs)[k] := ⟨_, rfl⟩
          have HHS := Lib.hid (show (ifs.take (k + 1)).contains c = ((ifs.take k).contains c || (e == c)) by
            rw [has_snoc ifs hki c, he, mkS_get ifs k hk2 hki])
          have het : (mkS ifs)[k] = e := he.symm
          clear he
          cases hgv : gb with
          | true =>
            rw [hgv] at hg
            clear hgv
            have hg2 : (d == 115 && (ifs.take (k + 1)).contains c) = true := by rw [HHS.out]; simp only [Bool.and_eq_true, Bool.or_eq_true] at hg ⊢; exact ⟨(Bool.and_eq_true _ _ ▸ hg.symm).1, .inl (Bool.and_eq_true _ _ ▸ hg.symm).2⟩
            have HG2 := Lib.hid hg2
            clear hg hg2
            go_wp2
            go_quiet (fail)
            go_wp2_with fail
            go_roundw
            case rel => exact ⟨k + 1, _, by go_num, by omega, rfl, HG2.out.symm, HLI.out.trans ⟨rfl, rfl, rfl, Nat.le_refl _, fun _ _ => rfl⟩⟩
            case measure => simp [intOf]; omega
          | false =>
            rw [hgv] at hg
            clear hgv
            by_cases hd115 : d = 115
            · by_cases hec : e = c
              · skip
                have f115 : ((d.toNat : Int) == 115) = true := f8 (n := 115) (b := true) (by decide) (by simpa using hd115)
                have fec : ((e.toNat : Int) == (c.toNat : Int)) = true := by rw [hec]; simp
                have hg2 : (d == 115 && (ifs.take (k + 1)).contains c) = true := by rw [HHS.out, hec, hd115]; simp
                have HG2 := Lib.hid hg2
                clear hg hg2 hd115 hec
                go_wp2
                go_quiet (fail)
                go_wp2_with fail
                go_roundw
                case rel => exact ⟨k + 1, _, by go_num, by omega, rfl, HG2.out.symm, HLI.out.trans ⟨rfl, rfl, rfl, Nat.le_refl _, fun _ _ => rfl⟩⟩
                case measure => simp [intOf]; omega
              · skip
                have f115 : ((d.toNat : Int) == 115) = true := f8 (n := 115) (b := true) (by decide) (by simpa using hd115)
                have fec : ((e.toNat : Int) == (c.toNat : Int)) = false := by
                  have h5 : e.toNat ≠ c.toNat := fun h => hec (UInt8.toNat_inj.1 h)
                  rw [beq_eq_false_iff_ne]; omega
                have hg2 : (d == 115 && (ifs.take (k + 1)).contains c) = false := by
                  have h3 : (e == c) = false := by simpa using hec
                  rw [HHS.out, h3, Bool.or_false]; exact hg.symm
                have HG2 := Lib.hid hg2
                clear hg hg2 hd115 hec
                go_wp2
                go_quiet (fail)
                go_wp2_with fail
                go_roundw
                case rel => exact ⟨k + 1, _, by go_num, by omega, rfl, HG2.out.symm, HLI.out.trans ⟨rfl, rfl, rfl, Nat.le_refl _, fun _ _ => rfl⟩⟩
                case measure => simp [intOf]; omega
            · skip
              have f115 : ((d.toNat : Int) == 115) = false := f8 (n := 115) (b := false) (by decide) (by simpa using hd115)
              have hg2 : (d == 115 && (ifs.take (k + 1)).contains c) = false := by
                have h6 : (d == 115) = false := by simpa using hd115
                rw [h6]; rfl
              have HG2 := Lib.hid hg2
              clear hg hg2 hd115
              go_wp2
              go_quiet (fail)
              go_wp2_with fail
              go_roundw
              case rel => exact ⟨k + 1, _, by go_num, by omega, rfl, HG2.out.symm, HLI.out.trans ⟨rfl, rfl, rfl, Nat.le_refl _, fun _ _ => rfl⟩⟩
              case measure => simp [intOf]; omega
        · have hkl : ifs.take k = ifs := List.take_of_length_le (by omega)
          rw [hkl] at hg
          have hsB : gb = sepB ifs (c, d) := hg
          clear hg hkl
          obtain ⟨sb, hsb0⟩ : ∃ sb, sb = gb := ⟨_, rfl⟩
          subst hsb0
          have hsum : ¬ 9223372036854775807 < (mkS x).size + (mkS [c]).size := by rw [mkS_size, mkS_size]; simp; omega
          have hadd : mkS x ++ mkS [c] = mkS (x ++ [c]) := mkS_add _ _
          by_cases hd98 : d = 98
          · have f98 : ((d.toNat : Int) == 98) = true := f8 (n := 98) (b := true) (by decide) (by simpa using hd98)
            have hpl : plainB ifs (c, d) = false := by unfold plainB; rw [hd98]; simp
            rw [hpl] at HTK
            have h98 : (d == 98) = true := by simpa using hd98
            rw [h98] at HPD
            have HSB := Lib.hid hsB
            clear hsB hd98 h98 hpl
            go_wp2
            go_roundw
            case rel =>
              refine ⟨i + 1, p, false, by go_num, by omega, ?_, rfl, rfl, by omega, ?_, HLI.out⟩
              · rw [HTK.out]; simp
              · have h1 := HP.out; have h2 := HPD.out; simp only [if_true] at h2; omega
            case measure => simp [intOf]; omega
          · have f98 : ((d.toNat : Int) == 98) = false := f8 (n := 98) (b := false) (by decide) (by simpa using hd98)
            cases b
            case true =>
              cases hsv : sb with
              | true =>
                rw [hsv] at hsB
                clear hsv
                have hpl : plainB ifs (c, d) = false := by unfold plainB; rw [← hsB]; rfl
                rw [hpl] at HTK
                have h98 : (d == 98) = false := by simpa using hd98
                rw [h98] at HPD
                have HSB := Lib.hid hsB
                clear hsB hd98 h98 hpl
                go_wp2
                go_roundw
                case rel =>
                  refine ⟨i + 1, p, true, by go_num, by omega, ?_, rfl, rfl, by omega, ?_, HLI.out⟩
                  · rw [HTK.out]; simp
                  · have h1 := HP.out; have h2 := HPD.out; simp at h2; omega
                case measure => simp [intOf]; omega
              | false =>
                rw [hsv] at hsB
                clear hsv
                by_cases hd101 : d = 101
                · skip
                  have hpl : plainB ifs (c, d) = false := by unfold plainB; rw [hd101]; simp
                  have f101 : ((d.toNat : Int) != 101) = false := g8 (n := 101) (b := true) (by decide) (by simpa using hd101)
                  rw [hpl] at HTK
                  have h98 : (d == 98) = false := by simpa using hd98
                  rw [h98] at HPD
                  have HSB := Lib.hid hsB
                  clear hsB hd98 h98 hpl hd101
                  go_wp2
                  go_roundw
                  case rel =>
                    refine ⟨i + 1, p, true, by go_num, by omega, ?_, rfl, rfl, by omega, ?_, HLI.out⟩
                    · rw [HTK.out]; simp
                    · have h1 := HP.out; have h2 := HPD.out; simp at h2; omega
                  case measure => simp [intOf]; omega
                · skip
                  have hpl : plainB ifs (c, d) = true := by unfold plainB; rw [← hsB]; simp [hd98, hd101]
                  have hslc : (Instr.slice 9 (.string (mkS t)) (some (.int .i64 (i : Int))) (some (.int .i64 ((i : Int) + 1))) none).run Try.prog wr = .ok (.string (mkS [c])) wr := HSL1.out wr
                  have f101 : ((d.toNat : Int) != 101) = true := g8 (n := 101) (b := false) (by decide) (by simpa using hd101)
                  rw [hpl] at HTK
                  have h98 : (d == 98) = false := by simpa using hd98
                  rw [h98] at HPD
                  have HSB := Lib.hid hsB
                  clear hsB hd98 h98 hpl hd101
                  go_wp2
                  go_roundw
                  case rel =>
                    refine ⟨i + 1, p, true, by go_num, by omega, ?_, rfl, rfl, by omega, ?_, HLI.out⟩
                    · rw [HTK.out]; simp
                    · have h1 := HP.out; have h2 := HPD.out; simp at h2; omega
                  case measure => simp [intOf]; omega
            case false =>
              cases hsv : sb with
              | true =>
                rw [hsv] at hsB
                clear hsv
                have hpl : plainB ifs (c, d) = false := by unfold plainB; rw [← hsB]; rfl
                rw [hpl] at HTK
                have h98 : (d == 98) = false := by simpa using hd98
                rw [h98] at HPD
                have HSB := Lib.hid hsB
                clear hsB hd98 h98 hpl
                go_wp2
                go_roundw
                case rel =>
                  refine ⟨i + 1, p + 1, true, by go_num, by omega, ?_, by go_num, rfl, by omega, ?_, HLI.out⟩
                  · rw [HTK.out]; simp
                  · have h1 := HP.out; have h2 := HPD.out; simp at h2; omega
                case measure => simp [intOf]; omega
              | false =>
                rw [hsv] at hsB
                clear hsv
                by_cases hd101 : d = 101
                · skip
                  have hpl : plainB ifs (c, d) = false := by unfold plainB; rw [hd101]; simp
                  have f101 : ((d.toNat : Int) != 101) = false := g8 (n := 101) (b := true) (by decide) (by simpa using hd101)
                  rw [hpl] at HTK
                  have h98 : (d == 98) = false := by simpa using hd98
                  rw [h98] at HPD
                  have HSB := Lib.hid hsB
                  clear hsB hd98 h98 hpl hd101
                  go_wp2
                  go_roundw
                  case rel =>
                    refine ⟨i + 1, p + 1, true, by go_num, by omega, ?_, by go_num, rfl, by omega, ?_, HLI.out⟩
                    · rw [HTK.out]; simp
                    · have h1 := HP.out; have h2 := HPD.out; simp at h2; omega
                  case measure => simp [intOf]; omega
                · skip
                  have hpl : plainB ifs (c, d) = true := by unfold plainB; rw [← hsB]; simp [hd98, hd101]
                  have hslc : (Instr.slice 9 (.string (mkS t)) (some (.int .i64 (i : Int))) (some (.int .i64 ((i : Int) + 1))) none).run Try.prog wr = .ok (.string (mkS [c])) wr := HSL1.out wr
                  have f101 : ((d.toNat : Int) != 101) = true := g8 (n := 101) (b := false) (by decide) (by simpa using hd101)
                  rw [hpl] at HTK
                  have h98 : (d == 98) = false := by simpa using hd98
                  rw [h98] at HPD
                  have HSB := Lib.hid hsB
                  clear hsB hd98 h98 hpl hd101
                  go_wp2
                  go_roundw
                  case rel =>
                    refine ⟨i + 1, p + 1, true, by go_num, by omega, ?_, by go_num, rfl, by omega, ?_, HLI.out⟩
                    · rw [HTK.out]; simp
                    · have h1 := HP.out; have h2 := HPD.out; simp at h2; omega
                  case measure => simp [intOf]; omega
    · have hin : i = N := by omega
      have c0 : wr.cell? ⟨w.heap.size, 0, none⟩ = some (.string (mkS t)) := (cell_row HBW.out 0).1
      have c1 : wr.cell? ⟨w.heap.size, 1, none⟩ = some (.string (mkS m)) := (cell_row HBW.out 1).1
      have hzn := HN.out
      have hpz := HP.out
      rw [List.drop_eq_nil_of_le (by omega)] at hpz
      have hpz2 : parts z false = p := hpz
      have HPZ := Lib.hid hpz2
      rw [List.take_of_length_le (by omega)]
      rw [← HFLAT.out]
      obtain ⟨u, hu⟩ : ∃ u, u = ft F.flatten := ⟨_, rfl⟩
      have HU := Lib.hid hu
      rw [← hu]
      clear hu hpz hpz2 hzn
      go_wp2_with (go_at_call 9; (with_reducible refine (HSP.out _).mono ?_); rintro e w2 ⟨v, rfl, hl2, ho2⟩; (have hr2 := RdR.of_own ho2); obtain ⟨A, c, hv, _⟩ := own_any ho2; subst hv; (have HR2 := Lib.hid hr2); (have HL2 := Lib.hid (HL1.out.trans (HLW.out.trans hl2))); clear hl2 ho2 hr2)
      have hfl := HFL.out
      go_loopw [14, 15] (fun s14 s15 wr => ∃ k : Nat, s15 = .int .i64 (k : Int) ∧ k ≤ F.length ∧ s14 = .string (mkS (ft (F.take k).flatten)) ∧ Later w2 wr) (fun _ k _ => F.length - (intOf k).toNat)
      case atStart => exact ⟨0, rfl, Nat.zero_le _, rfl, Later.refl _⟩
      case round =>
        obtain ⟨k, rfl, hk, rfl, hlw⟩ := hrel
        have HLX := Lib.hid hlw
        clear hlw
        have hk0 : (0 : Int) ≤ (k : Int) := by omega
        by_cases hkf : k < F.length
        · have hk1 : (k : Int) < (F.length : Int) := by omega
          obtain ⟨g, cg, e, hg, hcc⟩ := HR2.out.at_ (by rw [List.length_map]; omega)
          injection e with e e1 e2
          clear e1
          subst e e2
          have hkm : k < (F.map pr).length := by rw [List.length_map]; exact hkf
          obtain ⟨p1, p2⟩ := hcc k hkm
          obtain ⟨x, hx⟩ : ∃ x, x = F[k] := ⟨_, rfl⟩
          have q1 : wr.cell? ⟨g, k * 2, none⟩ = some (.string (mkS (ft x))) := (HLX.out.cell (p := ⟨g, k * 2, none⟩) hg).trans (by rw [p1, List.getElem_map, hx]; rfl)
          have q2 : wr.cell? ⟨g, k * 2 + 1, none⟩ = some (.string (mkS (fm x))) := (HLX.out.cell (p := ⟨g, k * 2 + 1, none⟩) hg).trans (by rw [p2, List.getElem_map, hx]; rfl)
          obtain ⟨y, hy⟩ : ∃ y, y = ft (F.take k).flatten := ⟨_, rfl⟩
          have HOT := Lib.hid (show ft (F.take (k + 1)).flatten = y ++ ft x by rw [hx, hy]; exact outs_take hkf)
          have hyl : y.length ≤ 200 := by rw [hy]; exact Nat.le_trans (outs_len F k) HFL2.out
          have hyx : (y ++ ft x).length ≤ 200 := by rw [← HOT.out]; exact Nat.le_trans (outs_len F (k + 1)) HFL2.out
          have hsx : ((mkS (ft x)).size : Int) = (x.length : Int) := by rw [mkS_size, ft_len]
          have hsy : ((mkS (fm x)).size : Int) = (x.length : Int) := by rw [mkS_size]; unfold fm; rw [List.length_map]
          have hsum : ¬ 9223372036854775807 < (mkS y).size + (mkS (ft x)).size := by rw [mkS_size, mkS_size, ← List.length_append]; omega
          have hadd : mkS y ++ mkS (ft x) = mkS (y ++ ft x) := mkS_add _ _
          rw [← hy]
          clear hy hx p1 p2 hcc hkm hyl hyx
          go_wp2
          go_quiet (fail)
          go_wp2_with fail
          go_roundw
          case rel => exact ⟨k + 1, by go_num, by omega, by rw [HOT.out], HLX.out.trans ⟨rfl, rfl, rfl, Nat.le_refl _, fun _ _ => rfl⟩⟩
          case measure => simp [intOf]; omega
        · have hkl : k = F.length := by omega
          rw [List.take_of_length_le (by omega), ← HU.out]
          have htl : ∀ l : L, (mkS l).toList = l := mkS_toList
          have HLZ := Lib.hid (HL2.out.trans HLX.out)
          by_cases hie : ifs = []
          · have k2 : (ifs == []) = true := by simp [hie]
            have hpf : p = F.length := by have := HPT.out hie; have := HPZ.out; omega
            subst hpf
            clear hie
            go_wp2
            go_ret
            exact ⟨rfl, HLZ.out⟩
          · have k2 : (ifs == []) = false := by simpa using hie
            clear hie
            go_wp2
            go_ret
            exact ⟨rfl, HLZ.out⟩
theorem walk (w : World) (x0 : ByteArray) (h0 : x0.size ≤ maxLen) (x1 : ByteArray) (h1 : x1.size ≤ maxLen) (a : ByteArray) (h2 : a.size ≤ maxLen) :
    Calls Try.prog 5 #[.agg #[.string x0, .string x1], .string a] w fun e w' => e = .returned (.bool true) ∧ Below w.heap.size w w' := by
  have := walk_m w x0.data.toList x1.data.toList a.data.toList h0 h1 h2
  rw [mkS_of, mkS_of, mkS_of] at this
  exact this
end splitKeeps
end Go.Proofs.Ytghdimcdkjlpcaa
