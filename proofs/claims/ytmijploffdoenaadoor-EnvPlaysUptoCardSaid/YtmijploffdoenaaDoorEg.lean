/- The library's Equal at variables and at texts; Same. No premises. -/
import Derived.Test.YtmijploffdoenaaDoorNwq
import Derived.Test.YtmijploffdoenaaDoorNz
import Derived.BigQuiet
namespace Go.Proofs.YtmijploffdoenaaDoor
open Go.RowKit Go.Maps
namespace En
set_option maxRecDepth 100000 in
set_option maxHeartbeats 6400000 in
theorem equalV_v (va vb : Value) (l m : Vs) (W : World) (h1 : RdP W W.heap.size va l) (h2 : RdP W W.heap.size vb m) : Calls Tryd.prog 35 #[va, vb] W fun x W' => x = .returned (.bool (decide (l = m))) ∧ Later W W' := by
  obtain ⟨Av, cv, rfl, hcv, hcw, _⟩ := h1.le
  obtain ⟨Bv, cv2, rfl, hcv2, hcw2, _⟩ := h2.le
  have HV := Lib.hid h1
  have HV2 := Lib.hid h2
  have hll : l.length ≤ 9223372036854775807 := by omega
  have hlm : m.length ≤ 9223372036854775807 := by omega
  have htl : ∀ l : B, (mkS l).toList = l := toList_mkS
  clear h1 h2 hcv hcw hcv2 hcw2
  by_cases e1 : l.length = m.length
  case neg =>
    have f1 : ((l.length : Int) != (m.length : Int)) = true := by rw [bne_iff_ne]; omega
    have f2 : ((l.length : Int) == (m.length : Int)) = false := by rw [beq_eq_false_iff_ne]; omega
    have HNE := Lib.hid (decide_eq_false (fun h : l = m => e1 (by rw [h])))
    clear e1
    go_enter Tryd.func35, Tryd.ntmps35
    go_wp2
    go_ret
    exact ⟨by rw [HNE.out]; rfl, Later.refl _⟩
  have f1 : ((l.length : Int) != (m.length : Int)) = false := by simp [e1]
  have f2 : ((l.length : Int) == (m.length : Int)) = true := by rw [beq_iff_eq]; omega
  have HE1 := Lib.hid e1
  clear e1
  go_enter Tryd.func35, Tryd.ntmps35
  go_wp2_with fail
  go_loopw [13] (fun s13 wr => ∃ i : Nat, s13 = .int .i64 (i : Int) ∧ i ≤ l.length ∧ l.take i = m.take i ∧ Later W wr) (fun i _ => l.length - (intOf i).toNat)
  case atStart => exact ⟨0, rfl, Nat.zero_le _, rfl, Later.refl _⟩
  case round =>
    obtain ⟨i, rfl, hi, htk, hlw⟩ := hrel
    have HTK := Lib.hid htk
    have HLW := Lib.hid hlw
    clear hlw htk
    have hi0 : (0 : Int) ≤ (i : Int) := by omega
    by_cases hlt : i < l.length
    · have hlt2 : i < m.length := by rw [← HE1.out]; exact hlt
      have hi1 : (i : Int) < (l.length : Int) := by omega
      have hi2 : (i : Int) < (m.length : Int) := by omega
      obtain ⟨g, o, c', u1, hg, hcc⟩ := HV.out.at_ (by omega)
      injection u1 with u1 _ u2
      subst u1 u2
      obtain ⟨g2, o2, c2', u1, hg2, hcc2⟩ := HV2.out.at_ (by omega)
      injection u1 with u1 _ u2
      subst u1 u2
      obtain ⟨x, hx⟩ : ∃ x, x = l[i] := ⟨_, rfl⟩
      obtain ⟨y, hy⟩ : ∃ y, y = m[i] := ⟨_, rfl⟩
      have p1 := (HLW.out.cell (p := ⟨g, o + i * 2, none⟩) hg).trans (hcc i hlt).1
      have p2 := (HLW.out.cell (p := ⟨g, o + i * 2 + 1, none⟩) hg).trans (hcc i hlt).2
      have q1 := (HLW.out.cell (p := ⟨g2, o2 + i * 2, none⟩) hg2).trans (hcc2 i hlt2).1
      have q2 := (HLW.out.cell (p := ⟨g2, o2 + i * 2 + 1, none⟩) hg2).trans (hcc2 i hlt2).2
      rw [← hx] at p1 p2
      rw [← hy] at q1 q2
      have HX := Lib.hid (And.intro hx hy)
      have HLT := Lib.hid (And.intro hlt hlt2)
      clear hcc hcc2 hx hy hg hg2
      by_cases hxy : x = y
      · subst hxy
        go_wp2
        go_quiet (fail)
        go_wp2_with fail
        go_roundw
        case rel => exact ⟨i + 1, by go_num, by omega, take_eq hlt hlt2 HTK.out (by rw [← HX.out.1]; exact HX.out.2), HLW.out.trans ⟨rfl, rfl, rfl, Nat.le_refl _, fun _ _ => rfl⟩⟩
        case measure => simp [intOf]; omega
      · have hne : l ≠ m := take_ne HLT.out.1 HLT.out.2 (by rw [← HX.out.1, ← HX.out.2]; exact hxy)
        have HNE := Lib.hid (decide_eq_false hne)
        by_cases h1 : x.1 = y.1
        · have f5 : (x.1 == y.1) = true := by simpa using h1
          have f6 : (x.2 == y.2) = false := by
            have : x.2 ≠ y.2 := fun h2 => hxy (Prod.ext h1 h2)
            simpa using this
          clear h1 hxy hne
          go_wp2
          go_quiet (fail)
          go_wp2_with fail
          go_ret
          exact ⟨by rw [HNE.out]; rfl, HLW.out.trans ⟨rfl, rfl, rfl, Nat.le_refl _, fun _ _ => rfl⟩⟩
        · have f5 : (x.1 == y.1) = false := by simpa using h1
          clear h1 hxy hne
          go_wp2
          go_quiet (fail)
          go_wp2_with fail
          go_ret
          exact ⟨by rw [HNE.out]; rfl, HLW.out.trans ⟨rfl, rfl, rfl, Nat.le_refl _, fun _ _ => rfl⟩⟩
    · have hvv : l = m := by
        have h := HTK.out
        rw [List.take_of_length_le (by omega), List.take_of_length_le (by have := HE1.out; omega)] at h
        exact h
      have HVV := Lib.hid (decide_eq_true hvv)
      clear hvv
      go_wp2
      go_ret
      exact ⟨by rw [HVV.out]; rfl, HLW.out⟩
set_option maxRecDepth 100000 in
set_option maxHeartbeats 6400000 in
theorem equalS_v (A A2 : Option Addr) (n c n2 c2 : Nat) (l m : List B) (W : World) (h1 : Rd W W.heap.size A n (l.map fun x => .string (mkS x))) (h2 : Rd W W.heap.size A2 n2 (m.map fun x => .string (mkS x))) (hc : n ≤ 9223372036854775807) (hc2 : n2 ≤ 9223372036854775807) : Calls Tryd.prog 36 #[.slice A n c, .slice A2 n2 c2] W fun x W' => x = .returned (.bool (decide (l = m))) ∧ Later W W' := by
  have hn : n = l.length := len_of h1
  have hn2 : n2 = m.length := len_of h2
  subst hn hn2
  have HA := Lib.hid h1
  have HA2 := Lib.hid h2
  have htl : ∀ l : B, (mkS l).toList = l := toList_mkS
  clear h1 h2
  by_cases e1 : l.length = m.length
  case neg =>
    have f1 : ((l.length : Int) != (m.length : Int)) = true := by rw [bne_iff_ne]; omega
    have f2 : ((l.length : Int) == (m.length : Int)) = false := by rw [beq_eq_false_iff_ne]; omega
    have HNE := Lib.hid (decide_eq_false (fun h : l = m => e1 (by rw [h])))
    clear e1
    go_enter Tryd.func36, Tryd.ntmps36
    go_wp2
    go_ret
    exact ⟨by rw [HNE.out]; rfl, Later.refl _⟩
  have f1 : ((l.length : Int) != (m.length : Int)) = false := by simp [e1]
  have f2 : ((l.length : Int) == (m.length : Int)) = true := by rw [beq_iff_eq]; omega
  have HE1 := Lib.hid e1
  clear e1
  go_enter Tryd.func36, Tryd.ntmps36
  go_wp2_with fail
  go_loopw [13] (fun s13 wr => ∃ i : Nat, s13 = .int .i64 (i : Int) ∧ i ≤ l.length ∧ l.take i = m.take i ∧ Later W wr) (fun i _ => l.length - (intOf i).toNat)
  case atStart => exact ⟨0, rfl, Nat.zero_le _, rfl, Later.refl _⟩
  case round =>
    obtain ⟨i, rfl, hi, htk, hlw⟩ := hrel
    have HTK := Lib.hid htk
    have HLW := Lib.hid hlw
    clear hlw htk
    have hi0 : (0 : Int) ≤ (i : Int) := by omega
    by_cases hlt : i < l.length
    · have hlt2 : i < m.length := by rw [← HE1.out]; exact hlt
      have hi1 : (i : Int) < (l.length : Int) := by omega
      have hi2 : (i : Int) < (m.length : Int) := by omega
      obtain ⟨ad, hl1, rfl, hg, hcc⟩ := HA.out.at_map (k := i) hlt
      obtain ⟨ad2, hl2, rfl, hg2, hcc2⟩ := HA2.out.at_map (k := i) hlt2
      obtain ⟨x, hx⟩ : ∃ x, x = l[i] := ⟨_, rfl⟩
      obtain ⟨y, hy⟩ : ∃ y, y = m[i] := ⟨_, rfl⟩
      have p1 : wr.cell? (ad.add i) = some (.string (mkS x)) := (HLW.out.cell (p := ad.add i) (by rw [block_add]; exact hg)).trans (by rw [hx]; exact hcc)
      have q1 : wr.cell? (ad2.add i) = some (.string (mkS y)) := (HLW.out.cell (p := ad2.add i) (by rw [block_add]; exact hg2)).trans (by rw [hy]; exact hcc2)
      have HX := Lib.hid (And.intro hx hy)
      have HLT := Lib.hid (And.intro hlt hlt2)
      clear hcc hcc2 hx hy hg hg2
      by_cases hxy : x = y
      · subst hxy
        go_wp2
        go_quiet (fail)
        go_wp2_with fail
        go_roundw
        case rel => exact ⟨i + 1, by go_num, by omega, take_eq hlt hlt2 HTK.out (by rw [← HX.out.1]; exact HX.out.2), HLW.out.trans ⟨rfl, rfl, rfl, Nat.le_refl _, fun _ _ => rfl⟩⟩
        case measure => simp [intOf]; omega
      · have hne : l ≠ m := take_ne HLT.out.1 HLT.out.2 (by rw [← HX.out.1, ← HX.out.2]; exact hxy)
        have HNE := Lib.hid (decide_eq_false hne)
        have f5 : (x == y) = false := by simpa using hxy
        clear hxy hne
        go_wp2
        go_quiet (fail)
        go_wp2_with fail
        go_ret
        exact ⟨by rw [HNE.out]; rfl, HLW.out.trans ⟨rfl, rfl, rfl, Nat.le_refl _, fun _ _ => rfl⟩⟩
    · have hvv : l = m := by
        have h := HTK.out
        rw [List.take_of_length_le (by omega), List.take_of_length_le (by have := HE1.out; omega)] at h
        exact h
      have HVV := Lib.hid (decide_eq_true hvv)
      clear hvv
      go_wp2
      go_ret
      exact ⟨by rw [HVV.out]; rfl, HLW.out⟩
end En
end Go.Proofs.YtmijploffdoenaaDoor
/- Same. No premises. -/
namespace Go.Proofs.YtmijploffdoenaaDoor
open Go.RowKit Go.Maps
namespace En
set_option maxRecDepth 100000 in
set_option maxHeartbeats 6400000 in
theorem same_v (va vb : Value) (a b : E) (W : World) (h1 : RdE W va a) (h2 : RdE W vb b) : Calls Tryd.prog 19 #[va, vb] W fun x W' => x = .returned (.bool (eqE a b)) ∧ Later W W' := by
  obtain ⟨va0, A, n, c, rfl, hv, hr, hc1, hc2⟩ := h1
  obtain ⟨vb0, A2, n2, c2, rfl, hv2, hr2, hc3, hc4⟩ := h2
  have HQV := Lib.hid (show ∀ W', Later W W' → Calls Tryd.prog 35 #[va0, vb0] W' fun x W'' => x = .returned (.bool (decide (a.vars = b.vars))) ∧ Later W' W'' from fun W' hl => equalV_v va0 vb0 _ _ W' (hv.later hl) (hv2.later hl))
  have HQS := Lib.hid (show ∀ W', Later W W' → Calls Tryd.prog 36 #[.slice A n c, .slice A2 n2 c2] W' fun x W'' => x = .returned (.bool (decide (a.args = b.args))) ∧ Later W' W'' from fun W' hl => equalS_v A A2 n c n2 c2 _ _ W' ((hr.below hl).more hl.size) ((hr2.below hl).more hl.size) (by omega) (by omega))
  obtain ⟨Av, cv, rfl, _⟩ := hv.le
  obtain ⟨Bv, cv2, rfl, _⟩ := hv2.le
  obtain ⟨nv, hnv⟩ : ∃ nv, nv = a.vars.length := ⟨_, rfl⟩
  obtain ⟨nv2, hnv2⟩ : ∃ nv2, nv2 = b.vars.length := ⟨_, rfl⟩
  rw [← hnv, ← hnv2] at HQV
  rw [← hnv, ← hnv2]
  have heq : eqE a b = (decide (a.vars = b.vars) && decide (a.args = b.args) && decide (a.status = b.status) && decide (a.flags = b.flags)) := rfl
  rw [heq]
  obtain ⟨t1, ht1⟩ : ∃ t1, t1 = decide (a.vars = b.vars) := ⟨_, rfl⟩
  obtain ⟨t2, ht2⟩ : ∃ t2, t2 = decide (a.args = b.args) := ⟨_, rfl⟩
  rw [← ht1] at HQV
  rw [← ht2] at HQS
  rw [← ht1, ← ht2]
  obtain ⟨W2, hW2⟩ : ∃ W2, W2 = (W.alloc (.cells #[.slice Av nv cv, .slice A n c, .int .i64 (a.status : Int), .string (mkS a.flags)] 28)).alloc (.cells #[.slice Bv nv2 cv2, .slice A2 n2 c2, .int .i64 (b.status : Int), .string (mkS b.flags)] 28) := ⟨_, rfl⟩
  have HL := Lib.hid (show Later W W2 by rw [hW2]; exact (Later.alloc _ _).trans (Later.alloc _ _))
  have hB0 : W2.heap[W.heap.size + 1]? = some (.cells #[.slice Bv nv2 cv2, .slice A2 n2 c2, .int .i64 (b.status : Int), .string (mkS b.flags)] 28 (0, 0)) := by
    rw [hW2]
    have h := heap_alloc_new (W.alloc (.cells #[.slice Av nv cv, .slice A n c, .int .i64 (a.status : Int), .string (mkS a.flags)] 28)) (.cells #[.slice Bv nv2 cv2, .slice A2 n2 c2, .int .i64 (b.status : Int), .string (mkS b.flags)] 28)
    rw [World.size_alloc] at h
    exact h
  have hA0 : W2.heap[W.heap.size]? = some (.cells #[.slice Av nv cv, .slice A n c, .int .i64 (a.status : Int), .string (mkS a.flags)] 28 (0, 0)) := by
    rw [hW2]
    exact later_cells (Later.alloc _ _) (heap_alloc_new W _)
  have HA0 := Lib.hid hA0
  have HB0 := Lib.hid hB0
  have HW2 := Lib.hid hW2
  have htl : ∀ l : B, (mkS l).toList = l := toList_mkS
  obtain ⟨s1, hs1⟩ : ∃ s1 : Int, s1 = (a.status : Int) := ⟨_, rfl⟩
  obtain ⟨s2, hs2⟩ : ∃ s2 : Int, s2 = (b.status : Int) := ⟨_, rfl⟩
  obtain ⟨f1, hf1⟩ : ∃ f1, f1 = a.flags := ⟨_, rfl⟩
  obtain ⟨f2, hf2⟩ : ∃ f2, f2 = b.flags := ⟨_, rfl⟩
  rw [← hs1, ← hs2, ← hf1, ← hf2] at HW2
  rw [← hs1, ← hf1] at HA0
  rw [← hs2, ← hf2] at HB0
  rw [← hs1, ← hs2, ← hf1, ← hf2]
  have HS := Lib.hid (show decide (a.status = b.status) = (s1 == s2) by
    rw [hs1, hs2, Bool.eq_iff_iff, beq_iff_eq, decide_eq_true_iff]; omega)
  have HFF := Lib.hid (show decide (f1 = f2) = (f1 == f2) by rw [Bool.eq_iff_iff, beq_iff_eq, decide_eq_true_iff])
  rw [HS.out, HFF.out]
  obtain ⟨t3, ht3⟩ : ∃ t3, (s1 == s2) = t3 := ⟨_, rfl⟩
  obtain ⟨t4, ht4⟩ : ∃ t4, (f1 == f2) = t4 := ⟨_, rfl⟩
  rw [ht3, ht4]
  clear hv hr hc1 hc2 hv2 hr2 hc3 hc4 hnv hnv2 heq ht1 ht2 hA0 hB0 hW2 hs1 hs2 hf1 hf2
  go_enter Tryd.func19, Tryd.ntmps19
  go_wp2_with fail
  rw [← HW2.out]
  go_at_call 35
  with_reducible refine (HQV.out _ HL.out).mono ?_
  rintro x w3 ⟨rfl, hl3⟩
  have HL3 := Lib.hid (HL.out.trans hl3)
  have hA := later_cells hl3 HA0.out
  have hB := later_cells hl3 HB0.out
  have HA3 := Lib.hid hA
  have HB3 := Lib.hid hB
  have a1 : w3.cell? ⟨W.heap.size, 1, none⟩ = some (.slice A n c) := (cell_row hA 1).1
  have b1 : w3.cell? ⟨W.heap.size + 1, 1, none⟩ = some (.slice A2 n2 c2) := (cell_row hB 1).1
  clear hl3 hA hB
  cases t1 with
  | false =>
    go_wp2
    go_ret
    exact ⟨rfl, HL3.out⟩
  | true =>
    go_wp2_with fail
    go_at_call 36
    with_reducible refine (HQS.out _ HL3.out).mono ?_
    rintro x w4 ⟨rfl, hl4⟩
    have HL4 := Lib.hid (HL3.out.trans hl4)
    have hA := later_cells hl4 HA3.out
    have hB := later_cells hl4 HB3.out
    have a2 : w4.cell? ⟨W.heap.size, 2, none⟩ = some (.int .i64 s1) := (cell_row hA 2).1
    have b2 : w4.cell? ⟨W.heap.size + 1, 2, none⟩ = some (.int .i64 s2) := (cell_row hB 2).1
    have a3 : w4.cell? ⟨W.heap.size, 3, none⟩ = some (.string (mkS f1)) := (cell_row hA 3).1
    have b3 : w4.cell? ⟨W.heap.size + 1, 3, none⟩ = some (.string (mkS f2)) := (cell_row hB 3).1
    clear hl4 hA hB a1 b1
    cases t2
    · go_wp2
      go_ret
      exact ⟨rfl, HL4.out⟩
    · cases t3
      · go_wp2
        go_ret
        exact ⟨rfl, HL4.out⟩
      · go_wp2
        go_ret
        exact ⟨rfl, HL4.out⟩
end En
end Go.Proofs.YtmijploffdoenaaDoor
