/- THE DOCUMENT'S Same. No premises. -/
import Derived.Test.YtmijploffdoenaaDoorNx
namespace Go.Proofs.YtmijploffdoenaaDoor
open Go.RowKit Go.Maps
namespace En
def eqE (a b : E) : Bool := decide (a.vars = b.vars) && decide (a.args = b.args) && decide (a.status = b.status) && decide (a.flags = b.flags)
theorem take_ne {α : Type} {l m : List α} {i : Nat} (h : i < l.length) (h2 : i < m.length) (hx : l[i] ≠ m[i]) : l ≠ m := fun e => by subst e; exact hx rfl
theorem take_eq {α : Type} {l m : List α} {i : Nat} (h : i < l.length) (h2 : i < m.length) (ht : l.take i = m.take i) (hx : l[i] = m[i]) : l.take (i + 1) = m.take (i + 1) := by
  rw [List.take_succ_eq_append_getElem h, List.take_succ_eq_append_getElem h2, ht, hx]
theorem len_of {w : World} {B : Nat} {A : Option Addr} {n : Nat} {l : List En.B} (h : Rd w B A n (l.map fun x => .string (mkS x))) : n = l.length := by have := h.1; simpa using this.symm
set_option maxRecDepth 100000 in
set_option maxHeartbeats 6400000 in
theorem rsame_v (va vb : Value) (a b : E) (W : World) (h1 : RdE W va a) (h2 : RdE W vb b) : Calls Tryd.prog 15 #[va, vb] W fun x W' => x = .returned (.bool (eqE a b)) ∧ Later W W' := by
  obtain ⟨vs, xs, st, fl⟩ := a
  obtain ⟨vs2, ys, st2, fl2⟩ := b
  obtain ⟨_, A, n, c, rfl, hv, ha, hc1, hc2⟩ := h1
  obtain ⟨_, A2, n2, c2, rfl, hv2, ha2, hc12, hc22⟩ := h2
  obtain ⟨Av, cv, rfl, hcv, hcw, _⟩ := hv.le
  obtain ⟨Bv, cv2, rfl, hcv2, hcw2, _⟩ := hv2.le
  have en := len_of ha
  have en2 := len_of ha2
  dsimp only at hv ha hv2 ha2 hcv hcv2 en en2 ⊢
  subst en en2
  have HV := Lib.hid hv
  have HA := Lib.hid ha
  have HV2 := Lib.hid hv2
  have HA2 := Lib.hid ha2
  obtain ⟨o1, ho1⟩ : ∃ o : Obj, o = .cells #[.slice Av vs.length cv, .slice A xs.length c, .int .i64 (st : Int), .string (mkS fl)] 31 := ⟨_, rfl⟩
  obtain ⟨o2, ho2⟩ : ∃ o : Obj, o = .cells #[.slice Bv vs2.length cv2, .slice A2 ys.length c2, .int .i64 (st2 : Int), .string (mkS fl2)] 31 := ⟨_, rfl⟩
  have l1 := Later.alloc W o1
  have l2 := Later.alloc (W.alloc o1) o2
  have n2 := heap_alloc_new (W.alloc o1) o2
  rw [World.size_alloc] at n2
  have HF := Lib.hid (show Later W ((W.alloc o1).alloc o2) ∧ ((W.alloc o1).alloc o2).heap[W.heap.size]? = some o1 ∧ ((W.alloc o1).alloc o2).heap[W.heap.size + 1]? = some o2 from ⟨l1.trans l2, later_cells l2 (heap_alloc_new W o1), n2⟩)
  rw [ho1, ho2] at HF
  clear l1 l2 n2 ho1 ho2 o1 o2 hv ha hv2 ha2
  have htl : ∀ l : En.B, (mkS l).toList = l := toList_mkS
  by_cases e1 : vs.length = vs2.length
  case neg =>
    have f1 : ((vs.length : Int) == (vs2.length : Int)) = false := by rw [beq_eq_false_iff_ne]; omega
    have HE1 := Lib.hid e1
    have g1 : ¬ (vs.length : Int) = (vs2.length : Int) := by omega
    have hne : eqE ⟨vs, xs, st, fl⟩ ⟨vs2, ys, st2, fl2⟩ = false := by unfold eqE; rw [decide_eq_false (fun h : vs = vs2 => HE1.out (by rw [h]))]; rfl
    rw [hne]
    clear hne
    go_enter Tryd.func15, Tryd.ntmps15
    go_wp2
    go_ret
    exact ⟨rfl, (Later.alloc W _).trans (Later.alloc _ _)⟩
  by_cases e2 : xs.length = ys.length
  case neg =>
    have f1 : ((vs.length : Int) == (vs2.length : Int)) = true := by rw [beq_iff_eq]; omega
    have f2 : ((xs.length : Int) == (ys.length : Int)) = false := by rw [beq_eq_false_iff_ne]; omega
    have HE1 := Lib.hid e2
    have g1 : (vs.length : Int) = (vs2.length : Int) := by omega
    have g2 : ¬ (xs.length : Int) = (ys.length : Int) := by omega
    have hne : eqE ⟨vs, xs, st, fl⟩ ⟨vs2, ys, st2, fl2⟩ = false := by unfold eqE; rw [decide_eq_false (fun h : xs = ys => HE1.out (by rw [h])), Bool.and_false]; rfl
    rw [hne]
    clear hne
    go_enter Tryd.func15, Tryd.ntmps15
    go_wp2
    go_ret
    exact ⟨rfl, (Later.alloc W _).trans (Later.alloc _ _)⟩
  by_cases e3 : st = st2
  case neg =>
    have f1 : ((vs.length : Int) == (vs2.length : Int)) = true := by rw [beq_iff_eq]; omega
    have f2 : ((xs.length : Int) == (ys.length : Int)) = true := by rw [beq_iff_eq]; omega
    have f3 : ((st : Int) == (st2 : Int)) = false := by rw [beq_eq_false_iff_ne]; omega
    have HE1 := Lib.hid e3
    have g1 : (vs.length : Int) = (vs2.length : Int) := by omega
    have g2 : (xs.length : Int) = (ys.length : Int) := by omega
    have g3 : ¬ (st : Int) = (st2 : Int) := by omega
    have hne : eqE ⟨vs, xs, st, fl⟩ ⟨vs2, ys, st2, fl2⟩ = false := by unfold eqE; rw [decide_eq_false HE1.out, Bool.and_false]; rfl
    rw [hne]
    clear hne
    go_enter Tryd.func15, Tryd.ntmps15
    go_wp2
    go_ret
    exact ⟨rfl, (Later.alloc W _).trans (Later.alloc _ _)⟩
  by_cases e4 : fl = fl2
  case neg =>
    have f1 : ((vs.length : Int) == (vs2.length : Int)) = true := by rw [beq_iff_eq]; omega
    have f2 : ((xs.length : Int) == (ys.length : Int)) = true := by rw [beq_iff_eq]; omega
    have f3 : ((st : Int) == (st2 : Int)) = true := by rw [beq_iff_eq]; omega
    have f4 : (fl == fl2) = false := by simpa using e4
    have HE1 := Lib.hid e4
    have g1 : (vs.length : Int) = (vs2.length : Int) := by omega
    have g2 : (xs.length : Int) = (ys.length : Int) := by omega
    have g3 : (st : Int) = (st2 : Int) := by omega
    have hne : eqE ⟨vs, xs, st, fl⟩ ⟨vs2, ys, st2, fl2⟩ = false := by unfold eqE; rw [decide_eq_false HE1.out, Bool.and_false]
    rw [hne]
    clear hne
    go_enter Tryd.func15, Tryd.ntmps15
    go_wp2
    go_ret
    exact ⟨rfl, (Later.alloc W _).trans (Later.alloc _ _)⟩
  subst e3 e4
  have f1 : ((vs.length : Int) == (vs2.length : Int)) = true := by rw [beq_iff_eq]; omega
  have f2 : ((xs.length : Int) == (ys.length : Int)) = true := by rw [beq_iff_eq]; omega
  have hq : eqE ⟨vs, xs, st, fl⟩ ⟨vs2, ys, st, fl⟩ = (decide (vs = vs2) && decide (xs = ys)) := by unfold eqE; simp
  rw [hq]
  have HE1 := Lib.hid e1
  have HE2 := Lib.hid e2
  have g1 : (vs.length : Int) = (vs2.length : Int) := by omega
  have g2 : (xs.length : Int) = (ys.length : Int) := by omega
  clear hq e1 e2
  go_enter Tryd.func15, Tryd.ntmps15
  go_wp2_with fail
  go_loopw [5] (fun s5 wr => ∃ i : Nat, s5 = .int .i64 (i : Int) ∧ i ≤ vs.length ∧ vs.take i = vs2.take i ∧ Later ((W.alloc (.cells #[.slice Av vs.length cv, .slice A xs.length c, .int .i64 (st : Int), .string (mkS fl)] 31)).alloc (.cells #[.slice Bv vs2.length cv2, .slice A2 ys.length c2, .int .i64 (st : Int), .string (mkS fl)] 31)) wr) (fun i _ => vs.length - (intOf i).toNat)
  case atStart => exact ⟨0, rfl, Nat.zero_le _, rfl, Later.refl _⟩
  case round =>
    obtain ⟨i, rfl, hi, htk, hlw⟩ := hrel
    have HTK := Lib.hid htk
    have hA := later_cells hlw HF.out.2.1
    have hB := later_cells hlw HF.out.2.2
    have HLW := Lib.hid hlw
    have a0 : wr.cell? ⟨W.heap.size, 0, none⟩ = some (.slice Av vs.length cv) := (cell_row hA 0).1
    have b0 : wr.cell? ⟨W.heap.size + 1, 0, none⟩ = some (.slice Bv vs2.length cv2) := (cell_row hB 0).1
    have hWr : Later W wr := HF.out.1.trans hlw
    clear hA hB hlw htk
    have hi0 : (0 : Int) ≤ (i : Int) := by omega
    by_cases hlt : i < vs.length
    · have hlt2 : i < vs2.length := by rw [← HE1.out]; exact hlt
      have hi1 : (i : Int) < (vs.length : Int) := by omega
      have hi2 : (i : Int) < (vs2.length : Int) := by omega
      obtain ⟨g, o, c', u1, hg, hcc⟩ := HV.out.at_ (by omega)
      injection u1 with u1 _ u2
      subst u1 u2
      obtain ⟨g2, o2, c2', u1, hg2, hcc2⟩ := HV2.out.at_ (by omega)
      injection u1 with u1 _ u2
      subst u1 u2
      obtain ⟨x, hx⟩ : ∃ x, x = vs[i] := ⟨_, rfl⟩
      obtain ⟨y, hy⟩ : ∃ y, y = vs2[i] := ⟨_, rfl⟩
      have p1 := (hWr.cell (p := ⟨g, o + i * 2, none⟩) hg).trans (hcc i hlt).1
      have p2 := (hWr.cell (p := ⟨g, o + i * 2 + 1, none⟩) hg).trans (hcc i hlt).2
      have q1 := (hWr.cell (p := ⟨g2, o2 + i * 2, none⟩) hg2).trans (hcc2 i hlt2).1
      have q2 := (hWr.cell (p := ⟨g2, o2 + i * 2 + 1, none⟩) hg2).trans (hcc2 i hlt2).2
      rw [← hx] at p1 p2
      rw [← hy] at q1 q2
      have HX := Lib.hid (And.intro hx hy)
      have HLT := Lib.hid (And.intro hlt hlt2)
      clear hcc hcc2 hx hy hWr hg hg2
      by_cases hxy : x = y
      · subst hxy
        go_wp2
        go_quiet (fail)
        go_wp2_with fail
        go_roundw
        case rel => exact ⟨i + 1, by go_num, by omega, take_eq hlt hlt2 HTK.out (by rw [← HX.out.1]; exact HX.out.2), HLW.out.trans ⟨rfl, rfl, rfl, Nat.le_refl _, fun _ _ => rfl⟩⟩
        case measure => simp [intOf]; omega
      · by_cases h1 : x.1 = y.1
        · have f5 : (x.1 == y.1) = true := by simpa using h1
          have f6 : (x.2 == y.2) = false := by
            have : x.2 ≠ y.2 := fun h2 => hxy (Prod.ext h1 h2)
            simpa using this
          clear h1
          have HNE := Lib.hid hxy
          clear hxy
          go_wp2
          go_quiet (fail)
          go_wp2_with fail
          go_ret
          have hne : vs ≠ vs2 := take_ne HLT.out.1 HLT.out.2 (by rw [← HX.out.1, ← HX.out.2]; exact HNE.out)
          exact ⟨by rw [decide_eq_false hne]; rfl, (HF.out.1.trans HLW.out).trans ⟨rfl, rfl, rfl, Nat.le_refl _, fun _ _ => rfl⟩⟩
        · have f5 : (x.1 == y.1) = false := by simpa using h1
          clear h1
          have HNE := Lib.hid hxy
          clear hxy
          go_wp2
          go_quiet (fail)
          go_wp2_with fail
          go_ret
          have hne : vs ≠ vs2 := take_ne HLT.out.1 HLT.out.2 (by rw [← HX.out.1, ← HX.out.2]; exact HNE.out)
          exact ⟨by rw [decide_eq_false hne]; rfl, (HF.out.1.trans HLW.out).trans ⟨rfl, rfl, rfl, Nat.le_refl _, fun _ _ => rfl⟩⟩
    · have HIN := Lib.hid (show i = vs.length by omega)
      have hvv : vs = vs2 := by
        have h := HTK.out
        rw [List.take_of_length_le (by have := HIN.out; omega), List.take_of_length_le (by have := HIN.out; have := HE1.out; omega)] at h
        exact h
      have HVV := Lib.hid hvv
      have hi1 : ¬ (i : Int) < (vs.length : Int) := by omega
      have hi2 : ¬ (i : Int) < (vs2.length : Int) := by omega
      clear hvv
      go_wp2_with fail
      go_loopw [6] (fun s6 wr => ∃ i : Nat, s6 = .int .i64 (i : Int) ∧ i ≤ xs.length ∧ xs.take i = ys.take i ∧ Later ((W.alloc (.cells #[.slice Av vs.length cv, .slice A xs.length c, .int .i64 (st : Int), .string (mkS fl)] 31)).alloc (.cells #[.slice Bv vs2.length cv2, .slice A2 ys.length c2, .int .i64 (st : Int), .string (mkS fl)] 31)) wr) (fun i _ => xs.length - (intOf i).toNat)
      case atStart => exact ⟨0, rfl, Nat.zero_le _, rfl, HLW.out⟩
      case round =>
        clear a0 b0 hWr
        obtain ⟨i, rfl, hi, htk, hlw⟩ := hrel
        have HTK := Lib.hid htk
        have hA := later_cells hlw HF.out.2.1
        have hB := later_cells hlw HF.out.2.2
        have HLW := Lib.hid hlw
        have a1 : wr.cell? ⟨W.heap.size, 1, none⟩ = some (.slice A xs.length c) := (cell_row hA 1).1
        have b1 : wr.cell? ⟨W.heap.size + 1, 1, none⟩ = some (.slice A2 ys.length c2) := (cell_row hB 1).1
        have hWr : Later W wr := HF.out.1.trans hlw
        clear hA hB hlw htk
        have hi0 : (0 : Int) ≤ (i : Int) := by omega
        by_cases hlt : i < xs.length
        · have hlt2 : i < ys.length := by rw [← HE2.out]; exact hlt
          have hi1 : (i : Int) < (xs.length : Int) := by omega
          have hi2 : (i : Int) < (ys.length : Int) := by omega
          obtain ⟨ad, hl1, rfl, hg, hcc⟩ := HA.out.at_map (k := i) hlt
          obtain ⟨ad2, hl2, rfl, hg2, hcc2⟩ := HA2.out.at_map (k := i) hlt2
          obtain ⟨x, hx⟩ : ∃ x, x = xs[i] := ⟨_, rfl⟩
          obtain ⟨y, hy⟩ : ∃ y, y = ys[i] := ⟨_, rfl⟩
          have p1 : wr.cell? (ad.add i) = some (.string (mkS x)) := (hWr.cell (p := ad.add i) (by rw [block_add]; exact hg)).trans (by rw [hx]; exact hcc)
          have q1 : wr.cell? (ad2.add i) = some (.string (mkS y)) := (hWr.cell (p := ad2.add i) (by rw [block_add]; exact hg2)).trans (by rw [hy]; exact hcc2)
          have HX := Lib.hid (And.intro hx hy)
          have HLT := Lib.hid (And.intro hlt hlt2)
          clear hcc hcc2 hx hy hWr hg hg2
          by_cases hxy : x = y
          · subst hxy
            go_wp2
            go_quiet (fail)
            go_wp2_with fail
            go_roundw
            case rel => exact ⟨i + 1, by go_num, by omega, take_eq hlt hlt2 HTK.out (by rw [← HX.out.1]; exact HX.out.2), HLW.out.trans ⟨rfl, rfl, rfl, Nat.le_refl _, fun _ _ => rfl⟩⟩
            case measure => simp [intOf]; omega
          · have f5 : (x == y) = false := by simpa using hxy
            have HNE := Lib.hid hxy
            clear hxy
            go_wp2
            go_quiet (fail)
            go_wp2_with fail
            go_ret
            have hne : xs ≠ ys := take_ne HLT.out.1 HLT.out.2 (by rw [← HX.out.1, ← HX.out.2]; exact HNE.out)
            exact ⟨by rw [decide_eq_false hne, Bool.and_false]; rfl, (HF.out.1.trans HLW.out).trans ⟨rfl, rfl, rfl, Nat.le_refl _, fun _ _ => rfl⟩⟩
        · have hxx : xs = ys := by
            have h := HTK.out
            have he := HE2.out
            rw [List.take_of_length_le (by omega), List.take_of_length_le (by omega)] at h
            exact h
          have hi1 : ¬ (i : Int) < (xs.length : Int) := by omega
          have hi2 : ¬ (i : Int) < (ys.length : Int) := by omega
          have HXX := Lib.hid hxx
          clear hxx
          go_wp2
          go_ret
          exact ⟨by rw [decide_eq_true HVV.out, decide_eq_true HXX.out]; rfl, HF.out.1.trans HLW.out⟩
end En
end Go.Proofs.YtmijploffdoenaaDoor
