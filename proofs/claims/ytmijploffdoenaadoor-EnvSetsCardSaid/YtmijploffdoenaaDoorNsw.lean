/- EnvSets: the walk of the statement's text. Behind Vd. -/
import Derived.Test.YtmijploffdoenaaDoorEh
import Derived.Deep.CutRange
namespace Go.Proofs.YtmijploffdoenaaDoor
open Go.RowKit Go.Maps
namespace envSets
open En
theorem load_env {w : World} {b : Nat} {c0 c1 c2 c3 : Value} {e : E} (h : Hold w b c0 c1 c2 c3 e) : (Instr.loadAt 28 (.pointer (some ⟨b, 0, none⟩))).run Tryd.prog w = .ok (.agg #[c0, c1, c2, c3]) w :=
  loadO_run _ _ _ _ h.1 Tryd.underlying28 rfl (by kernel_rfl)
set_option maxRecDepth 100000 in
set_option maxHeartbeats 25600000 in
theorem walkL (W : World) (hd : Vd W) (A : Option Addr) (n cc : Nat) (l : List Doing) (hl : RdD W W.heap.size A n l) (hnc : n ≤ cc) (hcm : cc ≤ 9223372036854775807) (s y o : B) (hs : s.length ≤ 9223372036854775807) (hy : y.length ≤ 9223372036854775807) (ho : o.length ≤ 9223372036854775807) : Calls Tryd.prog 4 #[.slice A n cc, .string (mkS s), .string (mkS y), .string (mkS o)] W fun x W' => x = .returned (.bool true) ∧ Later W W' := by
  have HAW := Lib.hid (awake_v W hd)
  have HFE := Lib.hid (fun W' (hl' : Later W W') => few_v A n cc l W' (hl.later hl') (by omega))
  have HD := Lib.hid hd
  have HRD := Lib.hid hl
  have hzs : ((mkS s).size : Int) = (s.length : Int) := by rw [mkS_size]
  have hzo : ((mkS o).size : Int) = (o.length : Int) := by rw [mkS_size]
  have hnl : l.length = n := hl.len
  have HNL := Lib.hid hnl
  have htl : ∀ l : B, (mkS l).toList = l := toList_mkS
  clear hd hl hnl
  go_enter Tryd.func4, Tryd.ntmps4
  go_wp2_with fail
  go_at_call 6
  with_reducible refine HAW.out.mono ?_
  rintro x wa ⟨rfl, hla⟩
  have HLA := Lib.hid hla
  clear hla
  go_wp2_with fail
  go_at_call 7
  with_reducible refine (HFE.out _ HLA.out).mono ?_
  rintro x wb ⟨rfl, hlb⟩
  have HLB := Lib.hid (HLA.out.trans hlb)
  clear hlb
  obtain ⟨fb, hfb⟩ : ∃ fb, fb = fewB l := ⟨_, rfl⟩
  rw [← hfb]
  cases fb with
  | false =>
    go_wp2
    all_goals (
      go_ret
      exact ⟨rfl, HLB.out⟩)
  | true =>
    have HFW := Lib.hid (few_at hfb.symm)
    clear hfb
    by_cases g1 : (60 : Int) < (s.length : Int)
    · go_wp2
      go_ret
      exact ⟨rfl, HLB.out⟩
    by_cases g2 : (60 : Int) < (o.length : Int)
    · go_wp2
      go_ret
      exact ⟨rfl, HLB.out⟩
    have hs60 : s.length ≤ 60 := by omega
    have ho60 : o.length ≤ 60 := by omega
    have HSO := Lib.hid (And.intro hs60 ho60)
    have hn60 : n ≤ 60 := by rw [← HNL.out]; exact HFW.out.1
    go_wp2_with fail
    obtain ⟨wc, hwc⟩ : ∃ wc, wc = wb.alloc (.cells #[.slice none 0 0, .slice none 0 0, .int .i64 0, .string ⟨#[]⟩] 28) := ⟨_, rfl⟩
    have HH0 := Lib.hid (show Hold wc wb.heap.size (.slice none 0 0) (.slice none 0 0) (.int .i64 0) (.string ⟨#[]⟩) (sets (l.take 0)) by
      rw [hwc, List.take_zero]
      exact Hold.new (RdE.zero wb))
    have HLC := Lib.hid (show Later W wc by rw [hwc]; exact HLB.out.trans (Later.alloc _ _))
    have HBW := Lib.hid HLB.out.size
    rw [← hwc]
    obtain ⟨b, hb⟩ : ∃ b, b = wb.heap.size := ⟨_, rfl⟩
    rw [← hb] at HH0 HBW ⊢
    clear hwc hb hs60 ho60
    go_loopw [12] (fun s12 wr => ∃ (i : Nat) (c0 c1 c2 c3 : Value), s12 = .int .i64 (i : Int) ∧ i ≤ n ∧ Hold wr b c0 c1 c2 c3 (sets (l.take i)) ∧ Later W wr) (fun i _ => n - (intOf i).toNat)
    case atStart => exact ⟨0, _, _, _, _, rfl, Nat.zero_le _, HH0.out, HLC.out⟩
    case round =>
      obtain ⟨i, c0', c1', c2', c3', rfl, hi, hho, hlw⟩ := hrel
      obtain ⟨ei, hei⟩ : ∃ ei, ei = sets (l.take i) := ⟨_, rfl⟩
      rw [← hei] at hho
      have HEI := Lib.hid hei
      have HHO := Lib.hid hho
      have HLW := Lib.hid hlw
      have hi0 : (0 : Int) ≤ (i : Int) := by omega
      clear hho hlw hei
      by_cases hlt : i < n
      · have hi1 : (i : Int) < (n : Int) := by omega
        have hil : i < l.length := by rw [HNL.out]; exact hlt
        obtain ⟨ad, rfl, hbl, hdo⟩ := HRD.out.at_ i hil
        obtain ⟨x, hx⟩ : ∃ x, x = l[i] := ⟨_, rfl⟩
        rw [← hx] at hdo
        have HST := Lib.hid (show sets (l.take (i + 1)) = set nm ei x.name x.value by rw [List.take_succ_eq_append_getElem hil, sets_snoc, HEI.out, hx])
        have HXL := Lib.hid (show x.name.length ≤ 30 ∧ x.value.length ≤ 60 from HFW.out.2 x (by rw [hx]; exact List.getElem_mem hil))
        have hok := sets_ok (l.take i)
        rw [← HEI.out] at hok
        have htl2 : (l.take i).length ≤ 60 := by rw [List.length_take]; omega
        have HSET := Lib.hid (set_v (.agg #[c0', c1', c2', c3']) ei x.name x.value wr.drew (HHO.out.2.later (Later.drew wr)) hok.1 (by omega) (by rw [hok.2.2.1]; decide) (by have := HXL.out; omega))
        obtain ⟨C0, hC0⟩ : ∃ C0 : Nat → Value → World → Prop, C0 = fun j u w => (j = 0 ∧ w = wr.drew) ∨ (j = 1 ∧ (∃ d0 d1 d2 d3, u = .agg #[d0, d1, d2, d3]) ∧ FrE wr.drew.heap.size w u (set nm ei x.name x.value) ∧ Later wr.drew w) ∨ (j = 2 ∧ ∃ d0 d1 d2 d3, Hold w b d0 d1 d2 d3 (set nm ei x.name x.value) ∧ Later W w) := ⟨_, rfl⟩
        have HA := Lib.hid (show ∀ u w, C0 0 u w → w = wr.drew from fun u w hc => by
          rw [hC0] at hc
          rcases hc with ⟨_, e⟩ | ⟨e, _⟩ | ⟨e, _⟩
          · exact e
          · cases e
          · cases e)
        have HLT := Lib.hid (show ∀ j u w, C0 j u w → j ≤ 0 → w = wr.drew from fun j u w hc hj => HA.out u w (by rwa [show j = 0 by omega] at hc))
        have HLDE := Lib.hid (show ∀ j u w, C0 j u w → j ≤ 0 → (Instr.loadAt 28 (.pointer (some ⟨b, 0, none⟩))).run Tryd.prog w = .ok (.agg #[c0', c1', c2', c3']) w from fun j u w hc hj => by
          rw [HLT.out j u w hc hj]
          exact load_env (HHO.out.later (Later.drew wr)))
        have hdo2 := hdo.keep (w' := wr.drew) (B := W.heap.size) (by rw [block_add]; exact hbl) fun p hp => (HLW.out.trans (Later.drew wr)).cell hp
        have HN1 := Lib.hid (show ∀ j u w, C0 j u w → j ≤ 0 → w.cell? ⟨(ad.add (i * 5)).block, (ad.add (i * 5)).off + 1, none⟩ = some (.string (mkS x.name)) from fun j u w hc hj => by
          rw [HLT.out j u w hc hj]; exact hdo2.c1)
        have HN2 := Lib.hid (show ∀ j u w, C0 j u w → j ≤ 0 → w.cell? ⟨(ad.add (i * 5)).block, (ad.add (i * 5)).off + 2, none⟩ = some (.string (mkS x.value)) from fun j u w hc hj => by
          rw [HLT.out j u w hc hj]; exact hdo2.c2)
        have H0 := Lib.hid (show C0 0 undef wr.drew by rw [hC0]; exact .inl ⟨rfl, rfl⟩)
        have H1 := Lib.hid (show ∀ e w', En.Told wr.drew w' e (set nm ei x.name x.value) → ∃ v, e = .returned v ∧ C0 1 v w' from fun e w' ht => by
          obtain ⟨⟨v, rfl, hf⟩, hl⟩ := ht
          obtain ⟨A5, c5, A4, c4, rfl⟩ := hf.rd.shape
          exact ⟨_, rfl, by rw [hC0]; exact .inr (.inl ⟨rfl, ⟨_, _, _, _, rfl⟩, hf, hl⟩)⟩)
        have HU := Lib.hid (show ∀ u w, C0 1 u w → ∃ A5 n5 c5 A4 n4 c4 st fl, u = .agg #[.slice A5 n5 c5, .slice A4 n4 c4, .int .i64 st, .string fl] ∧ Hold w b c0' c1' c2' c3' ei from fun u w hc => by
          rw [hC0] at hc
          rcases hc with ⟨e, _⟩ | ⟨_, _, hf, hl⟩ | ⟨e, _⟩
          · cases e
          · obtain ⟨A5, c5, A4, c4, rfl⟩ := hf.rd.shape
            exact ⟨_, _, _, _, _, _, _, _, rfl, HHO.out.later ((Later.drew wr).trans hl)⟩
          · cases e)
        have H3 := Lib.hid (show ∀ d0 d1 d2 d3 w, C0 1 (.agg #[d0, d1, d2, d3]) w → C0 2 undef ((((w.setCell ⟨b, 0, none⟩ d0).setCell ⟨b, 1, none⟩ d1).setCell ⟨b, 2, none⟩ d2).setCell ⟨b, 3, none⟩ d3) from fun d0 d1 d2 d3 w hc => by
          rw [hC0] at hc
          rcases hc with ⟨e, _⟩ | ⟨_, _, hf, hl⟩ | ⟨e, _⟩
          · cases e
          · obtain ⟨w9, hw9, hh, hg⟩ := (HHO.out.later ((Later.drew wr).trans hl)).put hf HHO.out.lt
            rw [← hw9, hC0]
            exact .inr (.inr ⟨rfl, d0, d1, d2, d3, hh, later_of_new (HLW.out.trans ((Later.drew wr).trans hl)) hg HBW.out⟩)
          · cases e)
        have HF := Lib.hid (show ∀ u w, C0 2 u w → ∃ d0 d1 d2 d3, Hold w b d0 d1 d2 d3 (sets (l.take (i + 1))) ∧ Later W w from fun u w hc => by
          rw [hC0] at hc
          rw [HST.out]
          rcases hc with ⟨e, _⟩ | ⟨e, _⟩ | ⟨_, e⟩
          · cases e
          · cases e
          · exact e)
        clear hC0 hdo hdo2 hbl hx hil hok htl2
        go_wp2_with fail
        refine wp_region_seq (by kernel_rfl) [11, 12] (C0) [some (.agg #[c0', c1', c2', c3']), some (.slice (some ad) n cc), some (.int .i64 (i : Int)), some (.pointer (some (ad.add (i * 5)))), some (.pointer (some ⟨(ad.add (i * 5)).block, (ad.add (i * 5)).off + 1, none⟩)), some (.string (mkS x.name)), some (.slice (some ad) n cc), some (.int .i64 (i : Int)), some (.pointer (some (ad.add (i * 5)))), some (.pointer (some ⟨(ad.add (i * 5)).block, (ad.add (i * 5)).off + 2, none⟩)), some (.string (mkS x.value)), none, none] (by decide) (by decide) (by kernel_rfl) (by kernel_rfl) (H0.out) ?_ ?_
        · refine ⟨?_, ?_, ?_, ?_, ?_, ?_, ?_, ?_, ?_, ?_, ?_, ?_, ?_, trivial⟩
          · -- 0: slot 54 := Op.load 28 t11
            refine OwesS.q rfl fun a w j u hC hb hs => ⟨rfl, ?_⟩
            have e11 : a.tmps.getD 11 undef = .pointer (some ⟨b, 0, none⟩) := hs.free 11 rfl
            have hj := hb 0 11 rfl rfl
            exact ValWp.loadR rfl e11 (HLDE.out j u w hC hj) ⟨rfl, rfl⟩
          · -- 1: slot 55 := Op.move t0
            refine OwesS.q rfl fun a w j u hC hb hs => ⟨rfl, ?_⟩
            have e0 : a.tmps.getD 0 undef = .slice (some ad) n cc := hs.free 0 rfl
            refine ValWp.pure (v := .slice (some ad) n cc) (fun K' hK' => ?_) ⟨rfl, rfl⟩
            simp only [ValWp, execOp, Act.eval, e0]
            go_simp
            all_goals exact hK'
          · -- 2: slot 56 := Op.move t12
            refine OwesS.q rfl fun a w j u hC hb hs => ⟨rfl, ?_⟩
            have e12 : a.tmps.getD 12 undef = .int .i64 (i : Int) := hs.free 12 rfl
            refine ValWp.pure (v := .int .i64 (i : Int)) (fun K' hK' => ?_) ⟨rfl, rfl⟩
            simp only [ValWp, execOp, Act.eval, e12]
            go_simp
            all_goals exact hK'
          · -- 3: slot 57 := Op.indexAddr 22 t55 t56
            refine OwesS.q rfl fun a w j u hC hb hs => ⟨rfl, ?_⟩
            have e55 : a.tmps.getD 55 undef = .slice (some ad) n cc := hs.dep 1 _ rfl rfl
            have e56 : a.tmps.getD 56 undef = .int .i64 (i : Int) := hs.dep 2 _ rfl rfl
            refine ValWp.pure (v := .pointer (some (ad.add (i * 5)))) (fun K' hK' => ?_) ⟨rfl, rfl⟩
            simp only [ValWp, execOp, Act.eval, e55, e56]
            go_simp
            all_goals exact hK'
          · -- 4: slot 58 := Op.fieldAddr 33 t57 1
            refine OwesS.q rfl fun a w j u hC hb hs => ⟨rfl, ?_⟩
            have e57 : a.tmps.getD 57 undef = .pointer (some (ad.add (i * 5))) := hs.dep 3 _ rfl rfl
            refine ValWp.pure (v := .pointer (some ⟨(ad.add (i * 5)).block, (ad.add (i * 5)).off + 1, none⟩)) (fun K' hK' => ?_) ⟨rfl, rfl⟩
            simp only [ValWp, execOp, Act.eval, e57]
            go_simp
            all_goals exact hK'
          · -- 5: slot 59 := Op.load 9 t58
            refine OwesS.q rfl fun a w j u hC hb hs => ⟨rfl, ?_⟩
            have e58 : a.tmps.getD 58 undef = .pointer (some ⟨(ad.add (i * 5)).block, (ad.add (i * 5)).off + 1, none⟩) := hs.dep 4 _ rfl rfl
            have hj := hb 0 11 rfl rfl
            have q0 := HN1.out j u w hC hj
            refine ValWp.pure (v := .string (mkS x.name)) (fun K' hK' => ?_) ⟨rfl, rfl⟩
            simp only [ValWp, execOp, Act.eval, e58]
            go_simp
            all_goals exact hK'
          · -- 6: slot 60 := Op.move t0
            refine OwesS.q rfl fun a w j u hC hb hs => ⟨rfl, ?_⟩
            have e0 : a.tmps.getD 0 undef = .slice (some ad) n cc := hs.free 0 rfl
            refine ValWp.pure (v := .slice (some ad) n cc) (fun K' hK' => ?_) ⟨rfl, rfl⟩
            simp only [ValWp, execOp, Act.eval, e0]
            go_simp
            all_goals exact hK'
          · -- 7: slot 61 := Op.move t12
            refine OwesS.q rfl fun a w j u hC hb hs => ⟨rfl, ?_⟩
            have e12 : a.tmps.getD 12 undef = .int .i64 (i : Int) := hs.free 12 rfl
            refine ValWp.pure (v := .int .i64 (i : Int)) (fun K' hK' => ?_) ⟨rfl, rfl⟩
            simp only [ValWp, execOp, Act.eval, e12]
            go_simp
            all_goals exact hK'
          · -- 8: slot 62 := Op.indexAddr 22 t60 t61
            refine OwesS.q rfl fun a w j u hC hb hs => ⟨rfl, ?_⟩
            have e60 : a.tmps.getD 60 undef = .slice (some ad) n cc := hs.dep 6 _ rfl rfl
            have e61 : a.tmps.getD 61 undef = .int .i64 (i : Int) := hs.dep 7 _ rfl rfl
            refine ValWp.pure (v := .pointer (some (ad.add (i * 5)))) (fun K' hK' => ?_) ⟨rfl, rfl⟩
            simp only [ValWp, execOp, Act.eval, e60, e61]
            go_simp
            all_goals exact hK'
          · -- 9: slot 63 := Op.fieldAddr 33 t62 2
            refine OwesS.q rfl fun a w j u hC hb hs => ⟨rfl, ?_⟩
            have e62 : a.tmps.getD 62 undef = .pointer (some (ad.add (i * 5))) := hs.dep 8 _ rfl rfl
            refine ValWp.pure (v := .pointer (some ⟨(ad.add (i * 5)).block, (ad.add (i * 5)).off + 2, none⟩)) (fun K' hK' => ?_) ⟨rfl, rfl⟩
            simp only [ValWp, execOp, Act.eval, e62]
            go_simp
            all_goals exact hK'
          · -- 10: slot 64 := Op.load 9 t63
            refine OwesS.q rfl fun a w j u hC hb hs => ⟨rfl, ?_⟩
            have e63 : a.tmps.getD 63 undef = .pointer (some ⟨(ad.add (i * 5)).block, (ad.add (i * 5)).off + 2, none⟩) := hs.dep 9 _ rfl rfl
            have hj := hb 0 11 rfl rfl
            have q0 := HN2.out j u w hC hj
            refine ValWp.pure (v := .string (mkS x.value)) (fun K' hK' => ?_) ⟨rfl, rfl⟩
            simp only [ValWp, execOp, Act.eval, e63]
            go_simp
            all_goals exact hK'
          · -- 11: slot 65 := Op.call { value (Operand.func 8), args := #[t54, t59, t64], argTypes := #[28, 9, 9] }
            refine OwesS.w rfl fun a w u hC hl hs => ⟨rfl, fun K hK => ?_⟩
            have e54 : a.tmps.getD 54 undef = .agg #[c0', c1', c2', c3'] := hs.dep 0 _ rfl rfl
            have e59 : a.tmps.getD 59 undef = .string (mkS x.name) := hs.dep 5 _ rfl rfl
            have e64 : a.tmps.getD 64 undef = .string (mkS x.value) := hs.dep 10 _ rfl rfl
            have hw := HA.out u w hC
            subst hw
            refine wp_of_val ?_
            refine ValWp.call #[.agg #[c0', c1', c2', c3'], .string (mkS x.name), .string (mkS x.value)] rfl rfl Tryd.func8 rfl rfl (by simp only [List.map_toArray, List.map_cons, List.map_nil, Act.eval, e54, e59, e64]) ?_
            refine HSET.out.mono ?_
            rintro e w' ht
            obtain ⟨v, he, hc1⟩ := H1.out e w' ht
            exact ⟨v, he, hK v w' trivial hc1⟩
          · -- 12: slot None := Op.store 28 t11 t65
            refine OwesS.w rfl fun a w u hC hl hs => ⟨rfl, fun K hK => ?_⟩
            have e11 : a.tmps.getD 11 undef = .pointer (some ⟨b, 0, none⟩) := hs.free 11 rfl
            have e65 : a.tmps.getD 65 undef = u := hl
            obtain ⟨A5, n5, c5, A4, n4, c4, st9, fl9, hu, hold⟩ := HU.out u w hC
            subst hu
            refine wp_of_val ?_
            obtain ⟨q0, q1, q2, q3⟩ := hold.c
            have qz := hold.z
            refine ValWp.pure (v := undef) (w' := (((w.setCell ⟨b, 0, none⟩ (.slice A5 n5 c5)).setCell ⟨b, 1, none⟩ (.slice A4 n4 c4)).setCell ⟨b, 2, none⟩ (.int .i64 st9)).setCell ⟨b, 3, none⟩ (.string fl9)) (fun K' hK' => ?_) (hK _ _ trivial (H3.out _ _ _ _ w hC))
            simp only [ValWp, execOp, Act.eval, e11, e65]
            go_simp
            all_goals exact hK'
        · intro a w u hC hl hd hsz hfree hs
          obtain ⟨u54, hu54⟩ : ∃ u, u = a.tmps.getD 54 undef := ⟨_, rfl⟩
          obtain ⟨u55, hu55⟩ : ∃ u, u = a.tmps.getD 55 undef := ⟨_, rfl⟩
          obtain ⟨u56, hu56⟩ : ∃ u, u = a.tmps.getD 56 undef := ⟨_, rfl⟩
          obtain ⟨u57, hu57⟩ : ∃ u, u = a.tmps.getD 57 undef := ⟨_, rfl⟩
          obtain ⟨u58, hu58⟩ : ∃ u, u = a.tmps.getD 58 undef := ⟨_, rfl⟩
          obtain ⟨u59, hu59⟩ : ∃ u, u = a.tmps.getD 59 undef := ⟨_, rfl⟩
          obtain ⟨u60, hu60⟩ : ∃ u, u = a.tmps.getD 60 undef := ⟨_, rfl⟩
          obtain ⟨u61, hu61⟩ : ∃ u, u = a.tmps.getD 61 undef := ⟨_, rfl⟩
          obtain ⟨u62, hu62⟩ : ∃ u, u = a.tmps.getD 62 undef := ⟨_, rfl⟩
          obtain ⟨u63, hu63⟩ : ∃ u, u = a.tmps.getD 63 undef := ⟨_, rfl⟩
          obtain ⟨u64, hu64⟩ : ∃ u, u = a.tmps.getD 64 undef := ⟨_, rfl⟩
          obtain ⟨u65, hu65⟩ : ∃ u, u = a.tmps.getD 65 undef := ⟨_, rfl⟩
          have hal : AllAt a 0 [_, _, _, _, _, _, _, _, _, _, _, _, _, _, _, _, _, _, _, _, _, _, _, _, _, _, _, _, _, _, _, _, _, _, _, _, _, _, _, _, _, _, _, _, _, _, _, _, _, _, _, _, _, _, u54, u55, u56, u57, u58, u59, u60, u61, u62, u63, u64, u65, _, _, _, _, _, _, _, _, _, _, _, _, _, _, _, _, _, _, _, _, _, _, _, _, _, _, _, _, _, _, _, _, _, _, _, _, _, _, _, _, _, _, _, _, _, _, _, _, _, _, _, _, _, _, _, _, _, _, _, _, _, _, _, _, _, _, _, _, _, _, _, _, _, _, _, _, _, _, _, _, _, _, _, _, _, _, _, _, _, _, _, _, _, _, _, _, _, _, _, _, _, _, _, _, _, _, _, _, _, _, _, _, _, _, _, _, _, _, _, _, _, _, _, _, _, _, _, _, _, _, _, _, _, _, _, _, _, _, _, _, _, _, _, _, _, _, _, _, _] := ⟨hfree 0 rfl, hfree 1 rfl, hfree 2 rfl, hfree 3 rfl, hfree 4 rfl, hfree 5 rfl, hfree 6 rfl, hfree 7 rfl, hfree 8 rfl, hfree 9 rfl, hfree 10 rfl, hfree 11 rfl, hfree 12 rfl, hfree 13 rfl, hfree 14 rfl, hfree 15 rfl, hfree 16 rfl, hfree 17 rfl, hfree 18 rfl, hfree 19 rfl, hfree 20 rfl, hfree 21 rfl, hfree 22 rfl, hfree 23 rfl, hfree 24 rfl, hfree 25 rfl, hfree 26 rfl, hfree 27 rfl, hfree 28 rfl, hfree 29 rfl, hfree 30 rfl, hfree 31 rfl, hfree 32 rfl, hfree 33 rfl, hfree 34 rfl, hfree 35 rfl, hfree 36 rfl, hfree 37 rfl, hfree 38 rfl, hfree 39 rfl, hfree 40 rfl, hfree 41 rfl, hfree 42 rfl, hfree 43 rfl, hfree 44 rfl, hfree 45 rfl, hfree 46 rfl, hfree 47 rfl, hfree 48 rfl, hfree 49 rfl, hfree 50 rfl, hfree 51 rfl, hfree 52 rfl, hfree 53 rfl, hu54.symm, hu55.symm, hu56.symm, hu57.symm, hu58.symm, hu59.symm, hu60.symm, hu61.symm, hu62.symm, hu63.symm, hu64.symm, hu65.symm, hfree 66 rfl, hfree 67 rfl, hfree 68 rfl, hfree 69 rfl, hfree 70 rfl, hfree 71 rfl, hfree 72 rfl, hfree 73 rfl, hfree 74 rfl, hfree 75 rfl, hfree 76 rfl, hfree 77 rfl, hfree 78 rfl, hfree 79 rfl, hfree 80 rfl, hfree 81 rfl, hfree 82 rfl, hfree 83 rfl, hfree 84 rfl, hfree 85 rfl, hfree 86 rfl, hfree 87 rfl, hfree 88 rfl, hfree 89 rfl, hfree 90 rfl, hfree 91 rfl, hfree 92 rfl, hfree 93 rfl, hfree 94 rfl, hfree 95 rfl, hfree 96 rfl, hfree 97 rfl, hfree 98 rfl, hfree 99 rfl, hfree 100 rfl, hfree 101 rfl, hfree 102 rfl, hfree 103 rfl, hfree 104 rfl, hfree 105 rfl, hfree 106 rfl, hfree 107 rfl, hfree 108 rfl, hfree 109 rfl, hfree 110 rfl, hfree 111 rfl, hfree 112 rfl, hfree 113 rfl, hfree 114 rfl, hfree 115 rfl, hfree 116 rfl, hfree 117 rfl, hfree 118 rfl, hfree 119 rfl, hfree 120 rfl, hfree 121 rfl, hfree 122 rfl, hfree 123 rfl, hfree 124 rfl, hfree 125 rfl, hfree 126 rfl, hfree 127 rfl, hfree 128 rfl, hfree 129 rfl, hfree 130 rfl, hfree 131 rfl, hfree 132 rfl, hfree 133 rfl, hfree 134 rfl, hfree 135 rfl, hfree 136 rfl, hfree 137 rfl, hfree 138 rfl, hfree 139 rfl, hfree 140 rfl, hfree 141 rfl, hfree 142 rfl, hfree 143 rfl, hfree 144 rfl, hfree 145 rfl, hfree 146 rfl, hfree 147 rfl, hfree 148 rfl, hfree 149 rfl, hfree 150 rfl, hfree 151 rfl, hfree 152 rfl, hfree 153 rfl, hfree 154 rfl, hfree 155 rfl, hfree 156 rfl, hfree 157 rfl, hfree 158 rfl, hfree 159 rfl, hfree 160 rfl, hfree 161 rfl, hfree 162 rfl, hfree 163 rfl, hfree 164 rfl, hfree 165 rfl, hfree 166 rfl, hfree 167 rfl, hfree 168 rfl, hfree 169 rfl, hfree 170 rfl, hfree 171 rfl, hfree 172 rfl, hfree 173 rfl, hfree 174 rfl, hfree 175 rfl, hfree 176 rfl, hfree 177 rfl, hfree 178 rfl, hfree 179 rfl, hfree 180 rfl, hfree 181 rfl, hfree 182 rfl, hfree 183 rfl, hfree 184 rfl, hfree 185 rfl, hfree 186 rfl, hfree 187 rfl, hfree 188 rfl, hfree 189 rfl, hfree 190 rfl, hfree 191 rfl, hfree 192 rfl, hfree 193 rfl, hfree 194 rfl, hfree 195 rfl, hfree 196 rfl, hfree 197 rfl, hfree 198 rfl, hfree 199 rfl, hfree 200 rfl, hfree 201 rfl, hfree 202 rfl, hfree 203 rfl, hfree 204 rfl, hfree 205 rfl, hfree 206 rfl, hfree 207 rfl, hfree 208 rfl, hfree 209 rfl, hfree 210 rfl, hfree 211 rfl, hfree 212 rfl, hfree 213 rfl, hfree 214 rfl, trivial⟩
          have hlit := fun h => act_lit hd h hal
          rw [hlit hsz]
          simp only [Array.getD_eq_getD_getElem?, List.getElem?_toArray, List.getElem?_cons_zero, List.getElem?_cons_succ, Option.getD_some]
          clear hlit hal hd hsz hfree hs hu54 hu55 hu56 hu57 hu58 hu59 hu60 hu61 hu62 hu63 hu64 hu65
          obtain ⟨d0, d1, d2, d3, hh, hlw⟩ := HF.out u w hC
          have HH9 := Lib.hid (And.intro hh hlw)
          clear hh hlw hC hl
          go_wp2
          go_roundw
          case rel => exact ⟨i + 1, d0, d1, d2, d3, by go_num, by omega, HH9.out.1, HH9.out.2⟩
          case measure => simp [intOf]; omega
      · have hin : i = n := by omega
        have hok := sets_ok l
        have hvl := sets_vle l (k := 60) (fun x hx => (HFW.out.2 x hx).2)
        have hfull : ei = sets l := by rw [HEI.out, hin, ← HNL.out, List.take_length]
        rw [← hfull] at hok hvl
        have hsm0 : Small ei := ⟨by rw [hok.2.2.1]; decide, (by rw [hok.2.2.1]; intro x hx; cases hx), by rw [hok.2.2.2.1]; decide, by have := hvl.ifs; omega⟩
        obtain ⟨fE, hfE⟩ : ∃ fE, fE = En.set nm ei s y := ⟨_, rfl⟩
        obtain ⟨gE, hgE⟩ : ∃ gE, gE = unsetE fE s := ⟨_, rfl⟩
        obtain ⟨nE, hnE⟩ : ∃ nE, nE = En.set nm ei [97] [98] := ⟨_, rfl⟩
        have hvl0 : ei.vars.length ≤ 60 := by have := HFW.out.1; omega
        have hfr : Rises fE.vars := by rw [hfE]; exact set_rises hok.1 s y
        have hfa : fE.args = [] := by rw [hfE, set_args]; exact hok.2.2.1
        have hfl : fE.vars.length ≤ 61 := by rw [hfE]; have := set_len_le ei s y; omega
        have hfif : (ifs fE.vars).length ≤ 9223372036854775807 := by
          have h1 : Vle fE.vars (max 60 y.length) := by
            rw [hfE]
            exact Vle.set (fun q hq => Nat.le_trans (hvl q hq) (Nat.le_max_left _ _)) (Nat.le_max_right _ _)
          have := h1.ifs
          omega
        have hsm1 : Small fE := ⟨by rw [hfa]; decide, (by rw [hfa]; intro x hx; cases hx), by rw [hfE, (set_status _ _ _).1, hok.2.2.2.1]; decide, hfif⟩
        have hsm2 : Small gE := ⟨by rw [hgE]; exact hsm1.args, by rw [hgE]; exact hsm1.each, by rw [hgE]; exact hsm1.status, by
          have h1 : Vle gE.vars (max 60 y.length) := by
            rw [hgE]
            refine Vle.unset ?_ s
            rw [hfE]
            exact Vle.set (fun q hq => Nat.le_trans (hvl q hq) (Nat.le_max_left _ _)) (Nat.le_max_right _ _)
          have := h1.ifs
          omega⟩
        have hsm3 : Small nE := ⟨by rw [hnE, set_args]; exact hsm0.args, by rw [hnE, set_args]; exact hsm0.each, by rw [hnE, (set_status _ _ _).1]; exact hsm0.status, by
          have h1 : Vle nE.vars 60 := by rw [hnE]; exact Vle.set hvl (by decide)
          have := h1.ifs
          omega⟩
        obtain ⟨t0, b0, hg0, hq0⟩ := getOk hsm0 (s := o) (by have := HSO.out; omega)
        obtain ⟨t1, b1, hg1, hq1⟩ := getOk hsm1 (s := s) (by have := HSO.out; omega)
        obtain ⟨t2, b2, hg2, hq2⟩ := getOk hsm1 (s := o) (by have := HSO.out; omega)
        obtain ⟨t3, b3, hg3, hq3⟩ := getOk hsm2 (s := s) (by have := HSO.out; omega)
        have hg4 : GetOk nE [97] [98] true := GetOk.of hsm3 (by decide) (by rw [hnE]; exact get_set_self _ (by decide))
        have HG0 := Lib.hid hg0
        have HG1 := Lib.hid hg1
        have HG2 := Lib.hid hg2
        have HG3 := Lib.hid hg3
        have HG4 := Lib.hid (show ∀ w v, RdE w v nE → Vd w → Calls Tryd.prog 20 #[v, .string ⟨#[97]⟩] w fun x w' => x = .returned (.tuple #[.string (mkS [98]), .bool true]) ∧ Later w w' from hg4)
        have HSF := Lib.hid (show ∀ w v, RdE w v ei → Calls Tryd.prog 8 #[v, .string (mkS s), .string (mkS y)] w fun x w' => En.Told w w' x fE from fun w v h => by
          rw [hfE]
          exact set_v v ei s y w h hok.1 (by omega) (by rw [hok.2.2.1]; decide) (by have := HSO.out; omega))
        have HSN := Lib.hid (show ∀ w v, RdE w v ei → Calls Tryd.prog 8 #[v, .string ⟨#[97]⟩, .string ⟨#[98]⟩] w fun x w' => En.Told w w' x nE from fun w v h => by
          rw [hnE]
          exact set_v v ei [97] [98] w h hok.1 (by omega) (by rw [hok.2.2.1]; decide) (by decide))
        have HUF := Lib.hid (show ∀ w v, RdE w v fE → Calls Tryd.prog 10 #[v, .string (mkS s)] w fun x w' => En.Told w w' x gE from fun w v h => by
          rw [hgE]
          exact unset_v v fE s w h hfr (by omega) (by rw [hfa]; decide))
        -- what the law asks
        have HQ := Lib.hid (And.intro hq0 (And.intro hq1 (And.intro hq2 hq3)))
        have HE := Lib.hid (And.intro hfE (And.intro hgE hnE))
        have HFR := Lib.hid hfr
        obtain ⟨mf, hmf⟩ : ∃ mf, mf = fE.vars.length := ⟨_, rfl⟩
        obtain ⟨mg, hmg⟩ : ∃ mg, mg = gE.vars.length := ⟨_, rfl⟩
        have hmf61 : mf ≤ 61 := by omega
        have HM := Lib.hid (And.intro hmf hmg)
        clear hok hvl hfull hsm0 hsm1 hsm2 hsm3 hg0 hg1 hg2 hg3 hg4 hq0 hq1 hq2 hq3 hfE hgE hnE hvl0 hfr hfa hfl hfif hmf hmg
        obtain ⟨p0, p1, p2, p3⟩ := HHO.out.c
        go_wp2_with fail
        go_at_call 20
        with_reducible refine (HG0.out _ _ HHO.out.2 (HD.out.later HLW.out)).mono ?_
        rintro x w1 ⟨rfl, hl1⟩
        have HL1 := Lib.hid (HLW.out.trans hl1)
        have HO1 := Lib.hid (HHO.out.later hl1)
        clear hl1 p0 p1 p2 p3
        obtain ⟨p0, p1, p2, p3⟩ := HO1.out.c
        go_wp2_with fail
        go_at_call 8
        with_reducible refine (HSF.out _ _ HO1.out.2).mono ?_
        rintro x w2 ⟨⟨v, rfl, hf2⟩, hl2⟩
        obtain ⟨A5, c5, A4, c4, rfl, w3, hw3, hho3, hl3⟩ := told_new hf2
        obtain ⟨bf, hbf⟩ : ∃ bf, bf = w2.heap.size := ⟨_, rfl⟩
        have HO3 := Lib.hid (HO1.out.later (hl2.trans hl3))
        have HL3 := Lib.hid (HL1.out.trans (hl2.trans hl3))
        rw [← HM.out.1] at hw3 hho3 ⊢
        rw [← hbf] at hho3
        have HF3 := Lib.hid hho3
        have HW3 := Lib.hid (And.intro hw3 hbf)
        clear hf2 hl2 hw3 hho3 hl3 hbf p0 p1 p2 p3
        go_wp2_with fail
        rw [← HW3.out.1, ← HW3.out.2]
        obtain ⟨p0, p1, p2, p3⟩ := HF3.out.c
        go_wp2_with fail
        go_at_call 20
        with_reducible refine (HG1.out _ _ HF3.out.2 (HD.out.later HL3.out)).mono ?_
        rintro x w4 ⟨rfl, hl4⟩
        have HL4 := Lib.hid (HL3.out.trans hl4)
        have HO4 := Lib.hid (HO3.out.later hl4)
        have HF4 := Lib.hid (HF3.out.later hl4)
        clear hl4 p0 p1 p2 p3
        obtain ⟨p0, p1, p2, p3⟩ := HF4.out.c
        go_wp2_with fail
        go_at_call 20
        with_reducible refine (HG2.out _ _ HF4.out.2 (HD.out.later HL4.out)).mono ?_
        rintro x w5 ⟨rfl, hl5⟩
        have HL5 := Lib.hid (HL4.out.trans hl5)
        have HO5 := Lib.hid (HO4.out.later hl5)
        have HF5 := Lib.hid (HF4.out.later hl5)
        clear hl5 p0 p1 p2 p3
        obtain ⟨p0, p1, p2, p3⟩ := HF5.out.c
        go_wp2_with fail
        go_at_call 10
        with_reducible refine (HUF.out _ _ HF5.out.2).mono ?_
        rintro x w6 ⟨⟨v, rfl, hf6⟩, hl6⟩
        obtain ⟨A7, c7, A8, c8, rfl, w7, hw7, hho7, hl7⟩ := told_new hf6
        obtain ⟨bg, hbg⟩ : ∃ bg, bg = w6.heap.size := ⟨_, rfl⟩
        have HO7 := Lib.hid (HO5.out.later (hl6.trans hl7))
        have HF7 := Lib.hid (HF5.out.later (hl6.trans hl7))
        have HL7 := Lib.hid (HL5.out.trans (hl6.trans hl7))
        rw [← HM.out.2] at hw7 hho7 ⊢
        rw [← hbg] at hho7
        have HG7 := Lib.hid hho7
        have HW7 := Lib.hid (And.intro hw7 hbg)
        clear hf6 hl6 hw7 hho7 hl7 hbg p0 p1 p2 p3
        go_wp2_with fail
        rw [← HW7.out.1, ← HW7.out.2]
        obtain ⟨p0, p1, p2, p3⟩ := HG7.out.c
        go_wp2_with fail
        go_at_call 20
        with_reducible refine (HG3.out _ _ HG7.out.2 (HD.out.later HL7.out)).mono ?_
        rintro x w8 ⟨rfl, hl8⟩
        have HL8 := Lib.hid (HL7.out.trans hl8)
        have HO8 := Lib.hid (HO7.out.later hl8)
        have HF8 := Lib.hid (HF7.out.later hl8)
        have HG8 := Lib.hid (HG7.out.later hl8)
        clear hl8 p0 p1 p2 p3
        obtain ⟨p0, p1, p2, p3⟩ := HO8.out.c
        go_wp2_with fail
        go_at_call 8
        with_reducible refine (HSN.out _ _ HO8.out.2).mono ?_
        rintro x w9 ⟨⟨v, rfl, hf9⟩, hl9⟩
        obtain ⟨A9, c9, Aa, ca, rfl, w10, hw10, hho10, hl10⟩ := told_new hf9
        obtain ⟨bn, hbn⟩ : ∃ bn, bn = w9.heap.size := ⟨_, rfl⟩
        have HO10 := Lib.hid (HO8.out.later (hl9.trans hl10))
        have HF10 := Lib.hid (HF8.out.later (hl9.trans hl10))
        have HG10 := Lib.hid (HG8.out.later (hl9.trans hl10))
        have HL10 := Lib.hid (HL8.out.trans (hl9.trans hl10))
        obtain ⟨mn, hmn⟩ : ∃ mn, mn = nE.vars.length := ⟨_, rfl⟩
        rw [← hmn] at hw10 hho10 ⊢
        rw [← hbn] at hho10
        have HN10 := Lib.hid hho10
        have HW10 := Lib.hid (And.intro hw10 hbn)
        clear hf9 hl9 hw10 hho10 hl10 hbn p0 p1 p2 p3 hmn
        go_wp2_with fail
        rw [← HW10.out.1, ← HW10.out.2]
        obtain ⟨p0, p1, p2, p3⟩ := HN10.out.c
        go_wp2_with fail
        go_at_call 20
        with_reducible refine (HG4.out _ _ HN10.out.2 (HD.out.later HL10.out)).mono ?_
        rintro x w11 ⟨rfl, hl11⟩
        have HL11 := Lib.hid (HL10.out.trans hl11)
        have HO11 := Lib.hid (HO10.out.later hl11)
        have HF11 := Lib.hid (HF10.out.later hl11)
        have HG11 := Lib.hid (HG10.out.later hl11)
        clear hl11 p0 p1 p2 p3
        go_wp2_with fail
        obtain ⟨fv, hfv⟩ : ∃ fv, fv = fE.vars := ⟨_, rfl⟩
        have HFV := Lib.hid hfv
        have hfd : ∃ c', RdP w11 w11.heap.size (.slice A5 mf c') fv ∧ c' = c5 := by
          obtain ⟨v0, A0', n0', c0', he, hv0, _⟩ := HF11.out.2
          injection he with he
          simp only [Array.mk.injEq, List.cons.injEq, and_true] at he
          rw [← he.1, ← hfv] at hv0
          exact ⟨_, hv0, rfl⟩
        obtain ⟨c', hfd, hcc⟩ := hfd
        subst hcc
        have HFD := Lib.hid hfd
        have HML := Lib.hid (show mf = fv.length by rw [HM.out.1, hfv])
        have hrs : Rises fv := by rw [hfv]; exact HFR.out
        have HRS := Lib.hid hrs
        clear hfd hfv hrs
        go_loopw [26] (fun s26 wz => ∃ (j : Nat), s26 = .int .i64 (j : Int) ∧ 1 ≤ j ∧ j ≤ max mf 1 ∧ Later w11 wz) (fun j _ => mf + 1 - (intOf j).toNat)
        case atStart => exact ⟨1, rfl, Nat.le_refl _, Nat.le_max_right _ _, Later.refl _⟩
        case round =>
          obtain ⟨j, rfl, hj1, hjm, hlz⟩ := hrel
          have HLZ := Lib.hid hlz
          have HFZ := Lib.hid (HF11.out.later hlz)
          clear hlz
          obtain ⟨p0, p1, p2, p3⟩ := HFZ.out.c
          by_cases hlt : j < mf
          · have hj2 : (j : Int) < (mf : Int) := by omega
            have hj3 : (0 : Int) ≤ (j : Int) := by omega
            have hj4 : (0 : Int) ≤ (j : Int) - 1 := by omega
            have hj5 : (j : Int) - 1 < (mf : Int) := by omega
            obtain ⟨k, rfl⟩ : ∃ k, j = k + 1 := ⟨j - 1, by omega⟩
            have hkl : k + 1 < fv.length := by rw [← HML.out]; exact hlt
            obtain ⟨g, og, cg, e1, hg, hcc⟩ := HFD.out.at_ (by omega)
            injection e1 with e1 en e2
            subst e1 e2
            clear en
            obtain ⟨x, hx⟩ : ∃ x, x = fv[k] := ⟨_, rfl⟩
            obtain ⟨z, hz⟩ : ∃ z, z = fv[k + 1] := ⟨_, rfl⟩
            have q1 := (HLZ.out.cell (p := ⟨g, og + k * 2, none⟩) hg).trans (hcc k (by omega)).1
            have q2 := (HLZ.out.cell (p := ⟨g, og + (k + 1) * 2, none⟩) hg).trans (hcc (k + 1) hkl).1
            rw [← hx] at q1
            rw [← hz] at q2
            have hxz : x.1 < z.1 := by rw [hx, hz]; exact rises_at HRS.out (by omega) hkl (by omega)
            have f1 : Go.Op.bytesLess x.1 z.1 = true := by rw [Go.Proofs.bytesLess_eq]; exact decide_eq_true hxz
            have hk0 : (0 : Int) ≤ (k : Int) := by omega
            have hk1 : (k : Int) + 1 < (mf : Int) := by omega
            have hk2 : (k : Int) + 1 - 1 = (k : Int) := by omega
            have hk3 : (k : Int) < (mf : Int) := by omega
            have hk4 : (0 : Int) ≤ (k : Int) + 1 := by omega
            have hk5 : ((k : Int) + 1).toNat = k + 1 := by omega
            clear hcc hg hx hz hxz hkl hj2 hj3 hj4 hj5
            go_wp2
            go_quiet (fail)
            go_wp2_with fail
            refine ⟨⟨k + 2, congrArg (Value.int .i64) (by omega), by omega, by omega, HLZ.out.trans ⟨rfl, rfl, rfl, Nat.le_refl _, fun _ _ => rfl⟩⟩, by simp only [intOf]; omega⟩
          · have hj2 : ¬ (j : Int) < (mf : Int) := by omega
            have HSZ := Lib.hid (And.intro (HO11.out.later HLZ.out) (And.intro HFZ.out (And.intro (HG11.out.later HLZ.out) (HL11.out.trans HLZ.out))))
            clear hjm hj1 hlt
            go_upto_region 27 with fail
            go_cut [143] from 127 to 143 (fun v wx => v = .bool false ∧ wx = wr)
            case first =>
              by_cases hso : s = o
              · have k1 : (s == o) = true := by simpa using hso
                clear hso
                go_wp2_with fail
                go_meet
                exact ⟨rfl, rfl⟩
              · have k1 : (s == o) = false := by simpa using hso
                by_cases hsi : s = [73, 70, 83]
                · have k2 : (s == ([73, 70, 83] : List UInt8)) = true := by simpa using hsi
                  clear hso hsi
                  go_wp2_with fail
                  go_meet
                  exact ⟨rfl, rfl⟩
                · have k2 : (s == ([73, 70, 83] : List UInt8)) = false := by simpa using hsi
                  have htb : (t0, b0) = (t2, b2) := by
                    obtain ⟨hq0, _, hq2, _⟩ := HQ.out
                    rw [← hq0, ← hq2, HE.out.1]
                    exact (get_set y hso hsi).symm
                  injection htb with ht0 hb0
                  subst ht0 hb0
                  have k3 : (t0 == t0) = true := by simp
                  clear hso hsi
                  go_wp2_with fail
                  go_meet
                  exact ⟨rfl, rfl⟩
            case rest =>
              obtain ⟨rfl, hwc⟩ := hcut
              have hwc := hwc.symm
              subst hwc
              clear p0 p1 p2 p3
              go_wp2_with fail
              go_loopw [27, 28] (fun s27 s28 wy => ∃ (k : Nat), s28 = .int .i64 (k : Int) ∧ k ≤ s.length ∧ s27 = .bool (wordTo s k) ∧ wy = wr) (fun _ k _ => s.length - (intOf k).toNat)
              case atStart => exact ⟨0, rfl, Nat.zero_le _, rfl, rfl⟩
              case round =>
                obtain ⟨k, rfl, hks, rfl, hwy⟩ := hrel
                have hwy := hwy.symm
                subst hwy
                obtain ⟨wd, hwd⟩ : ∃ wd, wd = wordTo s k := ⟨_, rfl⟩
                rw [← hwd]
                have HWD := Lib.hid hwd
                have hs61 : s.length ≤ 60 := HSO.out.1
                have hk0 : (0 : Int) ≤ (k : Int) := by omega
                by_cases hlt : k < s.length
                · have hk1 : (k : Int) < (s.length : Int) := by omega
                  have hk2 : k < (mkS s).size := by rw [mkS_size]; exact hlt
                  obtain ⟨ch, hch⟩ : ∃ ch, ch = (mkS s)[k] := ⟨_, rfl⟩
                  have HCH := Lib.hid (show s[k] = ch by rw [hch]; exact (mkS_get' s k hk2 hlt).symm)
                  have hxt : (mkS s)[k] = ch := hch.symm
                  have HWS := Lib.hid (show wordTo s (k + 1) = (wd && okB k ch) by rw [wordTo_succ s k hlt, ← HWD.out]; exact congrArg (fun c => wd && okB k c) HCH.out)
                  have HKK := Lib.hid hlt
                  clear hch hwd hlt
                  cases wd with
                  | false =>
                    go_wp2
                    refine ⟨⟨k + 1, congrArg (Value.int .i64) (by omega), HKK.out, by rw [HWS.out]; rfl, trivial⟩, by simp only [intOf]; omega⟩
                  | true =>
                    have hok := okB_iff k ch
                    have HOK := Lib.hid hok
                    clear hok
                    by_cases hr0 : ch.toNat ≤ 47
                    · by_cases hz : k = 0
                      · have q97 : ¬ (97 : Int) ≤ (ch.toNat : Int) := by omega
                        have q65 : ¬ (65 : Int) ≤ (ch.toNat : Int) := by omega
                        have q48 : ¬ (48 : Int) ≤ (ch.toNat : Int) := by omega
                        have q122 : (ch.toNat : Int) ≤ 122 := by omega
                        have q90 : (ch.toNat : Int) ≤ 90 := by omega
                        have q57 : (ch.toNat : Int) ≤ 57 := by omega
                        have q95 : ((ch.toNat : Int) == 95) = false := by simp; omega
                        have qz : ¬ (0 : Int) < (k : Int) := by omega
                        have HOB := Lib.hid (show okB k ch = false from Bool.eq_false_iff.2 (fun h => by have := HOK.out.1 h; omega))
                        clear hz
                        go_wp2
                        refine ⟨⟨k + 1, congrArg (Value.int .i64) (by omega), HKK.out, by rw [HWS.out, HOB.out]; rfl, trivial⟩, by simp only [intOf]; omega⟩
                      · have q97 : ¬ (97 : Int) ≤ (ch.toNat : Int) := by omega
                        have q65 : ¬ (65 : Int) ≤ (ch.toNat : Int) := by omega
                        have q48 : ¬ (48 : Int) ≤ (ch.toNat : Int) := by omega
                        have q122 : (ch.toNat : Int) ≤ 122 := by omega
                        have q90 : (ch.toNat : Int) ≤ 90 := by omega
                        have q57 : (ch.toNat : Int) ≤ 57 := by omega
                        have q95 : ((ch.toNat : Int) == 95) = false := by simp; omega
                        have qz : (0 : Int) < (k : Int) := by omega
                        have HOB := Lib.hid (show okB k ch = false from Bool.eq_false_iff.2 (fun h => by have := HOK.out.1 h; omega))
                        clear hz
                        go_wp2
                        refine ⟨⟨k + 1, congrArg (Value.int .i64) (by omega), HKK.out, by rw [HWS.out, HOB.out]; rfl, trivial⟩, by simp only [intOf]; omega⟩
                    by_cases hr1 : ch.toNat ≤ 57
                    · by_cases hz : k = 0
                      · have q97 : ¬ (97 : Int) ≤ (ch.toNat : Int) := by omega
                        have q65 : ¬ (65 : Int) ≤ (ch.toNat : Int) := by omega
                        have q48 : (48 : Int) ≤ (ch.toNat : Int) := by omega
                        have q122 : (ch.toNat : Int) ≤ 122 := by omega
                        have q90 : (ch.toNat : Int) ≤ 90 := by omega
                        have q57 : (ch.toNat : Int) ≤ 57 := by omega
                        have q95 : ((ch.toNat : Int) == 95) = false := by simp; omega
                        have qz : ¬ (0 : Int) < (k : Int) := by omega
                        have HOB := Lib.hid (show okB k ch = false from Bool.eq_false_iff.2 (fun h => by have := HOK.out.1 h; omega))
                        clear hz
                        go_wp2
                        refine ⟨⟨k + 1, congrArg (Value.int .i64) (by omega), HKK.out, by rw [HWS.out, HOB.out]; rfl, trivial⟩, by simp only [intOf]; omega⟩
                      · have q97 : ¬ (97 : Int) ≤ (ch.toNat : Int) := by omega
                        have q65 : ¬ (65 : Int) ≤ (ch.toNat : Int) := by omega
                        have q48 : (48 : Int) ≤ (ch.toNat : Int) := by omega
                        have q122 : (ch.toNat : Int) ≤ 122 := by omega
                        have q90 : (ch.toNat : Int) ≤ 90 := by omega
                        have q57 : (ch.toNat : Int) ≤ 57 := by omega
                        have q95 : ((ch.toNat : Int) == 95) = false := by simp; omega
                        have qz : (0 : Int) < (k : Int) := by omega
                        have HOB := Lib.hid (show okB k ch = true from HOK.out.2 (by omega))
                        clear hz
                        go_wp2
                        refine ⟨⟨k + 1, congrArg (Value.int .i64) (by omega), HKK.out, by rw [HWS.out, HOB.out]; rfl, trivial⟩, by simp only [intOf]; omega⟩
                    by_cases hr2 : ch.toNat ≤ 64
                    · by_cases hz : k = 0
                      · have q97 : ¬ (97 : Int) ≤ (ch.toNat : Int) := by omega
                        have q65 : ¬ (65 : Int) ≤ (ch.toNat : Int) := by omega
                        have q48 : (48 : Int) ≤ (ch.toNat : Int) := by omega
                        have q122 : (ch.toNat : Int) ≤ 122 := by omega
                        have q90 : (ch.toNat : Int) ≤ 90 := by omega
                        have q57 : ¬ (ch.toNat : Int) ≤ 57 := by omega
                        have q95 : ((ch.toNat : Int) == 95) = false := by simp; omega
                        have qz : ¬ (0 : Int) < (k : Int) := by omega
                        have HOB := Lib.hid (show okB k ch = false from Bool.eq_false_iff.2 (fun h => by have := HOK.out.1 h; omega))
                        clear hz
                        go_wp2
                        refine ⟨⟨k + 1, congrArg (Value.int .i64) (by omega), HKK.out, by rw [HWS.out, HOB.out]; rfl, trivial⟩, by simp only [intOf]; omega⟩
                      · have q97 : ¬ (97 : Int) ≤ (ch.toNat : Int) := by omega
                        have q65 : ¬ (65 : Int) ≤ (ch.toNat : Int) := by omega
                        have q48 : (48 : Int) ≤ (ch.toNat : Int) := by omega
                        have q122 : (ch.toNat : Int) ≤ 122 := by omega
                        have q90 : (ch.toNat : Int) ≤ 90 := by omega
                        have q57 : ¬ (ch.toNat : Int) ≤ 57 := by omega
                        have q95 : ((ch.toNat : Int) == 95) = false := by simp; omega
                        have qz : (0 : Int) < (k : Int) := by omega
                        have HOB := Lib.hid (show okB k ch = false from Bool.eq_false_iff.2 (fun h => by have := HOK.out.1 h; omega))
                        clear hz
                        go_wp2
                        refine ⟨⟨k + 1, congrArg (Value.int .i64) (by omega), HKK.out, by rw [HWS.out, HOB.out]; rfl, trivial⟩, by simp only [intOf]; omega⟩
                    by_cases hr3 : ch.toNat ≤ 90
                    · have q97 : ¬ (97 : Int) ≤ (ch.toNat : Int) := by omega
                      have q65 : (65 : Int) ≤ (ch.toNat : Int) := by omega
                      have q48 : (48 : Int) ≤ (ch.toNat : Int) := by omega
                      have q122 : (ch.toNat : Int) ≤ 122 := by omega
                      have q90 : (ch.toNat : Int) ≤ 90 := by omega
                      have q57 : ¬ (ch.toNat : Int) ≤ 57 := by omega
                      have q95 : ((ch.toNat : Int) == 95) = false := by simp; omega
                      have HOB := Lib.hid (show okB k ch = true from HOK.out.2 (by omega))
                      go_wp2
                      refine ⟨⟨k + 1, congrArg (Value.int .i64) (by omega), HKK.out, by rw [HWS.out, HOB.out]; rfl, trivial⟩, by simp only [intOf]; omega⟩
                    by_cases hr4 : ch.toNat ≤ 94
                    · by_cases hz : k = 0
                      · have q97 : ¬ (97 : Int) ≤ (ch.toNat : Int) := by omega
                        have q65 : (65 : Int) ≤ (ch.toNat : Int) := by omega
                        have q48 : (48 : Int) ≤ (ch.toNat : Int) := by omega
                        have q122 : (ch.toNat : Int) ≤ 122 := by omega
                        have q90 : ¬ (ch.toNat : Int) ≤ 90 := by omega
                        have q57 : ¬ (ch.toNat : Int) ≤ 57 := by omega
                        have q95 : ((ch.toNat : Int) == 95) = false := by simp; omega
                        have qz : ¬ (0 : Int) < (k : Int) := by omega
                        have HOB := Lib.hid (show okB k ch = false from Bool.eq_false_iff.2 (fun h => by have := HOK.out.1 h; omega))
                        clear hz
                        go_wp2
                        refine ⟨⟨k + 1, congrArg (Value.int .i64) (by omega), HKK.out, by rw [HWS.out, HOB.out]; rfl, trivial⟩, by simp only [intOf]; omega⟩
                      · have q97 : ¬ (97 : Int) ≤ (ch.toNat : Int) := by omega
                        have q65 : (65 : Int) ≤ (ch.toNat : Int) := by omega
                        have q48 : (48 : Int) ≤ (ch.toNat : Int) := by omega
                        have q122 : (ch.toNat : Int) ≤ 122 := by omega
                        have q90 : ¬ (ch.toNat : Int) ≤ 90 := by omega
                        have q57 : ¬ (ch.toNat : Int) ≤ 57 := by omega
                        have q95 : ((ch.toNat : Int) == 95) = false := by simp; omega
                        have qz : (0 : Int) < (k : Int) := by omega
                        have HOB := Lib.hid (show okB k ch = false from Bool.eq_false_iff.2 (fun h => by have := HOK.out.1 h; omega))
                        clear hz
                        go_wp2
                        refine ⟨⟨k + 1, congrArg (Value.int .i64) (by omega), HKK.out, by rw [HWS.out, HOB.out]; rfl, trivial⟩, by simp only [intOf]; omega⟩
                    by_cases hr5 : ch.toNat ≤ 95
                    · have q97 : ¬ (97 : Int) ≤ (ch.toNat : Int) := by omega
                      have q65 : (65 : Int) ≤ (ch.toNat : Int) := by omega
                      have q48 : (48 : Int) ≤ (ch.toNat : Int) := by omega
                      have q122 : (ch.toNat : Int) ≤ 122 := by omega
                      have q90 : ¬ (ch.toNat : Int) ≤ 90 := by omega
                      have q57 : ¬ (ch.toNat : Int) ≤ 57 := by omega
                      have q95 : ((ch.toNat : Int) == 95) = true := by simp; omega
                      have HOB := Lib.hid (show okB k ch = true from HOK.out.2 (by omega))
                      go_wp2
                      refine ⟨⟨k + 1, congrArg (Value.int .i64) (by omega), HKK.out, by rw [HWS.out, HOB.out]; rfl, trivial⟩, by simp only [intOf]; omega⟩
                    by_cases hr6 : ch.toNat ≤ 96
                    · by_cases hz : k = 0
                      · have q97 : ¬ (97 : Int) ≤ (ch.toNat : Int) := by omega
                        have q65 : (65 : Int) ≤ (ch.toNat : Int) := by omega
                        have q48 : (48 : Int) ≤ (ch.toNat : Int) := by omega
                        have q122 : (ch.toNat : Int) ≤ 122 := by omega
                        have q90 : ¬ (ch.toNat : Int) ≤ 90 := by omega
                        have q57 : ¬ (ch.toNat : Int) ≤ 57 := by omega
                        have q95 : ((ch.toNat : Int) == 95) = false := by simp; omega
                        have qz : ¬ (0 : Int) < (k : Int) := by omega
                        have HOB := Lib.hid (show okB k ch = false from Bool.eq_false_iff.2 (fun h => by have := HOK.out.1 h; omega))
                        clear hz
                        go_wp2
                        refine ⟨⟨k + 1, congrArg (Value.int .i64) (by omega), HKK.out, by rw [HWS.out, HOB.out]; rfl, trivial⟩, by simp only [intOf]; omega⟩
                      · have q97 : ¬ (97 : Int) ≤ (ch.toNat : Int) := by omega
                        have q65 : (65 : Int) ≤ (ch.toNat : Int) := by omega
                        have q48 : (48 : Int) ≤ (ch.toNat : Int) := by omega
                        have q122 : (ch.toNat : Int) ≤ 122 := by omega
                        have q90 : ¬ (ch.toNat : Int) ≤ 90 := by omega
                        have q57 : ¬ (ch.toNat : Int) ≤ 57 := by omega
                        have q95 : ((ch.toNat : Int) == 95) = false := by simp; omega
                        have qz : (0 : Int) < (k : Int) := by omega
                        have HOB := Lib.hid (show okB k ch = false from Bool.eq_false_iff.2 (fun h => by have := HOK.out.1 h; omega))
                        clear hz
                        go_wp2
                        refine ⟨⟨k + 1, congrArg (Value.int .i64) (by omega), HKK.out, by rw [HWS.out, HOB.out]; rfl, trivial⟩, by simp only [intOf]; omega⟩
                    by_cases hr7 : ch.toNat ≤ 122
                    · have q97 : (97 : Int) ≤ (ch.toNat : Int) := by omega
                      have q65 : (65 : Int) ≤ (ch.toNat : Int) := by omega
                      have q48 : (48 : Int) ≤ (ch.toNat : Int) := by omega
                      have q122 : (ch.toNat : Int) ≤ 122 := by omega
                      have q90 : ¬ (ch.toNat : Int) ≤ 90 := by omega
                      have q57 : ¬ (ch.toNat : Int) ≤ 57 := by omega
                      have q95 : ((ch.toNat : Int) == 95) = false := by simp; omega
                      have HOB := Lib.hid (show okB k ch = true from HOK.out.2 (by omega))
                      go_wp2
                      refine ⟨⟨k + 1, congrArg (Value.int .i64) (by omega), HKK.out, by rw [HWS.out, HOB.out]; rfl, trivial⟩, by simp only [intOf]; omega⟩
                    by_cases hz : k = 0
                    · have q97 : (97 : Int) ≤ (ch.toNat : Int) := by omega
                      have q65 : (65 : Int) ≤ (ch.toNat : Int) := by omega
                      have q48 : (48 : Int) ≤ (ch.toNat : Int) := by omega
                      have q122 : ¬ (ch.toNat : Int) ≤ 122 := by omega
                      have q90 : ¬ (ch.toNat : Int) ≤ 90 := by omega
                      have q57 : ¬ (ch.toNat : Int) ≤ 57 := by omega
                      have q95 : ((ch.toNat : Int) == 95) = false := by simp; omega
                      have qz : ¬ (0 : Int) < (k : Int) := by omega
                      have HOB := Lib.hid (show okB k ch = false from Bool.eq_false_iff.2 (fun h => by have := HOK.out.1 h; omega))
                      clear hz
                      go_wp2
                      refine ⟨⟨k + 1, congrArg (Value.int .i64) (by omega), HKK.out, by rw [HWS.out, HOB.out]; rfl, trivial⟩, by simp only [intOf]; omega⟩
                    · have q97 : (97 : Int) ≤ (ch.toNat : Int) := by omega
                      have q65 : (65 : Int) ≤ (ch.toNat : Int) := by omega
                      have q48 : (48 : Int) ≤ (ch.toNat : Int) := by omega
                      have q122 : ¬ (ch.toNat : Int) ≤ 122 := by omega
                      have q90 : ¬ (ch.toNat : Int) ≤ 90 := by omega
                      have q57 : ¬ (ch.toNat : Int) ≤ 57 := by omega
                      have q95 : ((ch.toNat : Int) == 95) = false := by simp; omega
                      have qz : (0 : Int) < (k : Int) := by omega
                      have HOB := Lib.hid (show okB k ch = false from Bool.eq_false_iff.2 (fun h => by have := HOK.out.1 h; omega))
                      clear hz
                      go_wp2
                      refine ⟨⟨k + 1, congrArg (Value.int .i64) (by omega), HKK.out, by rw [HWS.out, HOB.out]; rfl, trivial⟩, by simp only [intOf]; omega⟩
                · have hk1 : ¬ (k : Int) < (s.length : Int) := by omega
                  have hkk : k = s.length := by omega
                  have hnm : nm s = (!decide (s = []) && wd) := by rw [hwd, hkk]; exact word_name
                  have HNM := Lib.hid hnm
                  obtain ⟨HOz, HFz, HGz, HLz⟩ := HSZ.out
                  have HSM := Lib.hid (fun (h : nm s = false) => by
                    have := same_v _ _ ei fE wr HOz.2 HFz.2
                    have he : fE = ei := by rw [HE.out.1]; unfold En.set; rw [if_neg (by rw [h]; decide)]
                    have hq : eqE ei fE = true := by rw [he]; unfold eqE; simp
                    rw [hq] at this
                    exact this)
                  clear hnm hwd hkk HOz HFz HGz HLz hlt
                  have s0 := HSZ.out.1.c.1
                  have s1 := HSZ.out.1.c.2.1
                  have s2 := HSZ.out.1.c.2.2.1
                  have s3 := HSZ.out.1.c.2.2.2
                  have v0 := HSZ.out.2.1.c.1
                  have v1 := HSZ.out.2.1.c.2.1
                  have v2 := HSZ.out.2.1.c.2.2.1
                  have v3 := HSZ.out.2.1.c.2.2.2
                  by_cases hse : s = []
                  · have k5 : (s == ([] : List UInt8)) = true := by simpa using hse
                    have HNF := Lib.hid (show nm s = false by rw [HNM.out, hse]; rfl)
                    clear hse
                    go_wp2_with (go_at_call 19; (with_reducible refine (HSM.out HNF.out).mono ?_); rintro x w9 ⟨rfl, hl9⟩; (have HL9 := Lib.hid (HSZ.out.2.2.2.trans hl9)); clear hl9)
                    go_ret
                    exact ⟨rfl, HL9.out⟩
                  · have k5 : (s == ([] : List UInt8)) = false := by simpa using hse
                    cases wd with
                    | false =>
                      have HNF := Lib.hid (show nm s = false by rw [HNM.out, Bool.and_false])
                      clear hse
                      go_wp2_with (go_at_call 19; (with_reducible refine (HSM.out HNF.out).mono ?_); rintro x w9 ⟨rfl, hl9⟩; (have HL9 := Lib.hid (HSZ.out.2.2.2.trans hl9)); clear hl9)
                      go_ret
                      exact ⟨rfl, HL9.out⟩
                    | true =>
                      have hnt : nm s = true := by rw [HNM.out, decide_eq_false hse]; rfl
                      have hv1 : (t1, b1) = (y, true) := by
                        obtain ⟨_, hq1, _, _⟩ := HQ.out
                        rw [← hq1, HE.out.1]
                        exact get_set_self y hnt
                      have hv3 : (t3, b3) = (([] : B), false) := by
                        obtain ⟨_, _, _, hq3⟩ := HQ.out
                        rw [← hq3, HE.out.2.1]
                        exact get_unset_self hnt
                      have hlen : mg + 1 = mf := by
                        rw [HM.out.1, HM.out.2, HE.out.2.1, HE.out.1]
                        show (unset (En.set nm ei s y).vars s).length + 1 = (En.set nm ei s y).vars.length
                        unfold En.set
                        rw [if_pos hnt]
                        exact En.set_len _ _ _
                      injection hv1 with h1 h2
                      injection hv3 with h3 h4
                      subst h1 h2 h3 h4
                      have k6 : (t1 == t1) = true := by simp
                      have HLEN := Lib.hid hlen
                      have hl2 : ((mg : Int) == (mf : Int) - 1) = true := by rw [beq_iff_eq]; omega
                      have r0 := HSZ.out.2.2.1.c.1
                      have k7 : (mf : Int) - 1 = (mg : Int) := by omega
                      clear hse hnt hlen
                      go_wp2
                      go_ret
                      exact ⟨rfl, HSZ.out.2.2.2⟩
end envSets
end Go.Proofs.YtmijploffdoenaaDoor
