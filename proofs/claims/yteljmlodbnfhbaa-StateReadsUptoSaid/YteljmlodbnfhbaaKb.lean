/- THE DOCUMENT'S bytes of an Env. No premises. -/
import Derived.Test.YteljmlodbnfhbaaKcl
import Derived.Test.YteljmlodbnfhbaaSof6
namespace Go.Proofs.Yteljmlodbnfhbaa
open Go.RowKit
namespace Ks
set_option maxRecDepth 100000 in
set_option maxHeartbeats 1600000 in
theorem around_v (e : EnvT) (cs : List Value) (W : World) (h : envR.C W W.heap.size cs e) (hok : envC.ok e) (hx : (envC.put e).length ≤ 100000000) :
    Calls Try.prog 40 #[.agg cs.toArray] W fun r W' => r = .returned (.string (mkS (envC.put e))) ∧ Later W W' := by
  obtain ⟨A1, c1, A2, c2, rfl, hr1, hr2, hI, hc1, hc2, hc3, hc4⟩ := env_cells h
  obtain ⟨vars, args, status, flags⟩ := e
  obtain ⟨ho1, ho2, _, _⟩ := hok
  have hm1 : vars.length ≤ 100000 := ho1.1
  have hm2 : args.length ≤ 100000 := ho2.1
  clear h ho1 ho2
  obtain ⟨n1, hn1⟩ : ∃ n1, n1 = vars.length := ⟨_, rfl⟩
  obtain ⟨n2, hn2⟩ : ∃ n2, n2 = args.length := ⟨_, rfl⟩
  have hput : envC.put (vars, args, status, flags) = (numP n1 ++ manyP prC vars) ++ (txts.put args ++ (numP status ++ textB flags)) := by rw [hn1]; rfl
  rw [hput] at hx ⊢
  rw [← hn1, ← hn2]
  have hflags : flags.length ≤ (textB flags).length := by rw [textB, List.length_append]; omega
  obtain ⟨h0, hh0⟩ : ∃ h0, h0 = numP n1 := ⟨_, rfl⟩
  obtain ⟨t3, ht3⟩ : ∃ t3, t3 = txts.put args := ⟨_, rfl⟩
  obtain ⟨t4, ht4⟩ : ∃ t4, t4 = numP status := ⟨_, rfl⟩
  obtain ⟨t5, ht5⟩ : ∃ t5, t5 = textB flags := ⟨_, rfl⟩
  rw [← hh0, ← ht3, ← ht4, ← ht5] at hx ⊢
  rw [← ht5] at hflags
  have hxs : h0.length + (manyP prC vars).length + (t3.length + (t4.length + t5.length)) ≤ 100000000 := by
    have := hx
    simp only [List.length_append] at this
    exact this
  have HN0 := Lib.hid (fun w => n_v (n1 : Int) ⟨by omega, by omega⟩ w)
  rw [← hh0] at HN0
  have HT3 := Lib.hid (fun (w' : World) (hl : Later W w') => row_v A2 c2 n2 args w' (hr2.later hl) hn2 (by rw [← ht3]; omega) (by omega))
  rw [← ht3] at HT3
  have HT4 := Lib.hid (fun w => n_v status hI w)
  rw [← ht4] at HT4
  have HT5 := Lib.hid (fun w => text_v flags w (by omega))
  rw [← ht5] at HT5
  have HX := Lib.hid hxs
  have HR1 := Lib.hid hr1
  have HNN := Lib.hid hn1
  clear hput hx hxs hflags hh0 ht3 ht4 ht5 hr1 hr2 hn1 hn2 hI
  have hn1' : n1 ≤ 100000 := by rw [HNN.out]; exact hm1
  clear hm1 hm2
  rw [← HNN.out] at hc1
  clear hc3
  have HBX := Lib.hid (heap_alloc_new W (.cells #[.slice A1 n1 c1, .slice A2 n2 c2, .int .i64 status, .string (mkS flags)] 50))
  go_enter Try.func40, Try.ntmps40
  go_wp2_with (go_at_call 19; (with_reducible refine (HN0.out _).mono ?_); rintro e w1 ⟨rfl, hb1⟩; have HB1 := Lib.hid hb1; clear hb1)
  have HL1 := Lib.hid ((Later.alloc W _).trans HB1.out)
  have HBX1 := Lib.hid (later_cells HB1.out HBX.out)
  clear HB1
  go_loopw [3, 4] (fun s i wr => ∃ k : Nat, k ≤ n1 ∧ i = .int .i64 (k : Int) ∧ s = .string (mkS (h0 ++ manyP prC (vars.take k))) ∧ Later w1 wr) (fun _ i _ => n1 - (intOf i).toNat)
  case atStart => exact ⟨0, by omega, rfl, by simp [manyP], Later.refl _⟩
  case round =>
    obtain ⟨k, hk, rfl, rfl, hb⟩ := hrel
    have HWR := Lib.hid hb
    have q0 := (cell_row (later_cells hb HBX1.out) 0).1
    clear hb
    by_cases hlt : k < n1
    · have hk0 : (0 : Int) ≤ (k : Int) := by omega
      have hlt1 : (k : Int) < (n1 : Int) := by omega
      have hkl : k < vars.length := by rw [← HNN.out]; exact hlt
      obtain ⟨g, o, rfl, hg, hcell⟩ := HR1.out.lie_pr (by omega)
      obtain ⟨p1, hp1⟩ : ∃ p1, p1 = vars[k].1 := ⟨_, rfl⟩
      obtain ⟨p2, hp2⟩ : ∃ p2, p2 = vars[k].2 := ⟨_, rfl⟩
      have HEL := Lib.hid (show ∀ w', Later wr w' → w'.cell? ⟨g, o + k * 2, none⟩ = some (.string (mkS p1)) ∧ w'.cell? ⟨g, o + k * 2 + 1, none⟩ = some (.string (mkS p2)) from fun w' hl => by
        have q1 := ((HL1.out.trans (HWR.out.trans hl)).cell (p := ⟨g, o + k * 2, none⟩) hg).trans (hcell k hkl).1
        have q2 := ((HL1.out.trans (HWR.out.trans hl)).cell (p := ⟨g, o + k * 2 + 1, none⟩) hg).trans (hcell k hkl).2
        rw [← hp1] at q1
        rw [← hp2] at q2
        exact ⟨q1, q2⟩)
      have hbound := many_le prC vars k hkl
      have hone : prC.put vars[k] = textB p1 ++ textB p2 := by rw [hp1, hp2]; rfl
      rw [hone, List.length_append] at hbound
      have hl1 : p1.length ≤ (textB p1).length := by rw [textB, List.length_append]; omega
      have hl2 : p2.length ≤ (textB p2).length := by rw [textB, List.length_append]; omega
      obtain ⟨t1, ht1⟩ : ∃ t1, t1 = textB p1 := ⟨_, rfl⟩
      obtain ⟨t2, ht2⟩ : ∃ t2, t2 = textB p2 := ⟨_, rfl⟩
      rw [← ht1, ← ht2] at hbound
      rw [← ht1] at hl1
      rw [← ht2] at hl2
      rw [← ht1, ← ht2] at hone
      have hxo := HX.out
      have HT1 := Lib.hid (fun w => text_v p1 w (by omega))
      rw [← ht1] at HT1
      have HT2 := Lib.hid (fun w => text_v p2 w (by omega))
      rw [← ht2] at HT2
      obtain ⟨cur, hcur⟩ : ∃ cur, cur = h0 ++ manyP prC (vars.take k) := ⟨_, rfl⟩
      have hlc : cur.length = h0.length + (manyP prC (vars.take k)).length := by rw [hcur, List.length_append]
      rw [← hcur]
      obtain ⟨j31, hj31⟩ : ∃ j31 : B, j31 = t1 ++ t2 := ⟨_, rfl⟩
      have hlj31 : j31.length = t1.length + t2.length := by rw [hj31, List.length_append]
      have HZj31 := Lib.hid (show (¬ 9223372036854775807 < (mkS t1).size + (mkS t2).size) ∧ mkS t1 ++ mkS t2 = mkS j31 from ⟨by rw [mkS_size, mkS_size]; omega, by rw [hj31]; exact mkS_add t1 t2⟩)
      obtain ⟨j32, hj32⟩ : ∃ j32 : B, j32 = cur ++ j31 := ⟨_, rfl⟩
      have hlj32 : j32.length = cur.length + j31.length := by rw [hj32, List.length_append]
      have HZj32 := Lib.hid (show (¬ 9223372036854775807 < (mkS cur).size + (mkS j31).size) ∧ mkS cur ++ mkS j31 = mkS j32 from ⟨by rw [mkS_size, mkS_size]; omega, by rw [hj32]; exact mkS_add cur j31⟩)
      have HEND := Lib.hid (show j32 = h0 ++ manyP prC (vars.take (k + 1)) by rw [many_snoc_put prC vars k hkl, hone, ← List.append_assoc, ← hcur, hj32, hj31])
      clear hj31 hlj31 hj32 hlj32 hxo hl1 hl2 hbound hone ht1 ht2 hlc hcur hp1 hp2 hcell hkl hg
      go_wp2_with fail
      refine wp_region_seqE (by kernel_rfl) [7, 14, 17] (fun _ _ w => Later wr w) [some (.string (mkS cur)), some (.pointer (some ⟨W.heap.size, 0, none⟩)), some (.slice (some ⟨g, o, none⟩) n1 c1), some (.int .i64 (k : Int)), some (.pointer (some ⟨g, o + k * 2, none⟩)), some (.pointer (some ⟨g, o + k * 2, none⟩)), some (.string (mkS p1)), some (.string (mkS t1)), some (.pointer (some ⟨W.heap.size, 0, none⟩)), some (.slice (some ⟨g, o, none⟩) n1 c1), some (.int .i64 (k : Int)), some (.pointer (some ⟨g, o + k * 2, none⟩)), some (.pointer (some ⟨g, o + k * 2 + 1, none⟩)), some (.string (mkS p2)), some (.string (mkS t2)), some (.string (mkS j31)), some (.string (mkS j32)), some (.string (mkS j32))] (by decide) (by decide) (by kernel_rfl) (by kernel_rfl) 3 (by kernel_rfl) (Later.drew wr) ?_ ?_
      · refine ⟨?_, ?_, ?_, ?_, ?_, ?_, ?_, ?_, ?_, ?_, ?_, ?_, ?_, ?_, ?_, ?_, ?_, ?_, trivial⟩
        · -- 0: slot 16 := Op.move t3
          refine OwesSE.q rfl fun a w j u hC hb he hs => ⟨rfl, ?_⟩
          have e3 : a.tmps.getD 3 undef = .string (mkS cur) := he (by have := hb 2 17 rfl rfl; simp only [List.length_cons, List.length_nil]; omega)
          refine ValWp.pure (v := .string (mkS cur)) (fun K' hK' => ?_) ⟨rfl, rfl⟩
          simp only [ValWp, execOp, Act.eval, e3]
          go_simp
          all_goals exact hK'
        · -- 1: slot 17 := Op.fieldAddr 50 t1 0
          refine OwesSE.q rfl fun a w j u hC hb he hs => ⟨rfl, ?_⟩
          have e1 : a.tmps.getD 1 undef = .pointer (some ⟨W.heap.size, 0, none⟩) := hs.free 1 rfl
          refine ValWp.pure (v := .pointer (some ⟨W.heap.size, 0, none⟩)) (fun K' hK' => ?_) ⟨rfl, rfl⟩
          simp only [ValWp, execOp, Act.eval, e1]
          go_simp
          all_goals exact hK'
        · -- 2: slot 18 := Op.load 48 t17
          refine OwesSE.q rfl fun a w j u hC hb he hs => ⟨rfl, ?_⟩
          have e17 : a.tmps.getD 17 undef = .pointer (some ⟨W.heap.size, 0, none⟩) := hs.dep 1 _ rfl rfl
          have q : w.cell? ⟨W.heap.size, 0, none⟩ = some (.slice (some ⟨g, o, none⟩) n1 c1) := (cell_row (later_cells (HWR.out.trans hC) HBX1.out) 0).1
          refine ValWp.pure (v := .slice (some ⟨g, o, none⟩) n1 c1) (fun K' hK' => ?_) ⟨rfl, rfl⟩
          simp only [ValWp, execOp, Act.eval, e17]
          go_simp
          all_goals exact hK'
        · -- 3: slot 19 := Op.move t4
          refine OwesSE.q rfl fun a w j u hC hb he hs => ⟨rfl, ?_⟩
          have e4 : a.tmps.getD 4 undef = .int .i64 (k : Int) := hs.free 4 rfl
          refine ValWp.pure (v := .int .i64 (k : Int)) (fun K' hK' => ?_) ⟨rfl, rfl⟩
          simp only [ValWp, execOp, Act.eval, e4]
          go_simp
          all_goals exact hK'
        · -- 4: slot 20 := Op.indexAddr 48 t18 t19
          refine OwesSE.q rfl fun a w j u hC hb he hs => ⟨rfl, ?_⟩
          have e18 : a.tmps.getD 18 undef = .slice (some ⟨g, o, none⟩) n1 c1 := hs.dep 2 _ rfl rfl
          have e19 : a.tmps.getD 19 undef = .int .i64 (k : Int) := hs.dep 3 _ rfl rfl
          refine ValWp.pure (v := .pointer (some ⟨g, o + k * 2, none⟩)) (fun K' hK' => ?_) ⟨rfl, rfl⟩
          simp only [ValWp, execOp, Act.eval, e18, e19]
          go_simp
          all_goals exact hK'
        · -- 5: slot 21 := Op.fieldAddr 155 t20 0
          refine OwesSE.q rfl fun a w j u hC hb he hs => ⟨rfl, ?_⟩
          have e20 : a.tmps.getD 20 undef = .pointer (some ⟨g, o + k * 2, none⟩) := hs.dep 4 _ rfl rfl
          refine ValWp.pure (v := .pointer (some ⟨g, o + k * 2, none⟩)) (fun K' hK' => ?_) ⟨rfl, rfl⟩
          simp only [ValWp, execOp, Act.eval, e20]
          go_simp
          all_goals exact hK'
        · -- 6: slot 22 := Op.load 9 t21
          refine OwesSE.q rfl fun a w j u hC hb he hs => ⟨rfl, ?_⟩
          have e21 : a.tmps.getD 21 undef = .pointer (some ⟨g, o + k * 2, none⟩) := hs.dep 5 _ rfl rfl
          have q := (HEL.out w hC).1
          refine ValWp.pure (v := .string (mkS p1)) (fun K' hK' => ?_) ⟨rfl, rfl⟩
          simp only [ValWp, execOp, Act.eval, e21]
          go_simp
          all_goals exact hK'
        · -- 7: slot 23 := Op.call { value (Operand.func 75), args := #[t22], argTypes := #[9] }
          refine OwesSE.w rfl fun a w u hC hl hs => ⟨rfl, fun K hK => ?_⟩
          have e22 : a.tmps.getD 22 undef = .string (mkS p1) := hs.dep 6 _ rfl rfl
          refine wp_of_val ?_
          refine ValWp.call #[.string (mkS p1)] rfl rfl Try.func41 rfl rfl (by simp only [List.map_toArray, List.map_cons, List.map_nil, Act.eval, e22]) ?_
          refine (HT1.out w).mono ?_
          rintro e w' ⟨rfl, hb⟩
          exact ⟨_, rfl, hK _ _ rfl (Later.trans hC hb)⟩
        · -- 8: slot 24 := Op.fieldAddr 50 t1 0
          refine OwesSE.q rfl fun a w j u hC hb he hs => ⟨rfl, ?_⟩
          have e1 : a.tmps.getD 1 undef = .pointer (some ⟨W.heap.size, 0, none⟩) := hs.free 1 rfl
          refine ValWp.pure (v := .pointer (some ⟨W.heap.size, 0, none⟩)) (fun K' hK' => ?_) ⟨rfl, rfl⟩
          simp only [ValWp, execOp, Act.eval, e1]
          go_simp
          all_goals exact hK'
        · -- 9: slot 25 := Op.load 48 t24
          refine OwesSE.q rfl fun a w j u hC hb he hs => ⟨rfl, ?_⟩
          have e24 : a.tmps.getD 24 undef = .pointer (some ⟨W.heap.size, 0, none⟩) := hs.dep 8 _ rfl rfl
          have q : w.cell? ⟨W.heap.size, 0, none⟩ = some (.slice (some ⟨g, o, none⟩) n1 c1) := (cell_row (later_cells (HWR.out.trans hC) HBX1.out) 0).1
          refine ValWp.pure (v := .slice (some ⟨g, o, none⟩) n1 c1) (fun K' hK' => ?_) ⟨rfl, rfl⟩
          simp only [ValWp, execOp, Act.eval, e24]
          go_simp
          all_goals exact hK'
        · -- 10: slot 26 := Op.move t4
          refine OwesSE.q rfl fun a w j u hC hb he hs => ⟨rfl, ?_⟩
          have e4 : a.tmps.getD 4 undef = .int .i64 (k : Int) := hs.free 4 rfl
          refine ValWp.pure (v := .int .i64 (k : Int)) (fun K' hK' => ?_) ⟨rfl, rfl⟩
          simp only [ValWp, execOp, Act.eval, e4]
          go_simp
          all_goals exact hK'
        · -- 11: slot 27 := Op.indexAddr 48 t25 t26
          refine OwesSE.q rfl fun a w j u hC hb he hs => ⟨rfl, ?_⟩
          have e25 : a.tmps.getD 25 undef = .slice (some ⟨g, o, none⟩) n1 c1 := hs.dep 9 _ rfl rfl
          have e26 : a.tmps.getD 26 undef = .int .i64 (k : Int) := hs.dep 10 _ rfl rfl
          refine ValWp.pure (v := .pointer (some ⟨g, o + k * 2, none⟩)) (fun K' hK' => ?_) ⟨rfl, rfl⟩
          simp only [ValWp, execOp, Act.eval, e25, e26]
          go_simp
          all_goals exact hK'
        · -- 12: slot 28 := Op.fieldAddr 155 t27 1
          refine OwesSE.q rfl fun a w j u hC hb he hs => ⟨rfl, ?_⟩
          have e27 : a.tmps.getD 27 undef = .pointer (some ⟨g, o + k * 2, none⟩) := hs.dep 11 _ rfl rfl
          refine ValWp.pure (v := .pointer (some ⟨g, o + k * 2 + 1, none⟩)) (fun K' hK' => ?_) ⟨rfl, rfl⟩
          simp only [ValWp, execOp, Act.eval, e27]
          go_simp
          all_goals exact hK'
        · -- 13: slot 29 := Op.load 9 t28
          refine OwesSE.q rfl fun a w j u hC hb he hs => ⟨rfl, ?_⟩
          have e28 : a.tmps.getD 28 undef = .pointer (some ⟨g, o + k * 2 + 1, none⟩) := hs.dep 12 _ rfl rfl
          have q := (HEL.out w hC).2
          refine ValWp.pure (v := .string (mkS p2)) (fun K' hK' => ?_) ⟨rfl, rfl⟩
          simp only [ValWp, execOp, Act.eval, e28]
          go_simp
          all_goals exact hK'
        · -- 14: slot 30 := Op.call { value (Operand.func 75), args := #[t29], argTypes := #[9] }
          refine OwesSE.w rfl fun a w u hC hl hs => ⟨rfl, fun K hK => ?_⟩
          have e29 : a.tmps.getD 29 undef = .string (mkS p2) := hs.dep 13 _ rfl rfl
          refine wp_of_val ?_
          refine ValWp.call #[.string (mkS p2)] rfl rfl Try.func41 rfl rfl (by simp only [List.map_toArray, List.map_cons, List.map_nil, Act.eval, e29]) ?_
          refine (HT2.out w).mono ?_
          rintro e w' ⟨rfl, hb⟩
          exact ⟨_, rfl, hK _ _ rfl (Later.trans hC hb)⟩
        · -- 15: slot 31 := Op.binOp BinOp.add 9 t23 t30 9
          refine OwesSE.q rfl fun a w j u hC hb he hs => ⟨rfl, ?_⟩
          have e23 : a.tmps.getD 23 undef = .string (mkS t1) := hs.dep 7 _ rfl rfl
          have e30 : a.tmps.getD 30 undef = .string (mkS t2) := hs.dep 14 _ rfl rfl
          have hz := HZj31.out.1
          have hq := HZj31.out.2
          refine ValWp.pure (v := .string (mkS j31)) (fun K' hK' => ?_) ⟨rfl, rfl⟩
          simp only [ValWp, execOp, Act.eval, e23, e30]
          go_simp
          all_goals exact hK'
        · -- 16: slot 32 := Op.binOp BinOp.add 9 t16 t31 9
          refine OwesSE.q rfl fun a w j u hC hb he hs => ⟨rfl, ?_⟩
          have e16 : a.tmps.getD 16 undef = .string (mkS cur) := hs.dep 0 _ rfl rfl
          have e31 : a.tmps.getD 31 undef = .string (mkS j31) := hs.dep 15 _ rfl rfl
          have hz := HZj32.out.1
          have hq := HZj32.out.2
          refine ValWp.pure (v := .string (mkS j32)) (fun K' hK' => ?_) ⟨rfl, rfl⟩
          simp only [ValWp, execOp, Act.eval, e16, e31]
          go_simp
          all_goals exact hK'
        · -- 17: slot 3 := Op.assign t32
          refine OwesSE.w rfl fun a w u hC hl hs => ⟨rfl, fun K hK => ?_⟩
          have e32 : a.tmps.getD 32 undef = .string (mkS j32) := hs.dep 16 _ rfl rfl
          refine wp_of_val ?_
          refine ValWp.pure (v := .string (mkS j32)) (w' := w) (fun K' hK' => ?_) (hK _ _ rfl hC)
          simp only [ValWp, execOp, Act.eval, e32]
          go_simp
          all_goals exact hK'
      · intro a w u hC hl hd hsz hfree hs
        obtain ⟨u16, hu16⟩ : ∃ u, u = a.tmps.getD 16 undef := ⟨_, rfl⟩
        obtain ⟨u17, hu17⟩ : ∃ u, u = a.tmps.getD 17 undef := ⟨_, rfl⟩
        obtain ⟨u18, hu18⟩ : ∃ u, u = a.tmps.getD 18 undef := ⟨_, rfl⟩
        obtain ⟨u19, hu19⟩ : ∃ u, u = a.tmps.getD 19 undef := ⟨_, rfl⟩
        obtain ⟨u20, hu20⟩ : ∃ u, u = a.tmps.getD 20 undef := ⟨_, rfl⟩
        obtain ⟨u21, hu21⟩ : ∃ u, u = a.tmps.getD 21 undef := ⟨_, rfl⟩
        obtain ⟨u22, hu22⟩ : ∃ u, u = a.tmps.getD 22 undef := ⟨_, rfl⟩
        obtain ⟨u23, hu23⟩ : ∃ u, u = a.tmps.getD 23 undef := ⟨_, rfl⟩
        obtain ⟨u24, hu24⟩ : ∃ u, u = a.tmps.getD 24 undef := ⟨_, rfl⟩
        obtain ⟨u25, hu25⟩ : ∃ u, u = a.tmps.getD 25 undef := ⟨_, rfl⟩
        obtain ⟨u26, hu26⟩ : ∃ u, u = a.tmps.getD 26 undef := ⟨_, rfl⟩
        obtain ⟨u27, hu27⟩ : ∃ u, u = a.tmps.getD 27 undef := ⟨_, rfl⟩
        obtain ⟨u28, hu28⟩ : ∃ u, u = a.tmps.getD 28 undef := ⟨_, rfl⟩
        obtain ⟨u29, hu29⟩ : ∃ u, u = a.tmps.getD 29 undef := ⟨_, rfl⟩
        obtain ⟨u30, hu30⟩ : ∃ u, u = a.tmps.getD 30 undef := ⟨_, rfl⟩
        obtain ⟨u31, hu31⟩ : ∃ u, u = a.tmps.getD 31 undef := ⟨_, rfl⟩
        obtain ⟨u32, hu32⟩ : ∃ u, u = a.tmps.getD 32 undef := ⟨_, rfl⟩
        have hal : AllAt a 0 [_, _, _, .string (mkS j32), _, _, _, _, _, _, _, _, _, _, _, _, u16, u17, u18, u19, u20, u21, u22, u23, u24, u25, u26, u27, u28, u29, u30, u31, u32, _, _, _, _, _, _, _, _, _, _, _, _, _] := ⟨hfree 0 rfl, hfree 1 rfl, hfree 2 rfl, hs 17 _ rfl, hfree 4 rfl, hfree 5 rfl, hfree 6 rfl, hfree 7 rfl, hfree 8 rfl, hfree 9 rfl, hfree 10 rfl, hfree 11 rfl, hfree 12 rfl, hfree 13 rfl, hfree 14 rfl, hfree 15 rfl, hu16.symm, hu17.symm, hu18.symm, hu19.symm, hu20.symm, hu21.symm, hu22.symm, hu23.symm, hu24.symm, hu25.symm, hu26.symm, hu27.symm, hu28.symm, hu29.symm, hu30.symm, hu31.symm, hu32.symm, hfree 33 rfl, hfree 34 rfl, hfree 35 rfl, hfree 36 rfl, hfree 37 rfl, hfree 38 rfl, hfree 39 rfl, hfree 40 rfl, hfree 41 rfl, hfree 42 rfl, hfree 43 rfl, hfree 44 rfl, hfree 45 rfl, trivial⟩
        have hlit := fun h => act_lit hd h hal
        rw [hlit hsz]
        simp only [Array.getD_eq_getD_getElem?, List.getElem?_toArray, List.getElem?_cons_zero, List.getElem?_cons_succ, Option.getD_some]
        clear hlit hal hd hsz hfree hs hu16 hu17 hu18 hu19 hu20 hu21 hu22 hu23 hu24 hu25 hu26 hu27 hu28 hu29 hu30 hu31 hu32
        go_wp2
        go_roundw
        case rel => exact ⟨k + 1, by omega, by go_num, by rw [HEND.out], HWR.out.trans hC⟩
        case measure => simp [intOf]; omega
    · have e : vars.take k = vars := by rw [List.take_of_length_le]; have := HNN.out; omega
      have hlt1 : ¬ (k : Int) < (n1 : Int) := by omega
      rw [e]
      clear e
      have hxo := HX.out
      obtain ⟨cur, hcur⟩ : ∃ cur, cur = h0 ++ manyP prC vars := ⟨_, rfl⟩
      have hlc : cur.length = h0.length + (manyP prC vars).length := by rw [hcur, List.length_append]
      rw [← hcur]
      obtain ⟨j37, hj37⟩ : ∃ j37 : B, j37 = cur ++ t3 := ⟨_, rfl⟩
      have hlj37 : j37.length = cur.length + t3.length := by rw [hj37, List.length_append]
      have HZj37 := Lib.hid (show (¬ 9223372036854775807 < (mkS cur).size + (mkS t3).size) ∧ mkS cur ++ mkS t3 = mkS j37 from ⟨by rw [mkS_size, mkS_size]; omega, by rw [hj37]; exact mkS_add cur t3⟩)
      obtain ⟨j41, hj41⟩ : ∃ j41 : B, j41 = j37 ++ t4 := ⟨_, rfl⟩
      have hlj41 : j41.length = j37.length + t4.length := by rw [hj41, List.length_append]
      have HZj41 := Lib.hid (show (¬ 9223372036854775807 < (mkS j37).size + (mkS t4).size) ∧ mkS j37 ++ mkS t4 = mkS j41 from ⟨by rw [mkS_size, mkS_size]; omega, by rw [hj41]; exact mkS_add j37 t4⟩)
      obtain ⟨j45, hj45⟩ : ∃ j45 : B, j45 = j41 ++ t5 := ⟨_, rfl⟩
      have hlj45 : j45.length = j41.length + t5.length := by rw [hj45, List.length_append]
      have HZj45 := Lib.hid (show (¬ 9223372036854775807 < (mkS j41).size + (mkS t5).size) ∧ mkS j41 ++ mkS t5 = mkS j45 from ⟨by rw [mkS_size, mkS_size]; omega, by rw [hj45]; exact mkS_add j41 t5⟩)
      have HEND := Lib.hid (show j45 = h0 ++ manyP prC vars ++ (t3 ++ (t4 ++ t5)) by rw [hj45, hj41, hj37, hcur]; simp only [List.append_assoc])
      clear hj37 hlj37 hj41 hlj41 hj45 hlj45 hxo hlc hcur hlt
      go_wp2_with fail
      refine wp_region_seq (by kernel_rfl) [3, 7, 11] (fun _ _ w => Later wr w) [some (.string (mkS cur)), some (.pointer (some ⟨W.heap.size, 1, none⟩)), some (.slice A2 n2 c2), some (.string (mkS t3)), some (.string (mkS j37)), some (.pointer (some ⟨W.heap.size, 2, none⟩)), some (.int .i64 status), some (.string (mkS t4)), some (.string (mkS j41)), some (.pointer (some ⟨W.heap.size, 3, none⟩)), some (.string (mkS flags)), some (.string (mkS t5)), some (.string (mkS j45)), some (.string (mkS j45))] (by decide) (by decide) (by kernel_rfl) (by kernel_rfl) (Later.drew wr) ?_ ?_
      · refine ⟨?_, ?_, ?_, ?_, ?_, ?_, ?_, ?_, ?_, ?_, ?_, ?_, ?_, ?_, trivial⟩
        · -- 0: slot 33 := Op.move t3
          refine OwesS.q rfl fun a w j u hC hb hs => ⟨rfl, ?_⟩
          have e3 : a.tmps.getD 3 undef = .string (mkS cur) := hs.free 3 rfl
          refine ValWp.pure (v := .string (mkS cur)) (fun K' hK' => ?_) ⟨rfl, rfl⟩
          simp only [ValWp, execOp, Act.eval, e3]
          go_simp
          all_goals exact hK'
        · -- 1: slot 34 := Op.fieldAddr 50 t1 1
          refine OwesS.q rfl fun a w j u hC hb hs => ⟨rfl, ?_⟩
          have e1 : a.tmps.getD 1 undef = .pointer (some ⟨W.heap.size, 0, none⟩) := hs.free 1 rfl
          refine ValWp.pure (v := .pointer (some ⟨W.heap.size, 1, none⟩)) (fun K' hK' => ?_) ⟨rfl, rfl⟩
          simp only [ValWp, execOp, Act.eval, e1]
          go_simp
          all_goals exact hK'
        · -- 2: slot 35 := Op.load 23 t34
          refine OwesS.q rfl fun a w j u hC hb hs => ⟨rfl, ?_⟩
          have e34 : a.tmps.getD 34 undef = .pointer (some ⟨W.heap.size, 1, none⟩) := hs.dep 1 _ rfl rfl
          have q : w.cell? ⟨W.heap.size, 1, none⟩ = some (.slice A2 n2 c2) := (cell_row (later_cells (HWR.out.trans hC) HBX1.out) 1).1
          refine ValWp.pure (v := .slice A2 n2 c2) (fun K' hK' => ?_) ⟨rfl, rfl⟩
          simp only [ValWp, execOp, Act.eval, e34]
          go_simp
          all_goals exact hK'
        · -- 3: slot 36 := Op.call { value (Operand.func 35), args := #[t35], argTypes := #[23] }
          refine OwesS.w rfl fun a w u hC hl hs => ⟨rfl, fun K hK => ?_⟩
          have e35 : a.tmps.getD 35 undef = .slice A2 n2 c2 := hs.dep 2 _ rfl rfl
          refine wp_of_val ?_
          refine ValWp.call #[.slice A2 n2 c2] rfl rfl Try.func18 rfl rfl (by simp only [List.map_toArray, List.map_cons, List.map_nil, Act.eval, e35]) ?_
          refine (HT3.out w (HL1.out.trans (HWR.out.trans hC))).mono ?_
          rintro e w' ⟨rfl, hb⟩
          exact ⟨_, rfl, hK _ _ rfl (Later.trans hC hb)⟩
        · -- 4: slot 37 := Op.binOp BinOp.add 9 t33 t36 9
          refine OwesS.q rfl fun a w j u hC hb hs => ⟨rfl, ?_⟩
          have e33 : a.tmps.getD 33 undef = .string (mkS cur) := hs.dep 0 _ rfl rfl
          have e36 : a.tmps.getD 36 undef = .string (mkS t3) := hs.dep 3 _ rfl rfl
          have hz := HZj37.out.1
          have hq := HZj37.out.2
          refine ValWp.pure (v := .string (mkS j37)) (fun K' hK' => ?_) ⟨rfl, rfl⟩
          simp only [ValWp, execOp, Act.eval, e33, e36]
          go_simp
          all_goals exact hK'
        · -- 5: slot 38 := Op.fieldAddr 50 t1 2
          refine OwesS.q rfl fun a w j u hC hb hs => ⟨rfl, ?_⟩
          have e1 : a.tmps.getD 1 undef = .pointer (some ⟨W.heap.size, 0, none⟩) := hs.free 1 rfl
          refine ValWp.pure (v := .pointer (some ⟨W.heap.size, 2, none⟩)) (fun K' hK' => ?_) ⟨rfl, rfl⟩
          simp only [ValWp, execOp, Act.eval, e1]
          go_simp
          all_goals exact hK'
        · -- 6: slot 39 := Op.load 3 t38
          refine OwesS.q rfl fun a w j u hC hb hs => ⟨rfl, ?_⟩
          have e38 : a.tmps.getD 38 undef = .pointer (some ⟨W.heap.size, 2, none⟩) := hs.dep 5 _ rfl rfl
          have q : w.cell? ⟨W.heap.size, 2, none⟩ = some (.int .i64 status) := (cell_row (later_cells (HWR.out.trans hC) HBX1.out) 2).1
          refine ValWp.pure (v := .int .i64 status) (fun K' hK' => ?_) ⟨rfl, rfl⟩
          simp only [ValWp, execOp, Act.eval, e38]
          go_simp
          all_goals exact hK'
        · -- 7: slot 40 := Op.call { value (Operand.func 36), args := #[t39], argTypes := #[2] }
          refine OwesS.w rfl fun a w u hC hl hs => ⟨rfl, fun K hK => ?_⟩
          have e39 : a.tmps.getD 39 undef = .int .i64 status := hs.dep 6 _ rfl rfl
          refine wp_of_val ?_
          refine ValWp.call #[.int .i64 status] rfl rfl Try.func19 rfl rfl (by simp only [List.map_toArray, List.map_cons, List.map_nil, Act.eval, e39]) ?_
          refine (HT4.out w).mono ?_
          rintro e w' ⟨rfl, hb⟩
          exact ⟨_, rfl, hK _ _ rfl (Later.trans hC hb)⟩
        · -- 8: slot 41 := Op.binOp BinOp.add 9 t37 t40 9
          refine OwesS.q rfl fun a w j u hC hb hs => ⟨rfl, ?_⟩
          have e37 : a.tmps.getD 37 undef = .string (mkS j37) := hs.dep 4 _ rfl rfl
          have e40 : a.tmps.getD 40 undef = .string (mkS t4) := hs.dep 7 _ rfl rfl
          have hz := HZj41.out.1
          have hq := HZj41.out.2
          refine ValWp.pure (v := .string (mkS j41)) (fun K' hK' => ?_) ⟨rfl, rfl⟩
          simp only [ValWp, execOp, Act.eval, e37, e40]
          go_simp
          all_goals exact hK'
        · -- 9: slot 42 := Op.fieldAddr 50 t1 3
          refine OwesS.q rfl fun a w j u hC hb hs => ⟨rfl, ?_⟩
          have e1 : a.tmps.getD 1 undef = .pointer (some ⟨W.heap.size, 0, none⟩) := hs.free 1 rfl
          refine ValWp.pure (v := .pointer (some ⟨W.heap.size, 3, none⟩)) (fun K' hK' => ?_) ⟨rfl, rfl⟩
          simp only [ValWp, execOp, Act.eval, e1]
          go_simp
          all_goals exact hK'
        · -- 10: slot 43 := Op.load 9 t42
          refine OwesS.q rfl fun a w j u hC hb hs => ⟨rfl, ?_⟩
          have e42 : a.tmps.getD 42 undef = .pointer (some ⟨W.heap.size, 3, none⟩) := hs.dep 9 _ rfl rfl
          have q : w.cell? ⟨W.heap.size, 3, none⟩ = some (.string (mkS flags)) := (cell_row (later_cells (HWR.out.trans hC) HBX1.out) 3).1
          refine ValWp.pure (v := .string (mkS flags)) (fun K' hK' => ?_) ⟨rfl, rfl⟩
          simp only [ValWp, execOp, Act.eval, e42]
          go_simp
          all_goals exact hK'
        · -- 11: slot 44 := Op.call { value (Operand.func 75), args := #[t43], argTypes := #[9] }
          refine OwesS.w rfl fun a w u hC hl hs => ⟨rfl, fun K hK => ?_⟩
          have e43 : a.tmps.getD 43 undef = .string (mkS flags) := hs.dep 10 _ rfl rfl
          refine wp_of_val ?_
          refine ValWp.call #[.string (mkS flags)] rfl rfl Try.func41 rfl rfl (by simp only [List.map_toArray, List.map_cons, List.map_nil, Act.eval, e43]) ?_
          refine (HT5.out w).mono ?_
          rintro e w' ⟨rfl, hb⟩
          exact ⟨_, rfl, hK _ _ rfl (Later.trans hC hb)⟩
        · -- 12: slot 45 := Op.binOp BinOp.add 9 t41 t44 9
          refine OwesS.q rfl fun a w j u hC hb hs => ⟨rfl, ?_⟩
          have e41 : a.tmps.getD 41 undef = .string (mkS j41) := hs.dep 8 _ rfl rfl
          have e44 : a.tmps.getD 44 undef = .string (mkS t5) := hs.dep 11 _ rfl rfl
          have hz := HZj45.out.1
          have hq := HZj45.out.2
          refine ValWp.pure (v := .string (mkS j45)) (fun K' hK' => ?_) ⟨rfl, rfl⟩
          simp only [ValWp, execOp, Act.eval, e41, e44]
          go_simp
          all_goals exact hK'
        · -- 13: slot 2 := Op.assign t45
          refine OwesS.q rfl fun a w j u hC hb hs => ⟨rfl, ?_⟩
          have e45 : a.tmps.getD 45 undef = .string (mkS j45) := hs.dep 12 _ rfl rfl
          refine ValWp.pure (v := .string (mkS j45)) (fun K' hK' => ?_) ⟨rfl, rfl⟩
          simp only [ValWp, execOp, Act.eval, e45]
          go_simp
          all_goals exact hK'
      · intro a w u hC hl hd hsz hfree hs
        obtain ⟨u33, hu33⟩ : ∃ u, u = a.tmps.getD 33 undef := ⟨_, rfl⟩
        obtain ⟨u34, hu34⟩ : ∃ u, u = a.tmps.getD 34 undef := ⟨_, rfl⟩
        obtain ⟨u35, hu35⟩ : ∃ u, u = a.tmps.getD 35 undef := ⟨_, rfl⟩
        obtain ⟨u36, hu36⟩ : ∃ u, u = a.tmps.getD 36 undef := ⟨_, rfl⟩
        obtain ⟨u37, hu37⟩ : ∃ u, u = a.tmps.getD 37 undef := ⟨_, rfl⟩
        obtain ⟨u38, hu38⟩ : ∃ u, u = a.tmps.getD 38 undef := ⟨_, rfl⟩
        obtain ⟨u39, hu39⟩ : ∃ u, u = a.tmps.getD 39 undef := ⟨_, rfl⟩
        obtain ⟨u40, hu40⟩ : ∃ u, u = a.tmps.getD 40 undef := ⟨_, rfl⟩
        obtain ⟨u41, hu41⟩ : ∃ u, u = a.tmps.getD 41 undef := ⟨_, rfl⟩
        obtain ⟨u42, hu42⟩ : ∃ u, u = a.tmps.getD 42 undef := ⟨_, rfl⟩
        obtain ⟨u43, hu43⟩ : ∃ u, u = a.tmps.getD 43 undef := ⟨_, rfl⟩
        obtain ⟨u44, hu44⟩ : ∃ u, u = a.tmps.getD 44 undef := ⟨_, rfl⟩
        obtain ⟨u45, hu45⟩ : ∃ u, u = a.tmps.getD 45 undef := ⟨_, rfl⟩
        have hal : AllAt a 0 [_, _, .string (mkS j45), _, _, _, _, _, _, _, _, _, _, _, _, _, _, _, _, _, _, _, _, _, _, _, _, _, _, _, _, _, _, u33, u34, u35, u36, u37, u38, u39, u40, u41, u42, u43, u44, u45] := ⟨hfree 0 rfl, hfree 1 rfl, hs 13 _ rfl, hfree 3 rfl, hfree 4 rfl, hfree 5 rfl, hfree 6 rfl, hfree 7 rfl, hfree 8 rfl, hfree 9 rfl, hfree 10 rfl, hfree 11 rfl, hfree 12 rfl, hfree 13 rfl, hfree 14 rfl, hfree 15 rfl, hfree 16 rfl, hfree 17 rfl, hfree 18 rfl, hfree 19 rfl, hfree 20 rfl, hfree 21 rfl, hfree 22 rfl, hfree 23 rfl, hfree 24 rfl, hfree 25 rfl, hfree 26 rfl, hfree 27 rfl, hfree 28 rfl, hfree 29 rfl, hfree 30 rfl, hfree 31 rfl, hfree 32 rfl, hu33.symm, hu34.symm, hu35.symm, hu36.symm, hu37.symm, hu38.symm, hu39.symm, hu40.symm, hu41.symm, hu42.symm, hu43.symm, hu44.symm, hu45.symm, trivial⟩
        have hlit := fun h => act_lit hd h hal
        rw [hlit hsz]
        simp only [Array.getD_eq_getD_getElem?, List.getElem?_toArray, List.getElem?_cons_zero, List.getElem?_cons_succ, Option.getD_some]
        clear hlit hal hd hsz hfree hs hu33 hu34 hu35 hu36 hu37 hu38 hu39 hu40 hu41 hu42 hu43 hu44 hu45
        go_wp2
        go_ret
        exact ⟨by rw [← HEND.out]; rfl, HL1.out.trans (HWR.out.trans hC)⟩
end Ks
end Go.Proofs.Yteljmlodbnfhbaa
