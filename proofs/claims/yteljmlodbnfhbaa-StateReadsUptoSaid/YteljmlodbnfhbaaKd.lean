/- THE DOCUMENT'S bytes of what a subshell keeps. No premises. -/
import Derived.Test.YteljmlodbnfhbaaKc
namespace Go.Proofs.Yteljmlodbnfhbaa
open Go.RowKit
namespace Ks
set_option maxRecDepth 100000 in
set_option maxHeartbeats 6400000 in
theorem keep_v (k : Kp) (cs : List Value) (W : World) (h : kpR.C W W.heap.size cs k) (hok : kpC.ok k) (hx : (kpC.put k).length ≤ 100000000) :
    Calls Try.prog 17 #[.agg cs.toArray] W fun r W' => r = .returned (.string (mkS (kpC.put k))) ∧ Later W W' := by
  obtain ⟨A1, c1, A2, c2, A3, c3, A4, c4, A5, c5, rfl, hE, hr3, hr4, hr5, hc3, hd3, hc4, hd4, hc5, hd5⟩ := kp_cells h
  obtain ⟨vars, args, status, flags, funcs, traps, fds⟩ := k
  obtain ⟨hoE, ho3, ho4, ho5⟩ := hok
  have hoE : envC.ok (vars, args, status, flags) := hoE
  have hm3 : funcs.length ≤ 100000 := ho3.1
  have hm4 : traps.length ≤ 100000 := ho4.1
  have hm5 : fds.length ≤ 100000 := ho5.1
  have HOfuncs := Lib.hid (show ∀ a ∈ funcs, fnC.ok a from ho3.2)
  have HOtraps := Lib.hid (show ∀ a ∈ traps, tpC.ok a from ho4.2)
  have HOfds := Lib.hid (show ∀ a ∈ fds, fdC.ok a from ho5.2)
  have HRfuncs := Lib.hid (show Row fnR W W.heap.size A3 funcs from hr3)
  have HRtraps := Lib.hid (show Row tpR W W.heap.size A4 traps from hr4)
  have HRfds := Lib.hid (show Row fdR W W.heap.size A5 fds from hr5)
  clear h ho3 ho4 ho5 hr3 hr4 hr5
  dsimp only at *
  obtain ⟨n1, hn1⟩ : ∃ n, n = vars.length := ⟨_, rfl⟩
  obtain ⟨n2, hn2⟩ : ∃ n, n = args.length := ⟨_, rfl⟩
  obtain ⟨n3, hn3⟩ : ∃ n, n = funcs.length := ⟨_, rfl⟩
  obtain ⟨n4, hn4⟩ : ∃ n, n = traps.length := ⟨_, rfl⟩
  obtain ⟨n5, hn5⟩ : ∃ n, n = fds.length := ⟨_, rfl⟩
  rw [← hn1, ← hn2] at hE
  rw [← hn3] at hc3 hm3
  rw [← hn4] at hc4 hm4
  rw [← hn5] at hc5 hm5
  have hput : kpC.put ⟨vars, args, status, flags, funcs, traps, fds⟩ = envC.put (vars, args, status, flags) ++ ((numP n3 ++ manyP fnC funcs) ++ ((numP n4 ++ manyP tpC traps) ++ (numP n5 ++ manyP fdC fds))) := by rw [hn3, hn4, hn5]; rfl
  rw [hput] at hx ⊢
  obtain ⟨tE, htE⟩ : ∃ y, y = envC.put (vars, args, status, flags) := ⟨_, rfl⟩
  rw [← htE] at hx ⊢
  obtain ⟨x3, hx3⟩ : ∃ y, y = numP n3 := ⟨_, rfl⟩
  rw [← hx3] at hx ⊢
  obtain ⟨x4, hx4⟩ : ∃ y, y = numP n4 := ⟨_, rfl⟩
  rw [← hx4] at hx ⊢
  obtain ⟨x5, hx5⟩ : ∃ y, y = numP n5 := ⟨_, rfl⟩
  rw [← hx5] at hx ⊢
  have hxs := hx
  simp only [List.length_append] at hxs
  have HtE := Lib.hid (fun (w' : World) (hl : Later W w') => around_v (vars, args, status, flags) _ w' (Rp.later hE hl) hoE (by rw [← htE]; omega))
  rw [← htE] at HtE
  have Hx3 := Lib.hid (fun w => n_v (n3 : Int) ⟨by omega, by omega⟩ w)
  rw [← hx3] at Hx3
  have Hx4 := Lib.hid (fun w => n_v (n4 : Int) ⟨by omega, by omega⟩ w)
  rw [← hx4] at Hx4
  have Hx5 := Lib.hid (fun w => n_v (n5 : Int) ⟨by omega, by omega⟩ w)
  rw [← hx5] at Hx5
  rw [← hn1, ← hn2, ← hn3, ← hn4, ← hn5]
  have HXS := Lib.hid hxs
  obtain ⟨j14, hj14⟩ : ∃ j14 : B, j14 = tE ++ x3 := ⟨_, rfl⟩
  have hlj14 : j14.length = tE.length + x3.length := by rw [hj14, List.length_append]
  have HZj14 := Lib.hid (show (¬ 9223372036854775807 < (mkS tE).size + (mkS x3).size) ∧ mkS tE ++ mkS x3 = mkS j14 from ⟨by rw [mkS_size, mkS_size]; omega, by rw [hj14]; exact mkS_add tE x3⟩)
  have HLENa3 := Lib.hid (show j14.length = tE.length + x3.length by omega)
  have HDEFa3 := Lib.hid (show j14 = tE ++ x3 by rw [hj14])
  have HNfuncs := Lib.hid hn3
  have HNtraps := Lib.hid hn4
  have HNfds := Lib.hid hn5
  have HBX := heap_alloc_new W (.cells #[.slice A1 n1 c1, .slice A2 n2 c2, .int .i64 status, .string (mkS flags), .slice A3 n3 c3, .slice A4 n4 c4, .slice A5 n5 c5] 55)
  obtain ⟨w1, hw1⟩ : ∃ w1, w1 = W.alloc (.cells #[.slice A1 n1 c1, .slice A2 n2 c2, .int .i64 status, .string (mkS flags), .slice A3 n3 c3, .slice A4 n4 c4, .slice A5 n5 c5] 55) := ⟨_, rfl⟩
  have HLw1 := Lib.hid (show Later W w1 by rw [hw1]; exact Later.alloc W _)
  rw [← hw1] at HBX
  have HXw1 := Lib.hid HBX
  have HRF0 := Lib.hid (Later.refl w1)
  clear HBX hj14 hlj14 htE hx3 hx4 hx5 hx hxs hput hn1 hn2 hn3 hn4 hn5 hE hoE
  go_enter Try.func17, Try.ntmps17
  go_wp2_with fail
  rw [← hw1]
  clear hw1
  refine wp_region_seq (by kernel_rfl) [2, 6] (fun _ _ w => Later w1 w) [some (.pointer (some ⟨W.heap.size, 0, none⟩)), some (.agg #[.slice A1 n1 c1, .slice A2 n2 c2, .int .i64 status, .string (mkS flags)]), some (.string (mkS tE)), some (.pointer (some ⟨W.heap.size, 4, none⟩)), some (.slice A3 n3 c3), some (.int .i64 (n3 : Int)), some (.string (mkS x3)), some (.string (mkS j14)), some (.string (mkS j14))] (by decide) (by decide) (by kernel_rfl) (by kernel_rfl) (Later.drew w1) ?_ ?_
  · refine ⟨?_, ?_, ?_, ?_, ?_, ?_, ?_, ?_, ?_, trivial⟩
    · -- 0: slot 7 := Op.fieldAddr 55 t1 0
      refine OwesS.q rfl fun a w j u hC hb hs => ⟨rfl, ?_⟩
      have e1 : a.tmps.getD 1 undef = .pointer (some ⟨W.heap.size, 0, none⟩) := hs.free 1 rfl
      refine ValWp.pure (v := .pointer (some ⟨W.heap.size, 0, none⟩)) (fun K' hK' => ?_) ⟨rfl, rfl⟩
      simp only [ValWp, execOp, Act.eval, e1]
      go_simp
      all_goals exact hK'
    · -- 1: slot 8 := Op.load 50 t7
      refine OwesS.q rfl fun a w j u hC hb hs => ⟨rfl, ?_⟩
      have e7 : a.tmps.getD 7 undef = .pointer (some ⟨W.heap.size, 0, none⟩) := hs.dep 0 _ rfl rfl
      exact ValWp.loadR rfl e7 (load_sub (later_cells (HRF0.out.trans hC) HXw1.out) [.slice A1 n1 c1, .slice A2 n2 c2, .int .i64 status, .string (mkS flags)] rfl Try.underlying50 rfl (by kernel_rfl)) ⟨rfl, rfl⟩
    · -- 2: slot 9 := Op.call { value (Operand.func 74), args := #[t8], argTypes := #[50] }
      refine OwesS.w rfl fun a w u hC hl hs => ⟨rfl, fun K hK => ?_⟩
      have e8 : a.tmps.getD 8 undef = .agg #[.slice A1 n1 c1, .slice A2 n2 c2, .int .i64 status, .string (mkS flags)] := hs.dep 1 _ rfl rfl
      refine wp_of_val ?_
      refine ValWp.call #[.agg #[.slice A1 n1 c1, .slice A2 n2 c2, .int .i64 status, .string (mkS flags)]] rfl rfl Try.func40 rfl rfl (by simp only [List.map_toArray, List.map_cons, List.map_nil, Act.eval, e8]) ?_
      refine (HtE.out w (HLw1.out.trans hC)).mono ?_
      rintro e w' ⟨rfl, hb⟩
      exact ⟨_, rfl, hK _ _ rfl (Later.trans hC hb)⟩
    · -- 3: slot 10 := Op.fieldAddr 55 t1 1
      refine OwesS.q rfl fun a w j u hC hb hs => ⟨rfl, ?_⟩
      have e1 : a.tmps.getD 1 undef = .pointer (some ⟨W.heap.size, 0, none⟩) := hs.free 1 rfl
      refine ValWp.pure (v := .pointer (some ⟨W.heap.size, 4, none⟩)) (fun K' hK' => ?_) ⟨rfl, rfl⟩
      simp only [ValWp, execOp, Act.eval, e1]
      go_simp
      all_goals exact hK'
    · -- 4: slot 11 := Op.load 51 t10
      refine OwesS.q rfl fun a w j u hC hb hs => ⟨rfl, ?_⟩
      have e10 : a.tmps.getD 10 undef = .pointer (some ⟨W.heap.size, 4, none⟩) := hs.dep 3 _ rfl rfl
      have q : w.cell? ⟨W.heap.size, 4, none⟩ = some (.slice A3 n3 c3) := (cell_row (later_cells (HRF0.out.trans hC) HXw1.out) 4).1
      refine ValWp.pure (v := .slice A3 n3 c3) (fun K' hK' => ?_) ⟨rfl, rfl⟩
      simp only [ValWp, execOp, Act.eval, e10]
      go_simp
      all_goals exact hK'
    · -- 5: slot 12 := Op.call { builtin len, args := #[t11], argTypes := #[51] }
      refine OwesS.q rfl fun a w j u hC hb hs => ⟨rfl, ?_⟩
      have e11 : a.tmps.getD 11 undef = .slice A3 n3 c3 := hs.dep 4 _ rfl rfl
      refine ValWp.pure (v := .int .i64 (n3 : Int)) (fun K' hK' => ?_) ⟨rfl, rfl⟩
      simp only [ValWp, execOp, Act.eval, e11]
      go_simp
      all_goals exact hK'
    · -- 6: slot 13 := Op.call { value (Operand.func 36), args := #[t12], argTypes := #[2] }
      refine OwesS.w rfl fun a w u hC hl hs => ⟨rfl, fun K hK => ?_⟩
      have e12 : a.tmps.getD 12 undef = .int .i64 (n3 : Int) := hs.dep 5 _ rfl rfl
      refine wp_of_val ?_
      refine ValWp.call #[.int .i64 (n3 : Int)] rfl rfl Try.func19 rfl rfl (by simp only [List.map_toArray, List.map_cons, List.map_nil, Act.eval, e12]) ?_
      refine (Hx3.out w).mono ?_
      rintro e w' ⟨rfl, hb⟩
      exact ⟨_, rfl, hK _ _ rfl (Later.trans hC hb)⟩
    · -- 7: slot 14 := Op.binOp BinOp.add 9 t9 t13 9
      refine OwesS.q rfl fun a w j u hC hb hs => ⟨rfl, ?_⟩
      have e9 : a.tmps.getD 9 undef = .string (mkS tE) := hs.dep 2 _ rfl rfl
      have e13 : a.tmps.getD 13 undef = .string (mkS x3) := hs.dep 6 _ rfl rfl
      have hz := HZj14.out.1
      have hq := HZj14.out.2
      refine ValWp.pure (v := .string (mkS j14)) (fun K' hK' => ?_) ⟨rfl, rfl⟩
      simp only [ValWp, execOp, Act.eval, e9, e13]
      go_simp
      all_goals exact hK'
    · -- 8: slot 3 := Op.assign t14
      refine OwesS.q rfl fun a w j u hC hb hs => ⟨rfl, ?_⟩
      have e14 : a.tmps.getD 14 undef = .string (mkS j14) := hs.dep 7 _ rfl rfl
      refine ValWp.pure (v := .string (mkS j14)) (fun K' hK' => ?_) ⟨rfl, rfl⟩
      simp only [ValWp, execOp, Act.eval, e14]
      go_simp
      all_goals exact hK'
  · intro a w u hC hl hd hsz hfree hs
    obtain ⟨u7, hu7⟩ : ∃ u, u = a.tmps.getD 7 undef := ⟨_, rfl⟩
    obtain ⟨u8, hu8⟩ : ∃ u, u = a.tmps.getD 8 undef := ⟨_, rfl⟩
    obtain ⟨u9, hu9⟩ : ∃ u, u = a.tmps.getD 9 undef := ⟨_, rfl⟩
    obtain ⟨u10, hu10⟩ : ∃ u, u = a.tmps.getD 10 undef := ⟨_, rfl⟩
    obtain ⟨u11, hu11⟩ : ∃ u, u = a.tmps.getD 11 undef := ⟨_, rfl⟩
    obtain ⟨u12, hu12⟩ : ∃ u, u = a.tmps.getD 12 undef := ⟨_, rfl⟩
    obtain ⟨u13, hu13⟩ : ∃ u, u = a.tmps.getD 13 undef := ⟨_, rfl⟩
    obtain ⟨u14, hu14⟩ : ∃ u, u = a.tmps.getD 14 undef := ⟨_, rfl⟩
    have hal : AllAt a 0 [_, _, _, .string (mkS j14), _, _, _, u7, u8, u9, u10, u11, u12, u13, u14, _, _, _, _, _, _, _, _, _, _, _, _, _, _, _, _, _, _, _, _, _, _, _, _, _, _, _, _, _, _, _, _, _, _, _, _, _, _, _, _, _, _, _, _, _, _, _, _, _, _, _, _, _, _, _, _, _, _, _, _, _, _, _, _, _, _, _, _, _, _, _, _, _, _, _, _, _, _, _, _, _, _, _, _, _, _, _, _, _, _, _, _, _] := ⟨hfree 0 rfl, hfree 1 rfl, hfree 2 rfl, hs 8 _ rfl, hfree 4 rfl, hfree 5 rfl, hfree 6 rfl, hu7.symm, hu8.symm, hu9.symm, hu10.symm, hu11.symm, hu12.symm, hu13.symm, hu14.symm, hfree 15 rfl, hfree 16 rfl, hfree 17 rfl, hfree 18 rfl, hfree 19 rfl, hfree 20 rfl, hfree 21 rfl, hfree 22 rfl, hfree 23 rfl, hfree 24 rfl, hfree 25 rfl, hfree 26 rfl, hfree 27 rfl, hfree 28 rfl, hfree 29 rfl, hfree 30 rfl, hfree 31 rfl, hfree 32 rfl, hfree 33 rfl, hfree 34 rfl, hfree 35 rfl, hfree 36 rfl, hfree 37 rfl, hfree 38 rfl, hfree 39 rfl, hfree 40 rfl, hfree 41 rfl, hfree 42 rfl, hfree 43 rfl, hfree 44 rfl, hfree 45 rfl, hfree 46 rfl, hfree 47 rfl, hfree 48 rfl, hfree 49 rfl, hfree 50 rfl, hfree 51 rfl, hfree 52 rfl, hfree 53 rfl, hfree 54 rfl, hfree 55 rfl, hfree 56 rfl, hfree 57 rfl, hfree 58 rfl, hfree 59 rfl, hfree 60 rfl, hfree 61 rfl, hfree 62 rfl, hfree 63 rfl, hfree 64 rfl, hfree 65 rfl, hfree 66 rfl, hfree 67 rfl, hfree 68 rfl, hfree 69 rfl, hfree 70 rfl, hfree 71 rfl, hfree 72 rfl, hfree 73 rfl, hfree 74 rfl, hfree 75 rfl, hfree 76 rfl, hfree 77 rfl, hfree 78 rfl, hfree 79 rfl, hfree 80 rfl, hfree 81 rfl, hfree 82 rfl, hfree 83 rfl, hfree 84 rfl, hfree 85 rfl, hfree 86 rfl, hfree 87 rfl, hfree 88 rfl, hfree 89 rfl, hfree 90 rfl, hfree 91 rfl, hfree 92 rfl, hfree 93 rfl, hfree 94 rfl, hfree 95 rfl, hfree 96 rfl, hfree 97 rfl, hfree 98 rfl, hfree 99 rfl, hfree 100 rfl, hfree 101 rfl, hfree 102 rfl, hfree 103 rfl, hfree 104 rfl, hfree 105 rfl, hfree 106 rfl, hfree 107 rfl, trivial⟩
    have hlit := fun h => act_lit hd h hal
    rw [hlit hsz]
    simp only [Array.getD_eq_getD_getElem?, List.getElem?_toArray, List.getElem?_cons_zero, List.getElem?_cons_succ, Option.getD_some]
    clear hlit hal hd hsz hfree hs hu7 hu8 hu9 hu10 hu11 hu12 hu13 hu14
    obtain ⟨a3, ha3⟩ : ∃ y, y = j14 := ⟨_, rfl⟩
    rw [← ha3] at HLENa3 HDEFa3 ⊢
    clear ha3
    rename World => w2a
    have HLw2a := Lib.hid (HLw1.out.trans hC)
    have HXw2a := Lib.hid (later_cells hC HXw1.out)
    clear hC
    go_wp2
    go_loopw [3, 4] (fun s i wr => ∃ k : Nat, k ≤ n3 ∧ i = .int .i64 (k : Int) ∧ s = .string (mkS (a3 ++ manyP fnC (funcs.take k))) ∧ Later w2a wr) (fun _ i _ => n3 - (intOf i).toNat)
    case atStart => exact ⟨0, by omega, rfl, by simp only [List.take_zero, manyP, List.flatMap_nil, List.append_nil], Later.refl _⟩
    case round =>
      obtain ⟨k1, hk, rfl, rfl, hb⟩ := hrel
      have HLW1 := Lib.hid (HLw2a.out.trans hb)
      have HBW1 := Lib.hid (later_cells hb HXw2a.out)
      have HRF1 := Lib.hid (Later.refl wr)
      have HST := Lib.hid hb
      have q0 := (cell_row HBW1.out 4).1
      clear hb
      by_cases hlt : k1 < n3
      · have hk0 : (0 : Int) ≤ (k1 : Int) := by omega
        have hlt1 : (k1 : Int) < (n3 : Int) := by omega
        have hkl : k1 < funcs.length := by rw [← HNfuncs.out]; exact hlt
        obtain ⟨g, o, rfl, hg, hcell⟩ := HRfuncs.out.lie_fn (by omega)
        obtain ⟨p1, hp1⟩ : ∃ y, y = funcs[k1].1 := ⟨_, rfl⟩
        obtain ⟨p2, hp2⟩ : ∃ y, y = funcs[k1].2.1 := ⟨_, rfl⟩
        obtain ⟨p3, hp3⟩ : ∃ y, y = funcs[k1].2.2 := ⟨_, rfl⟩
        have HEL := Lib.hid (show ∀ w', Later wr w' → w'.cell? ⟨g, o + k1 * 3, none⟩ = some (.string (mkS p1)) ∧ w'.cell? ⟨g, o + k1 * 3 + 1, none⟩ = some (.int .i64 p2) ∧ w'.cell? ⟨g, o + k1 * 3 + 2, none⟩ = some (.int .i64 p3) from fun w' hl => by
          have q1 := ((HLW1.out.trans hl).cell (p := ⟨g, o + k1 * 3, none⟩) hg).trans (hcell k1 hkl).1
          rw [← hp1] at q1
          have q2 := ((HLW1.out.trans hl).cell (p := ⟨g, o + k1 * 3 + 1, none⟩) hg).trans (hcell k1 hkl).2.1
          rw [← hp2] at q2
          have q3 := ((HLW1.out.trans hl).cell (p := ⟨g, o + k1 * 3 + 2, none⟩) hg).trans (hcell k1 hkl).2.2
          rw [← hp3] at q3
          exact ⟨q1, q2, q3⟩)
        have hoe := HOfuncs.out _ (List.getElem_mem hkl)
        have hi2 : I64 p2 := by rw [hp2]; exact hoe.2.1
        have hi3 : I64 p3 := by rw [hp3]; exact hoe.2.2
        have hbound := many_le fnC funcs k1 hkl
        have hone : fnC.put funcs[k1] = textB p1 ++ (numP p2 ++ (numP p3)) := by rw [hp1, hp2, hp3]; rfl
        have hst1 : p1.length ≤ (textB p1).length := by rw [textB, List.length_append]; omega
        obtain ⟨t1, ht1⟩ : ∃ y, y = textB p1 := ⟨_, rfl⟩
        rw [← ht1] at hone
        rw [← ht1] at hst1
        obtain ⟨t2, ht2⟩ : ∃ y, y = numP p2 := ⟨_, rfl⟩
        rw [← ht2] at hone
        obtain ⟨t3, ht3⟩ : ∃ y, y = numP p3 := ⟨_, rfl⟩
        rw [← ht3] at hone
        rw [hone] at hbound
        simp only [List.length_append] at hbound
        have hxo := HXS.out
        have hla := HLENa3.out
        have Ht1 := Lib.hid (fun w => text_v p1 w (by omega))
        rw [← ht1] at Ht1
        have Ht2 := Lib.hid (fun w => n_v p2 hi2 w)
        rw [← ht2] at Ht2
        have Ht3 := Lib.hid (fun w => n_v p3 hi3 w)
        rw [← ht3] at Ht3
        obtain ⟨cur, hcur⟩ : ∃ y, y = a3 ++ manyP fnC (funcs.take k1) := ⟨_, rfl⟩
        have hlc : cur.length = a3.length + (manyP fnC (funcs.take k1)).length := by rw [hcur, List.length_append]
        rw [← hcur]
        obtain ⟨j37, hj37⟩ : ∃ j37 : B, j37 = t1 ++ t2 := ⟨_, rfl⟩
        have hlj37 : j37.length = t1.length + t2.length := by rw [hj37, List.length_append]
        have HZj37 := Lib.hid (show (¬ 9223372036854775807 < (mkS t1).size + (mkS t2).size) ∧ mkS t1 ++ mkS t2 = mkS j37 from ⟨by rw [mkS_size, mkS_size]; omega, by rw [hj37]; exact mkS_add t1 t2⟩)
        obtain ⟨j45, hj45⟩ : ∃ j45 : B, j45 = j37 ++ t3 := ⟨_, rfl⟩
        have hlj45 : j45.length = j37.length + t3.length := by rw [hj45, List.length_append]
        have HZj45 := Lib.hid (show (¬ 9223372036854775807 < (mkS j37).size + (mkS t3).size) ∧ mkS j37 ++ mkS t3 = mkS j45 from ⟨by rw [mkS_size, mkS_size]; omega, by rw [hj45]; exact mkS_add j37 t3⟩)
        obtain ⟨j46, hj46⟩ : ∃ j46 : B, j46 = cur ++ j45 := ⟨_, rfl⟩
        have hlj46 : j46.length = cur.length + j45.length := by rw [hj46, List.length_append]
        have HZj46 := Lib.hid (show (¬ 9223372036854775807 < (mkS cur).size + (mkS j45).size) ∧ mkS cur ++ mkS j45 = mkS j46 from ⟨by rw [mkS_size, mkS_size]; omega, by rw [hj46]; exact mkS_add cur j45⟩)
        have HEND := Lib.hid (show j46 = a3 ++ manyP fnC (funcs.take (k1 + 1)) by rw [many_snoc_put fnC funcs k1 hkl, hone, ← List.append_assoc, ← hcur, hj46, hj45, hj37] <;> simp only [List.append_assoc])
        clear hj37 hlj37 hj45 hlj45 hj46 hlj46 ht1 ht2 ht3 hst1 hp1 hp2 hp3 hi2 hi3 hxo hla hbound hone hlc hcur hcell hkl hg hoe
        go_wp2_with fail
        refine wp_region_seqE (by kernel_rfl) [7, 14, 22, 25] (fun _ _ w => Later wr w) [some (.string (mkS cur)), some (.pointer (some ⟨W.heap.size, 4, none⟩)), some (.slice (some ⟨g, o, none⟩) n3 c3), some (.int .i64 (k1 : Int)), some (.pointer (some ⟨g, o + k1 * 3, none⟩)), some (.pointer (some ⟨g, o + k1 * 3, none⟩)), some (.string (mkS p1)), some (.string (mkS t1)), some (.pointer (some ⟨W.heap.size, 4, none⟩)), some (.slice (some ⟨g, o, none⟩) n3 c3), some (.int .i64 (k1 : Int)), some (.pointer (some ⟨g, o + k1 * 3, none⟩)), some (.pointer (some ⟨g, o + k1 * 3 + 1, none⟩)), some (.int .i64 p2), some (.string (mkS t2)), some (.string (mkS j37)), some (.pointer (some ⟨W.heap.size, 4, none⟩)), some (.slice (some ⟨g, o, none⟩) n3 c3), some (.int .i64 (k1 : Int)), some (.pointer (some ⟨g, o + k1 * 3, none⟩)), some (.pointer (some ⟨g, o + k1 * 3 + 2, none⟩)), some (.int .i64 p3), some (.string (mkS t3)), some (.string (mkS j45)), some (.string (mkS j46)), some (.string (mkS j46))] (by decide) (by decide) (by kernel_rfl) (by kernel_rfl) 3 (by kernel_rfl) (Later.drew wr) ?_ ?_
        · refine ⟨?_, ?_, ?_, ?_, ?_, ?_, ?_, ?_, ?_, ?_, ?_, ?_, ?_, ?_, ?_, ?_, ?_, ?_, ?_, ?_, ?_, ?_, ?_, ?_, ?_, ?_, trivial⟩
          · -- 0: slot 22 := Op.move t3
            refine OwesSE.q rfl fun a w j u hC hb he hs => ⟨rfl, ?_⟩
            have e3 : a.tmps.getD 3 undef = .string (mkS cur) := he (by have := hb 3 25 rfl rfl; simp only [List.length_cons, List.length_nil]; omega)
            refine ValWp.pure (v := .string (mkS cur)) (fun K' hK' => ?_) ⟨rfl, rfl⟩
            simp only [ValWp, execOp, Act.eval, e3]
            go_simp
            all_goals exact hK'
          · -- 1: slot 23 := Op.fieldAddr 55 t1 1
            refine OwesSE.q rfl fun a w j u hC hb he hs => ⟨rfl, ?_⟩
            have e1 : a.tmps.getD 1 undef = .pointer (some ⟨W.heap.size, 0, none⟩) := hs.free 1 rfl
            refine ValWp.pure (v := .pointer (some ⟨W.heap.size, 4, none⟩)) (fun K' hK' => ?_) ⟨rfl, rfl⟩
            simp only [ValWp, execOp, Act.eval, e1]
            go_simp
            all_goals exact hK'
          · -- 2: slot 24 := Op.load 51 t23
            refine OwesSE.q rfl fun a w j u hC hb he hs => ⟨rfl, ?_⟩
            have e23 : a.tmps.getD 23 undef = .pointer (some ⟨W.heap.size, 4, none⟩) := hs.dep 1 _ rfl rfl
            have q : w.cell? ⟨W.heap.size, 4, none⟩ = some (.slice (some ⟨g, o, none⟩) n3 c3) := (cell_row (later_cells (HRF1.out.trans hC) HBW1.out) 4).1
            refine ValWp.pure (v := .slice (some ⟨g, o, none⟩) n3 c3) (fun K' hK' => ?_) ⟨rfl, rfl⟩
            simp only [ValWp, execOp, Act.eval, e23]
            go_simp
            all_goals exact hK'
          · -- 3: slot 25 := Op.move t4
            refine OwesSE.q rfl fun a w j u hC hb he hs => ⟨rfl, ?_⟩
            have e4 : a.tmps.getD 4 undef = .int .i64 (k1 : Int) := hs.free 4 rfl
            refine ValWp.pure (v := .int .i64 (k1 : Int)) (fun K' hK' => ?_) ⟨rfl, rfl⟩
            simp only [ValWp, execOp, Act.eval, e4]
            go_simp
            all_goals exact hK'
          · -- 4: slot 26 := Op.indexAddr 51 t24 t25
            refine OwesSE.q rfl fun a w j u hC hb he hs => ⟨rfl, ?_⟩
            have e24 : a.tmps.getD 24 undef = .slice (some ⟨g, o, none⟩) n3 c3 := hs.dep 2 _ rfl rfl
            have e25 : a.tmps.getD 25 undef = .int .i64 (k1 : Int) := hs.dep 3 _ rfl rfl
            refine ValWp.pure (v := .pointer (some ⟨g, o + k1 * 3, none⟩)) (fun K' hK' => ?_) ⟨rfl, rfl⟩
            simp only [ValWp, execOp, Act.eval, e24, e25]
            go_simp
            all_goals exact hK'
          · -- 5: slot 27 := Op.fieldAddr 151 t26 0
            refine OwesSE.q rfl fun a w j u hC hb he hs => ⟨rfl, ?_⟩
            have e26 : a.tmps.getD 26 undef = .pointer (some ⟨g, o + k1 * 3, none⟩) := hs.dep 4 _ rfl rfl
            refine ValWp.pure (v := .pointer (some ⟨g, o + k1 * 3, none⟩)) (fun K' hK' => ?_) ⟨rfl, rfl⟩
            simp only [ValWp, execOp, Act.eval, e26]
            go_simp
            all_goals exact hK'
          · -- 6: slot 28 := Op.load 9 t27
            refine OwesSE.q rfl fun a w j u hC hb he hs => ⟨rfl, ?_⟩
            have e27 : a.tmps.getD 27 undef = .pointer (some ⟨g, o + k1 * 3, none⟩) := hs.dep 5 _ rfl rfl
            have q := (HEL.out w hC).1
            refine ValWp.pure (v := .string (mkS p1)) (fun K' hK' => ?_) ⟨rfl, rfl⟩
            simp only [ValWp, execOp, Act.eval, e27]
            go_simp
            all_goals exact hK'
          · -- 7: slot 29 := Op.call { value (Operand.func 75), args := #[t28], argTypes := #[9] }
            refine OwesSE.w rfl fun a w u hC hl hs => ⟨rfl, fun K hK => ?_⟩
            have e28 : a.tmps.getD 28 undef = .string (mkS p1) := hs.dep 6 _ rfl rfl
            refine wp_of_val ?_
            refine ValWp.call #[.string (mkS p1)] rfl rfl Try.func41 rfl rfl (by simp only [List.map_toArray, List.map_cons, List.map_nil, Act.eval, e28]) ?_
            refine (Ht1.out w).mono ?_
            rintro e w' ⟨rfl, hb⟩
            exact ⟨_, rfl, hK _ _ rfl (Later.trans hC hb)⟩
          · -- 8: slot 30 := Op.fieldAddr 55 t1 1
            refine OwesSE.q rfl fun a w j u hC hb he hs => ⟨rfl, ?_⟩
            have e1 : a.tmps.getD 1 undef = .pointer (some ⟨W.heap.size, 0, none⟩) := hs.free 1 rfl
            refine ValWp.pure (v := .pointer (some ⟨W.heap.size, 4, none⟩)) (fun K' hK' => ?_) ⟨rfl, rfl⟩
            simp only [ValWp, execOp, Act.eval, e1]
            go_simp
            all_goals exact hK'
          · -- 9: slot 31 := Op.load 51 t30
            refine OwesSE.q rfl fun a w j u hC hb he hs => ⟨rfl, ?_⟩
            have e30 : a.tmps.getD 30 undef = .pointer (some ⟨W.heap.size, 4, none⟩) := hs.dep 8 _ rfl rfl
            have q : w.cell? ⟨W.heap.size, 4, none⟩ = some (.slice (some ⟨g, o, none⟩) n3 c3) := (cell_row (later_cells (HRF1.out.trans hC) HBW1.out) 4).1
            refine ValWp.pure (v := .slice (some ⟨g, o, none⟩) n3 c3) (fun K' hK' => ?_) ⟨rfl, rfl⟩
            simp only [ValWp, execOp, Act.eval, e30]
            go_simp
            all_goals exact hK'
          · -- 10: slot 32 := Op.move t4
            refine OwesSE.q rfl fun a w j u hC hb he hs => ⟨rfl, ?_⟩
            have e4 : a.tmps.getD 4 undef = .int .i64 (k1 : Int) := hs.free 4 rfl
            refine ValWp.pure (v := .int .i64 (k1 : Int)) (fun K' hK' => ?_) ⟨rfl, rfl⟩
            simp only [ValWp, execOp, Act.eval, e4]
            go_simp
            all_goals exact hK'
          · -- 11: slot 33 := Op.indexAddr 51 t31 t32
            refine OwesSE.q rfl fun a w j u hC hb he hs => ⟨rfl, ?_⟩
            have e31 : a.tmps.getD 31 undef = .slice (some ⟨g, o, none⟩) n3 c3 := hs.dep 9 _ rfl rfl
            have e32 : a.tmps.getD 32 undef = .int .i64 (k1 : Int) := hs.dep 10 _ rfl rfl
            refine ValWp.pure (v := .pointer (some ⟨g, o + k1 * 3, none⟩)) (fun K' hK' => ?_) ⟨rfl, rfl⟩
            simp only [ValWp, execOp, Act.eval, e31, e32]
            go_simp
            all_goals exact hK'
          · -- 12: slot 34 := Op.fieldAddr 151 t33 1
            refine OwesSE.q rfl fun a w j u hC hb he hs => ⟨rfl, ?_⟩
            have e33 : a.tmps.getD 33 undef = .pointer (some ⟨g, o + k1 * 3, none⟩) := hs.dep 11 _ rfl rfl
            refine ValWp.pure (v := .pointer (some ⟨g, o + k1 * 3 + 1, none⟩)) (fun K' hK' => ?_) ⟨rfl, rfl⟩
            simp only [ValWp, execOp, Act.eval, e33]
            go_simp
            all_goals exact hK'
          · -- 13: slot 35 := Op.load 3 t34
            refine OwesSE.q rfl fun a w j u hC hb he hs => ⟨rfl, ?_⟩
            have e34 : a.tmps.getD 34 undef = .pointer (some ⟨g, o + k1 * 3 + 1, none⟩) := hs.dep 12 _ rfl rfl
            have q := (HEL.out w hC).2.1
            refine ValWp.pure (v := .int .i64 p2) (fun K' hK' => ?_) ⟨rfl, rfl⟩
            simp only [ValWp, execOp, Act.eval, e34]
            go_simp
            all_goals exact hK'
          · -- 14: slot 36 := Op.call { value (Operand.func 36), args := #[t35], argTypes := #[2] }
            refine OwesSE.w rfl fun a w u hC hl hs => ⟨rfl, fun K hK => ?_⟩
            have e35 : a.tmps.getD 35 undef = .int .i64 p2 := hs.dep 13 _ rfl rfl
            refine wp_of_val ?_
            refine ValWp.call #[.int .i64 p2] rfl rfl Try.func19 rfl rfl (by simp only [List.map_toArray, List.map_cons, List.map_nil, Act.eval, e35]) ?_
            refine (Ht2.out w).mono ?_
            rintro e w' ⟨rfl, hb⟩
            exact ⟨_, rfl, hK _ _ rfl (Later.trans hC hb)⟩
          · -- 15: slot 37 := Op.binOp BinOp.add 9 t29 t36 9
            refine OwesSE.q rfl fun a w j u hC hb he hs => ⟨rfl, ?_⟩
            have e29 : a.tmps.getD 29 undef = .string (mkS t1) := hs.dep 7 _ rfl rfl
            have e36 : a.tmps.getD 36 undef = .string (mkS t2) := hs.dep 14 _ rfl rfl
            have hz := HZj37.out.1
            have hq := HZj37.out.2
            refine ValWp.pure (v := .string (mkS j37)) (fun K' hK' => ?_) ⟨rfl, rfl⟩
            simp only [ValWp, execOp, Act.eval, e29, e36]
            go_simp
            all_goals exact hK'
          · -- 16: slot 38 := Op.fieldAddr 55 t1 1
            refine OwesSE.q rfl fun a w j u hC hb he hs => ⟨rfl, ?_⟩
            have e1 : a.tmps.getD 1 undef = .pointer (some ⟨W.heap.size, 0, none⟩) := hs.free 1 rfl
            refine ValWp.pure (v := .pointer (some ⟨W.heap.size, 4, none⟩)) (fun K' hK' => ?_) ⟨rfl, rfl⟩
            simp only [ValWp, execOp, Act.eval, e1]
            go_simp
            all_goals exact hK'
          · -- 17: slot 39 := Op.load 51 t38
            refine OwesSE.q rfl fun a w j u hC hb he hs => ⟨rfl, ?_⟩
            have e38 : a.tmps.getD 38 undef = .pointer (some ⟨W.heap.size, 4, none⟩) := hs.dep 16 _ rfl rfl
            have q : w.cell? ⟨W.heap.size, 4, none⟩ = some (.slice (some ⟨g, o, none⟩) n3 c3) := (cell_row (later_cells (HRF1.out.trans hC) HBW1.out) 4).1
            refine ValWp.pure (v := .slice (some ⟨g, o, none⟩) n3 c3) (fun K' hK' => ?_) ⟨rfl, rfl⟩
            simp only [ValWp, execOp, Act.eval, e38]
            go_simp
            all_goals exact hK'
          · -- 18: slot 40 := Op.move t4
            refine OwesSE.q rfl fun a w j u hC hb he hs => ⟨rfl, ?_⟩
            have e4 : a.tmps.getD 4 undef = .int .i64 (k1 : Int) := hs.free 4 rfl
            refine ValWp.pure (v := .int .i64 (k1 : Int)) (fun K' hK' => ?_) ⟨rfl, rfl⟩
            simp only [ValWp, execOp, Act.eval, e4]
            go_simp
            all_goals exact hK'
          · -- 19: slot 41 := Op.indexAddr 51 t39 t40
            refine OwesSE.q rfl fun a w j u hC hb he hs => ⟨rfl, ?_⟩
            have e39 : a.tmps.getD 39 undef = .slice (some ⟨g, o, none⟩) n3 c3 := hs.dep 17 _ rfl rfl
            have e40 : a.tmps.getD 40 undef = .int .i64 (k1 : Int) := hs.dep 18 _ rfl rfl
            refine ValWp.pure (v := .pointer (some ⟨g, o + k1 * 3, none⟩)) (fun K' hK' => ?_) ⟨rfl, rfl⟩
            simp only [ValWp, execOp, Act.eval, e39, e40]
            go_simp
            all_goals exact hK'
          · -- 20: slot 42 := Op.fieldAddr 151 t41 2
            refine OwesSE.q rfl fun a w j u hC hb he hs => ⟨rfl, ?_⟩
            have e41 : a.tmps.getD 41 undef = .pointer (some ⟨g, o + k1 * 3, none⟩) := hs.dep 19 _ rfl rfl
            refine ValWp.pure (v := .pointer (some ⟨g, o + k1 * 3 + 2, none⟩)) (fun K' hK' => ?_) ⟨rfl, rfl⟩
            simp only [ValWp, execOp, Act.eval, e41]
            go_simp
            all_goals exact hK'
          · -- 21: slot 43 := Op.load 3 t42
            refine OwesSE.q rfl fun a w j u hC hb he hs => ⟨rfl, ?_⟩
            have e42 : a.tmps.getD 42 undef = .pointer (some ⟨g, o + k1 * 3 + 2, none⟩) := hs.dep 20 _ rfl rfl
            have q := (HEL.out w hC).2.2
            refine ValWp.pure (v := .int .i64 p3) (fun K' hK' => ?_) ⟨rfl, rfl⟩
            simp only [ValWp, execOp, Act.eval, e42]
            go_simp
            all_goals exact hK'
          · -- 22: slot 44 := Op.call { value (Operand.func 36), args := #[t43], argTypes := #[2] }
            refine OwesSE.w rfl fun a w u hC hl hs => ⟨rfl, fun K hK => ?_⟩
            have e43 : a.tmps.getD 43 undef = .int .i64 p3 := hs.dep 21 _ rfl rfl
            refine wp_of_val ?_
            refine ValWp.call #[.int .i64 p3] rfl rfl Try.func19 rfl rfl (by simp only [List.map_toArray, List.map_cons, List.map_nil, Act.eval, e43]) ?_
            refine (Ht3.out w).mono ?_
            rintro e w' ⟨rfl, hb⟩
            exact ⟨_, rfl, hK _ _ rfl (Later.trans hC hb)⟩
          · -- 23: slot 45 := Op.binOp BinOp.add 9 t37 t44 9
            refine OwesSE.q rfl fun a w j u hC hb he hs => ⟨rfl, ?_⟩
            have e37 : a.tmps.getD 37 undef = .string (mkS j37) := hs.dep 15 _ rfl rfl
            have e44 : a.tmps.getD 44 undef = .string (mkS t3) := hs.dep 22 _ rfl rfl
            have hz := HZj45.out.1
            have hq := HZj45.out.2
            refine ValWp.pure (v := .string (mkS j45)) (fun K' hK' => ?_) ⟨rfl, rfl⟩
            simp only [ValWp, execOp, Act.eval, e37, e44]
            go_simp
            all_goals exact hK'
          · -- 24: slot 46 := Op.binOp BinOp.add 9 t22 t45 9
            refine OwesSE.q rfl fun a w j u hC hb he hs => ⟨rfl, ?_⟩
            have e22 : a.tmps.getD 22 undef = .string (mkS cur) := hs.dep 0 _ rfl rfl
            have e45 : a.tmps.getD 45 undef = .string (mkS j45) := hs.dep 23 _ rfl rfl
            have hz := HZj46.out.1
            have hq := HZj46.out.2
            refine ValWp.pure (v := .string (mkS j46)) (fun K' hK' => ?_) ⟨rfl, rfl⟩
            simp only [ValWp, execOp, Act.eval, e22, e45]
            go_simp
            all_goals exact hK'
          · -- 25: slot 3 := Op.assign t46
            refine OwesSE.w rfl fun a w u hC hl hs => ⟨rfl, fun K hK => ?_⟩
            have e46 : a.tmps.getD 46 undef = .string (mkS j46) := hs.dep 24 _ rfl rfl
            refine wp_of_val ?_
            refine ValWp.pure (v := .string (mkS j46)) (w' := w) (fun K' hK' => ?_) (hK _ _ rfl hC)
            simp only [ValWp, execOp, Act.eval, e46]
            go_simp
            all_goals exact hK'
        · intro a w u hC hl hd hsz hfree hs
          obtain ⟨u22, hu22⟩ : ∃ u, u = a.tmps.getD 22 undef := ⟨_, rfl⟩
          obtain ⟨u23, hu23⟩ : ∃ u, u = a.tmps.getD 23 undef := ⟨_, rfl⟩
          obtain ⟨u24, hu24⟩ : ∃ u, u = a.tmps.getD 24 undef := ⟨_, rfl⟩
          obtain ⟨u25, hu25⟩ : ∃ u, u = a.tmps.getD 25 undef := ⟨_, rfl⟩
          obtain ⟨u26, hu26⟩ : ∃ u, u = a.tmps.getD 26 undef := ⟨_, rfl⟩
          obtain ⟨u27, hu27⟩ : ∃ u, u = a.tmps.getD 27 undef := ⟨_, rfl⟩
          obtain ⟨u28, hu28⟩ : ∃ u, u = a.tmps.getD 28 undef := ⟨_, rfl⟩
          obtain ⟨u29, hu29⟩ : ∃ u, u = a.tmps.getD 29 undef := ⟨_, rfl⟩
          obtain ⟨u30, hu30⟩ : ∃ u, u = a.tmps.getD 30 undef := ⟨_, rfl⟩
          obtain ⟨u31, hu31⟩ : ∃ u, u = a.tmps.getD 31 undef := ⟨_, rfl⟩
          obtain ⟨u32, hu32⟩ : ∃ u, u = a.tmps.getD 32 undef := ⟨_, rfl⟩
          obtain ⟨u33, hu33⟩ : ∃ u, u = a.tmps.getD 33 undef := ⟨_, rfl⟩
          obtain ⟨u34, hu34⟩ : ∃ u, u = a.tmps.getD 34 undef := ⟨_, rfl⟩
          obtain ⟨u35, hu35⟩ : ∃ u, u = a.tmps.getD 35 undef := ⟨_, rfl⟩
          obtain ⟨u36, hu36⟩ : ∃ u, u = a.tmps.getD 36 undef := ⟨_, rfl⟩
          obtain ⟨u37, hu37⟩ : ∃ u, u = a.tmps.getD 37 undef := ⟨_, rfl⟩
          obtain ⟨u38, hu38⟩ : ∃ u, u = a.tmps.getD 38 undef := ⟨_, rfl⟩
          obtain ⟨u39, hu39⟩ : ∃ u, u = a.tmps.getD 39 undef := ⟨_, rfl⟩
          obtain ⟨u40, hu40⟩ : ∃ u, u = a.tmps.getD 40 undef := ⟨_, rfl⟩
          obtain ⟨u41, hu41⟩ : ∃ u, u = a.tmps.getD 41 undef := ⟨_, rfl⟩
          obtain ⟨u42, hu42⟩ : ∃ u, u = a.tmps.getD 42 undef := ⟨_, rfl⟩
          obtain ⟨u43, hu43⟩ : ∃ u, u = a.tmps.getD 43 undef := ⟨_, rfl⟩
          obtain ⟨u44, hu44⟩ : ∃ u, u = a.tmps.getD 44 undef := ⟨_, rfl⟩
          obtain ⟨u45, hu45⟩ : ∃ u, u = a.tmps.getD 45 undef := ⟨_, rfl⟩
          obtain ⟨u46, hu46⟩ : ∃ u, u = a.tmps.getD 46 undef := ⟨_, rfl⟩
          have hal : AllAt a 0 [_, _, _, .string (mkS j46), _, _, _, _, _, _, _, _, _, _, _, _, _, _, _, _, _, _, u22, u23, u24, u25, u26, u27, u28, u29, u30, u31, u32, u33, u34, u35, u36, u37, u38, u39, u40, u41, u42, u43, u44, u45, u46, _, _, _, _, _, _, _, _, _, _, _, _, _, _, _, _, _, _, _, _, _, _, _, _, _, _, _, _, _, _, _, _, _, _, _, _, _, _, _, _, _, _, _, _, _, _, _, _, _, _, _, _, _, _, _, _, _, _, _, _, _] := ⟨hfree 0 rfl, hfree 1 rfl, hfree 2 rfl, hs 25 _ rfl, hfree 4 rfl, hfree 5 rfl, hfree 6 rfl, hfree 7 rfl, hfree 8 rfl, hfree 9 rfl, hfree 10 rfl, hfree 11 rfl, hfree 12 rfl, hfree 13 rfl, hfree 14 rfl, hfree 15 rfl, hfree 16 rfl, hfree 17 rfl, hfree 18 rfl, hfree 19 rfl, hfree 20 rfl, hfree 21 rfl, hu22.symm, hu23.symm, hu24.symm, hu25.symm, hu26.symm, hu27.symm, hu28.symm, hu29.symm, hu30.symm, hu31.symm, hu32.symm, hu33.symm, hu34.symm, hu35.symm, hu36.symm, hu37.symm, hu38.symm, hu39.symm, hu40.symm, hu41.symm, hu42.symm, hu43.symm, hu44.symm, hu45.symm, hu46.symm, hfree 47 rfl, hfree 48 rfl, hfree 49 rfl, hfree 50 rfl, hfree 51 rfl, hfree 52 rfl, hfree 53 rfl, hfree 54 rfl, hfree 55 rfl, hfree 56 rfl, hfree 57 rfl, hfree 58 rfl, hfree 59 rfl, hfree 60 rfl, hfree 61 rfl, hfree 62 rfl, hfree 63 rfl, hfree 64 rfl, hfree 65 rfl, hfree 66 rfl, hfree 67 rfl, hfree 68 rfl, hfree 69 rfl, hfree 70 rfl, hfree 71 rfl, hfree 72 rfl, hfree 73 rfl, hfree 74 rfl, hfree 75 rfl, hfree 76 rfl, hfree 77 rfl, hfree 78 rfl, hfree 79 rfl, hfree 80 rfl, hfree 81 rfl, hfree 82 rfl, hfree 83 rfl, hfree 84 rfl, hfree 85 rfl, hfree 86 rfl, hfree 87 rfl, hfree 88 rfl, hfree 89 rfl, hfree 90 rfl, hfree 91 rfl, hfree 92 rfl, hfree 93 rfl, hfree 94 rfl, hfree 95 rfl, hfree 96 rfl, hfree 97 rfl, hfree 98 rfl, hfree 99 rfl, hfree 100 rfl, hfree 101 rfl, hfree 102 rfl, hfree 103 rfl, hfree 104 rfl, hfree 105 rfl, hfree 106 rfl, hfree 107 rfl, trivial⟩
          have hlit := fun h => act_lit hd h hal
          rw [hlit hsz]
          simp only [Array.getD_eq_getD_getElem?, List.getElem?_toArray, List.getElem?_cons_zero, List.getElem?_cons_succ, Option.getD_some]
          clear hlit hal hd hsz hfree hs hu22 hu23 hu24 hu25 hu26 hu27 hu28 hu29 hu30 hu31 hu32 hu33 hu34 hu35 hu36 hu37 hu38 hu39 hu40 hu41 hu42 hu43 hu44 hu45 hu46
          go_wp2
          go_roundw
          case rel => exact ⟨k1 + 1, by omega, by go_num, by rw [HEND.out], HST.out.trans hC⟩
          case measure => simp [intOf]; omega
      · have e : funcs.take k1 = funcs := by rw [List.take_of_length_le]; have := HNfuncs.out; omega
        have hlt1 : ¬ (k1 : Int) < (n3 : Int) := by omega
        have hxo := HXS.out
        rw [e]
        clear e
        obtain ⟨cur, hcur⟩ : ∃ y, y = a3 ++ manyP fnC funcs := ⟨_, rfl⟩
        have hlc : cur.length = a3.length + (manyP fnC funcs).length := by rw [hcur, List.length_append]
        obtain ⟨a4, ha4⟩ : ∃ y, y = cur ++ x4 := ⟨_, rfl⟩
        have hla : a4.length = cur.length + x4.length := by rw [ha4, List.length_append]
        have HLENa4 := Lib.hid (show a4.length = (tE.length + x3.length) + (manyP fnC funcs).length + x4.length by have := HLENa3.out; omega)
        have HDEFa4 := Lib.hid (show a4 = a3 ++ manyP fnC funcs ++ x4 by rw [ha4, hcur])
        have HADD := Lib.hid (show mkS cur ++ mkS x4 = mkS a4 by rw [ha4]; exact mkS_add cur x4)
        have hsum : ¬ 9223372036854775807 < (mkS cur).size + (mkS x4).size := by rw [mkS_size, mkS_size]; have := HLENa4.out; omega
        rw [← hcur]
        have q1 := (cell_row HBW1.out 5).1
        clear hxo hcur hlc ha4 hla hlt
        go_wp2_with (go_at_call 19; (with_reducible refine (Hx4.out _).mono ?_); rintro e w2 ⟨rfl, hb1⟩; have HB1 := Lib.hid hb1; clear hb1)
        have HLw2 := Lib.hid (HLW1.out.trans HB1.out)
        have HXw2 := Lib.hid (later_cells HB1.out HBW1.out)
        clear HB1 q1 q0 hsum hlt1 hk
        go_loopw [3, 5] (fun s i wr => ∃ k : Nat, k ≤ n4 ∧ i = .int .i64 (k : Int) ∧ s = .string (mkS (a4 ++ manyP tpC (traps.take k))) ∧ Later w2 wr) (fun _ i _ => n4 - (intOf i).toNat)
        case atStart => exact ⟨0, by omega, rfl, by simp only [List.take_zero, manyP, List.flatMap_nil, List.append_nil, HADD.out], Later.refl _⟩
        case round =>
          obtain ⟨k2, hk, rfl, rfl, hb⟩ := hrel
          have HLW2 := Lib.hid (HLw2.out.trans hb)
          have HBW2 := Lib.hid (later_cells hb HXw2.out)
          have HRF2 := Lib.hid (Later.refl wr)
          have HST := Lib.hid hb
          have q0 := (cell_row HBW2.out 5).1
          clear hb
          by_cases hlt : k2 < n4
          · have hk0 : (0 : Int) ≤ (k2 : Int) := by omega
            have hlt1 : (k2 : Int) < (n4 : Int) := by omega
            have hkl : k2 < traps.length := by rw [← HNtraps.out]; exact hlt
            obtain ⟨g, o, rfl, hg, hcell⟩ := HRtraps.out.lie_tp (by omega)
            obtain ⟨p1, hp1⟩ : ∃ y, y = traps[k2].1 := ⟨_, rfl⟩
            obtain ⟨p2, hp2⟩ : ∃ y, y = traps[k2].2 := ⟨_, rfl⟩
            have HEL := Lib.hid (show ∀ w', Later wr w' → w'.cell? ⟨g, o + k2 * 2, none⟩ = some (.int .i64 p1) ∧ w'.cell? ⟨g, o + k2 * 2 + 1, none⟩ = some (.string (mkS p2)) from fun w' hl => by
              have q1 := ((HLW2.out.trans hl).cell (p := ⟨g, o + k2 * 2, none⟩) hg).trans (hcell k2 hkl).1
              rw [← hp1] at q1
              have q2 := ((HLW2.out.trans hl).cell (p := ⟨g, o + k2 * 2 + 1, none⟩) hg).trans (hcell k2 hkl).2
              rw [← hp2] at q2
              exact ⟨q1, q2⟩)
            have hoe := HOtraps.out _ (List.getElem_mem hkl)
            have hi1 : I64 p1 := by rw [hp1]; exact hoe.1
            have hbound := many_le tpC traps k2 hkl
            have hone : tpC.put traps[k2] = numP p1 ++ (textB p2) := by rw [hp1, hp2]; rfl
            have hst2 : p2.length ≤ (textB p2).length := by rw [textB, List.length_append]; omega
            obtain ⟨t1, ht1⟩ : ∃ y, y = numP p1 := ⟨_, rfl⟩
            rw [← ht1] at hone
            obtain ⟨t2, ht2⟩ : ∃ y, y = textB p2 := ⟨_, rfl⟩
            rw [← ht2] at hone
            rw [← ht2] at hst2
            rw [hone] at hbound
            simp only [List.length_append] at hbound
            have hxo := HXS.out
            have hla := HLENa4.out
            have Ht1 := Lib.hid (fun w => n_v p1 hi1 w)
            rw [← ht1] at Ht1
            have Ht2 := Lib.hid (fun w => text_v p2 w (by omega))
            rw [← ht2] at Ht2
            obtain ⟨cur, hcur⟩ : ∃ y, y = a4 ++ manyP tpC (traps.take k2) := ⟨_, rfl⟩
            have hlc : cur.length = a4.length + (manyP tpC (traps.take k2)).length := by rw [hcur, List.length_append]
            rw [← hcur]
            obtain ⟨j75, hj75⟩ : ∃ j75 : B, j75 = t1 ++ t2 := ⟨_, rfl⟩
            have hlj75 : j75.length = t1.length + t2.length := by rw [hj75, List.length_append]
            have HZj75 := Lib.hid (show (¬ 9223372036854775807 < (mkS t1).size + (mkS t2).size) ∧ mkS t1 ++ mkS t2 = mkS j75 from ⟨by rw [mkS_size, mkS_size]; omega, by rw [hj75]; exact mkS_add t1 t2⟩)
            obtain ⟨j76, hj76⟩ : ∃ j76 : B, j76 = cur ++ j75 := ⟨_, rfl⟩
            have hlj76 : j76.length = cur.length + j75.length := by rw [hj76, List.length_append]
            have HZj76 := Lib.hid (show (¬ 9223372036854775807 < (mkS cur).size + (mkS j75).size) ∧ mkS cur ++ mkS j75 = mkS j76 from ⟨by rw [mkS_size, mkS_size]; omega, by rw [hj76]; exact mkS_add cur j75⟩)
            have HEND := Lib.hid (show j76 = a4 ++ manyP tpC (traps.take (k2 + 1)) by rw [many_snoc_put tpC traps k2 hkl, hone, ← List.append_assoc, ← hcur, hj76, hj75] <;> simp only [List.append_assoc])
            clear hj75 hlj75 hj76 hlj76 ht1 ht2 hst2 hp1 hp2 hi1 hxo hla hbound hone hlc hcur hcell hkl hg hoe
            go_wp2_with fail
            refine wp_region_seqE (by kernel_rfl) [7, 14, 17] (fun _ _ w => Later wr w) [some (.string (mkS cur)), some (.pointer (some ⟨W.heap.size, 5, none⟩)), some (.slice (some ⟨g, o, none⟩) n4 c4), some (.int .i64 (k2 : Int)), some (.pointer (some ⟨g, o + k2 * 2, none⟩)), some (.pointer (some ⟨g, o + k2 * 2, none⟩)), some (.int .i64 p1), some (.string (mkS t1)), some (.pointer (some ⟨W.heap.size, 5, none⟩)), some (.slice (some ⟨g, o, none⟩) n4 c4), some (.int .i64 (k2 : Int)), some (.pointer (some ⟨g, o + k2 * 2, none⟩)), some (.pointer (some ⟨g, o + k2 * 2 + 1, none⟩)), some (.string (mkS p2)), some (.string (mkS t2)), some (.string (mkS j75)), some (.string (mkS j76)), some (.string (mkS j76))] (by decide) (by decide) (by kernel_rfl) (by kernel_rfl) 3 (by kernel_rfl) (Later.drew wr) ?_ ?_
            · refine ⟨?_, ?_, ?_, ?_, ?_, ?_, ?_, ?_, ?_, ?_, ?_, ?_, ?_, ?_, ?_, ?_, ?_, ?_, trivial⟩
              · -- 0: slot 60 := Op.move t3
                refine OwesSE.q rfl fun a w j u hC hb he hs => ⟨rfl, ?_⟩
                have e3 : a.tmps.getD 3 undef = .string (mkS cur) := he (by have := hb 2 17 rfl rfl; simp only [List.length_cons, List.length_nil]; omega)
                refine ValWp.pure (v := .string (mkS cur)) (fun K' hK' => ?_) ⟨rfl, rfl⟩
                simp only [ValWp, execOp, Act.eval, e3]
                go_simp
                all_goals exact hK'
              · -- 1: slot 61 := Op.fieldAddr 55 t1 2
                refine OwesSE.q rfl fun a w j u hC hb he hs => ⟨rfl, ?_⟩
                have e1 : a.tmps.getD 1 undef = .pointer (some ⟨W.heap.size, 0, none⟩) := hs.free 1 rfl
                refine ValWp.pure (v := .pointer (some ⟨W.heap.size, 5, none⟩)) (fun K' hK' => ?_) ⟨rfl, rfl⟩
                simp only [ValWp, execOp, Act.eval, e1]
                go_simp
                all_goals exact hK'
              · -- 2: slot 62 := Op.load 52 t61
                refine OwesSE.q rfl fun a w j u hC hb he hs => ⟨rfl, ?_⟩
                have e61 : a.tmps.getD 61 undef = .pointer (some ⟨W.heap.size, 5, none⟩) := hs.dep 1 _ rfl rfl
                have q : w.cell? ⟨W.heap.size, 5, none⟩ = some (.slice (some ⟨g, o, none⟩) n4 c4) := (cell_row (later_cells (HRF2.out.trans hC) HBW2.out) 5).1
                refine ValWp.pure (v := .slice (some ⟨g, o, none⟩) n4 c4) (fun K' hK' => ?_) ⟨rfl, rfl⟩
                simp only [ValWp, execOp, Act.eval, e61]
                go_simp
                all_goals exact hK'
              · -- 3: slot 63 := Op.move t5
                refine OwesSE.q rfl fun a w j u hC hb he hs => ⟨rfl, ?_⟩
                have e5 : a.tmps.getD 5 undef = .int .i64 (k2 : Int) := hs.free 5 rfl
                refine ValWp.pure (v := .int .i64 (k2 : Int)) (fun K' hK' => ?_) ⟨rfl, rfl⟩
                simp only [ValWp, execOp, Act.eval, e5]
                go_simp
                all_goals exact hK'
              · -- 4: slot 64 := Op.indexAddr 52 t62 t63
                refine OwesSE.q rfl fun a w j u hC hb he hs => ⟨rfl, ?_⟩
                have e62 : a.tmps.getD 62 undef = .slice (some ⟨g, o, none⟩) n4 c4 := hs.dep 2 _ rfl rfl
                have e63 : a.tmps.getD 63 undef = .int .i64 (k2 : Int) := hs.dep 3 _ rfl rfl
                refine ValWp.pure (v := .pointer (some ⟨g, o + k2 * 2, none⟩)) (fun K' hK' => ?_) ⟨rfl, rfl⟩
                simp only [ValWp, execOp, Act.eval, e62, e63]
                go_simp
                all_goals exact hK'
              · -- 5: slot 65 := Op.fieldAddr 152 t64 0
                refine OwesSE.q rfl fun a w j u hC hb he hs => ⟨rfl, ?_⟩
                have e64 : a.tmps.getD 64 undef = .pointer (some ⟨g, o + k2 * 2, none⟩) := hs.dep 4 _ rfl rfl
                refine ValWp.pure (v := .pointer (some ⟨g, o + k2 * 2, none⟩)) (fun K' hK' => ?_) ⟨rfl, rfl⟩
                simp only [ValWp, execOp, Act.eval, e64]
                go_simp
                all_goals exact hK'
              · -- 6: slot 66 := Op.load 3 t65
                refine OwesSE.q rfl fun a w j u hC hb he hs => ⟨rfl, ?_⟩
                have e65 : a.tmps.getD 65 undef = .pointer (some ⟨g, o + k2 * 2, none⟩) := hs.dep 5 _ rfl rfl
                have q := (HEL.out w hC).1
                refine ValWp.pure (v := .int .i64 p1) (fun K' hK' => ?_) ⟨rfl, rfl⟩
                simp only [ValWp, execOp, Act.eval, e65]
                go_simp
                all_goals exact hK'
              · -- 7: slot 67 := Op.call { value (Operand.func 36), args := #[t66], argTypes := #[2] }
                refine OwesSE.w rfl fun a w u hC hl hs => ⟨rfl, fun K hK => ?_⟩
                have e66 : a.tmps.getD 66 undef = .int .i64 p1 := hs.dep 6 _ rfl rfl
                refine wp_of_val ?_
                refine ValWp.call #[.int .i64 p1] rfl rfl Try.func19 rfl rfl (by simp only [List.map_toArray, List.map_cons, List.map_nil, Act.eval, e66]) ?_
                refine (Ht1.out w).mono ?_
                rintro e w' ⟨rfl, hb⟩
                exact ⟨_, rfl, hK _ _ rfl (Later.trans hC hb)⟩
              · -- 8: slot 68 := Op.fieldAddr 55 t1 2
                refine OwesSE.q rfl fun a w j u hC hb he hs => ⟨rfl, ?_⟩
                have e1 : a.tmps.getD 1 undef = .pointer (some ⟨W.heap.size, 0, none⟩) := hs.free 1 rfl
                refine ValWp.pure (v := .pointer (some ⟨W.heap.size, 5, none⟩)) (fun K' hK' => ?_) ⟨rfl, rfl⟩
                simp only [ValWp, execOp, Act.eval, e1]
                go_simp
                all_goals exact hK'
              · -- 9: slot 69 := Op.load 52 t68
                refine OwesSE.q rfl fun a w j u hC hb he hs => ⟨rfl, ?_⟩
                have e68 : a.tmps.getD 68 undef = .pointer (some ⟨W.heap.size, 5, none⟩) := hs.dep 8 _ rfl rfl
                have q : w.cell? ⟨W.heap.size, 5, none⟩ = some (.slice (some ⟨g, o, none⟩) n4 c4) := (cell_row (later_cells (HRF2.out.trans hC) HBW2.out) 5).1
                refine ValWp.pure (v := .slice (some ⟨g, o, none⟩) n4 c4) (fun K' hK' => ?_) ⟨rfl, rfl⟩
                simp only [ValWp, execOp, Act.eval, e68]
                go_simp
                all_goals exact hK'
              · -- 10: slot 70 := Op.move t5
                refine OwesSE.q rfl fun a w j u hC hb he hs => ⟨rfl, ?_⟩
                have e5 : a.tmps.getD 5 undef = .int .i64 (k2 : Int) := hs.free 5 rfl
                refine ValWp.pure (v := .int .i64 (k2 : Int)) (fun K' hK' => ?_) ⟨rfl, rfl⟩
                simp only [ValWp, execOp, Act.eval, e5]
                go_simp
                all_goals exact hK'
              · -- 11: slot 71 := Op.indexAddr 52 t69 t70
                refine OwesSE.q rfl fun a w j u hC hb he hs => ⟨rfl, ?_⟩
                have e69 : a.tmps.getD 69 undef = .slice (some ⟨g, o, none⟩) n4 c4 := hs.dep 9 _ rfl rfl
                have e70 : a.tmps.getD 70 undef = .int .i64 (k2 : Int) := hs.dep 10 _ rfl rfl
                refine ValWp.pure (v := .pointer (some ⟨g, o + k2 * 2, none⟩)) (fun K' hK' => ?_) ⟨rfl, rfl⟩
                simp only [ValWp, execOp, Act.eval, e69, e70]
                go_simp
                all_goals exact hK'
              · -- 12: slot 72 := Op.fieldAddr 152 t71 1
                refine OwesSE.q rfl fun a w j u hC hb he hs => ⟨rfl, ?_⟩
                have e71 : a.tmps.getD 71 undef = .pointer (some ⟨g, o + k2 * 2, none⟩) := hs.dep 11 _ rfl rfl
                refine ValWp.pure (v := .pointer (some ⟨g, o + k2 * 2 + 1, none⟩)) (fun K' hK' => ?_) ⟨rfl, rfl⟩
                simp only [ValWp, execOp, Act.eval, e71]
                go_simp
                all_goals exact hK'
              · -- 13: slot 73 := Op.load 9 t72
                refine OwesSE.q rfl fun a w j u hC hb he hs => ⟨rfl, ?_⟩
                have e72 : a.tmps.getD 72 undef = .pointer (some ⟨g, o + k2 * 2 + 1, none⟩) := hs.dep 12 _ rfl rfl
                have q := (HEL.out w hC).2
                refine ValWp.pure (v := .string (mkS p2)) (fun K' hK' => ?_) ⟨rfl, rfl⟩
                simp only [ValWp, execOp, Act.eval, e72]
                go_simp
                all_goals exact hK'
              · -- 14: slot 74 := Op.call { value (Operand.func 75), args := #[t73], argTypes := #[9] }
                refine OwesSE.w rfl fun a w u hC hl hs => ⟨rfl, fun K hK => ?_⟩
                have e73 : a.tmps.getD 73 undef = .string (mkS p2) := hs.dep 13 _ rfl rfl
                refine wp_of_val ?_
                refine ValWp.call #[.string (mkS p2)] rfl rfl Try.func41 rfl rfl (by simp only [List.map_toArray, List.map_cons, List.map_nil, Act.eval, e73]) ?_
                refine (Ht2.out w).mono ?_
                rintro e w' ⟨rfl, hb⟩
                exact ⟨_, rfl, hK _ _ rfl (Later.trans hC hb)⟩
              · -- 15: slot 75 := Op.binOp BinOp.add 9 t67 t74 9
                refine OwesSE.q rfl fun a w j u hC hb he hs => ⟨rfl, ?_⟩
                have e67 : a.tmps.getD 67 undef = .string (mkS t1) := hs.dep 7 _ rfl rfl
                have e74 : a.tmps.getD 74 undef = .string (mkS t2) := hs.dep 14 _ rfl rfl
                have hz := HZj75.out.1
                have hq := HZj75.out.2
                refine ValWp.pure (v := .string (mkS j75)) (fun K' hK' => ?_) ⟨rfl, rfl⟩
                simp only [ValWp, execOp, Act.eval, e67, e74]
                go_simp
                all_goals exact hK'
              · -- 16: slot 76 := Op.binOp BinOp.add 9 t60 t75 9
                refine OwesSE.q rfl fun a w j u hC hb he hs => ⟨rfl, ?_⟩
                have e60 : a.tmps.getD 60 undef = .string (mkS cur) := hs.dep 0 _ rfl rfl
                have e75 : a.tmps.getD 75 undef = .string (mkS j75) := hs.dep 15 _ rfl rfl
                have hz := HZj76.out.1
                have hq := HZj76.out.2
                refine ValWp.pure (v := .string (mkS j76)) (fun K' hK' => ?_) ⟨rfl, rfl⟩
                simp only [ValWp, execOp, Act.eval, e60, e75]
                go_simp
                all_goals exact hK'
              · -- 17: slot 3 := Op.assign t76
                refine OwesSE.w rfl fun a w u hC hl hs => ⟨rfl, fun K hK => ?_⟩
                have e76 : a.tmps.getD 76 undef = .string (mkS j76) := hs.dep 16 _ rfl rfl
                refine wp_of_val ?_
                refine ValWp.pure (v := .string (mkS j76)) (w' := w) (fun K' hK' => ?_) (hK _ _ rfl hC)
                simp only [ValWp, execOp, Act.eval, e76]
                go_simp
                all_goals exact hK'
            · intro a w u hC hl hd hsz hfree hs
              obtain ⟨u60, hu60⟩ : ∃ u, u = a.tmps.getD 60 undef := ⟨_, rfl⟩
              obtain ⟨u61, hu61⟩ : ∃ u, u = a.tmps.getD 61 undef := ⟨_, rfl⟩
              obtain ⟨u62, hu62⟩ : ∃ u, u = a.tmps.getD 62 undef := ⟨_, rfl⟩
              obtain ⟨u63, hu63⟩ : ∃ u, u = a.tmps.getD 63 undef := ⟨_, rfl⟩
              obtain ⟨u64, hu64⟩ : ∃ u, u = a.tmps.getD 64 undef := ⟨_, rfl⟩
              obtain ⟨u65, hu65⟩ : ∃ u, u = a.tmps.getD 65 undef := ⟨_, rfl⟩
              obtain ⟨u66, hu66⟩ : ∃ u, u = a.tmps.getD 66 undef := ⟨_, rfl⟩
              obtain ⟨u67, hu67⟩ : ∃ u, u = a.tmps.getD 67 undef := ⟨_, rfl⟩
              obtain ⟨u68, hu68⟩ : ∃ u, u = a.tmps.getD 68 undef := ⟨_, rfl⟩
              obtain ⟨u69, hu69⟩ : ∃ u, u = a.tmps.getD 69 undef := ⟨_, rfl⟩
              obtain ⟨u70, hu70⟩ : ∃ u, u = a.tmps.getD 70 undef := ⟨_, rfl⟩
              obtain ⟨u71, hu71⟩ : ∃ u, u = a.tmps.getD 71 undef := ⟨_, rfl⟩
              obtain ⟨u72, hu72⟩ : ∃ u, u = a.tmps.getD 72 undef := ⟨_, rfl⟩
              obtain ⟨u73, hu73⟩ : ∃ u, u = a.tmps.getD 73 undef := ⟨_, rfl⟩
              obtain ⟨u74, hu74⟩ : ∃ u, u = a.tmps.getD 74 undef := ⟨_, rfl⟩
              obtain ⟨u75, hu75⟩ : ∃ u, u = a.tmps.getD 75 undef := ⟨_, rfl⟩
              obtain ⟨u76, hu76⟩ : ∃ u, u = a.tmps.getD 76 undef := ⟨_, rfl⟩
              have hal : AllAt a 0 [_, _, _, .string (mkS j76), _, _, _, _, _, _, _, _, _, _, _, _, _, _, _, _, _, _, _, _, _, _, _, _, _, _, _, _, _, _, _, _, _, _, _, _, _, _, _, _, _, _, _, _, _, _, _, _, _, _, _, _, _, _, _, _, u60, u61, u62, u63, u64, u65, u66, u67, u68, u69, u70, u71, u72, u73, u74, u75, u76, _, _, _, _, _, _, _, _, _, _, _, _, _, _, _, _, _, _, _, _, _, _, _, _, _, _, _, _, _, _, _] := ⟨hfree 0 rfl, hfree 1 rfl, hfree 2 rfl, hs 17 _ rfl, hfree 4 rfl, hfree 5 rfl, hfree 6 rfl, hfree 7 rfl, hfree 8 rfl, hfree 9 rfl, hfree 10 rfl, hfree 11 rfl, hfree 12 rfl, hfree 13 rfl, hfree 14 rfl, hfree 15 rfl, hfree 16 rfl, hfree 17 rfl, hfree 18 rfl, hfree 19 rfl, hfree 20 rfl, hfree 21 rfl, hfree 22 rfl, hfree 23 rfl, hfree 24 rfl, hfree 25 rfl, hfree 26 rfl, hfree 27 rfl, hfree 28 rfl, hfree 29 rfl, hfree 30 rfl, hfree 31 rfl, hfree 32 rfl, hfree 33 rfl, hfree 34 rfl, hfree 35 rfl, hfree 36 rfl, hfree 37 rfl, hfree 38 rfl, hfree 39 rfl, hfree 40 rfl, hfree 41 rfl, hfree 42 rfl, hfree 43 rfl, hfree 44 rfl, hfree 45 rfl, hfree 46 rfl, hfree 47 rfl, hfree 48 rfl, hfree 49 rfl, hfree 50 rfl, hfree 51 rfl, hfree 52 rfl, hfree 53 rfl, hfree 54 rfl, hfree 55 rfl, hfree 56 rfl, hfree 57 rfl, hfree 58 rfl, hfree 59 rfl, hu60.symm, hu61.symm, hu62.symm, hu63.symm, hu64.symm, hu65.symm, hu66.symm, hu67.symm, hu68.symm, hu69.symm, hu70.symm, hu71.symm, hu72.symm, hu73.symm, hu74.symm, hu75.symm, hu76.symm, hfree 77 rfl, hfree 78 rfl, hfree 79 rfl, hfree 80 rfl, hfree 81 rfl, hfree 82 rfl, hfree 83 rfl, hfree 84 rfl, hfree 85 rfl, hfree 86 rfl, hfree 87 rfl, hfree 88 rfl, hfree 89 rfl, hfree 90 rfl, hfree 91 rfl, hfree 92 rfl, hfree 93 rfl, hfree 94 rfl, hfree 95 rfl, hfree 96 rfl, hfree 97 rfl, hfree 98 rfl, hfree 99 rfl, hfree 100 rfl, hfree 101 rfl, hfree 102 rfl, hfree 103 rfl, hfree 104 rfl, hfree 105 rfl, hfree 106 rfl, hfree 107 rfl, trivial⟩
              have hlit := fun h => act_lit hd h hal
              rw [hlit hsz]
              simp only [Array.getD_eq_getD_getElem?, List.getElem?_toArray, List.getElem?_cons_zero, List.getElem?_cons_succ, Option.getD_some]
              clear hlit hal hd hsz hfree hs hu60 hu61 hu62 hu63 hu64 hu65 hu66 hu67 hu68 hu69 hu70 hu71 hu72 hu73 hu74 hu75 hu76
              go_wp2
              go_roundw
              case rel => exact ⟨k2 + 1, by omega, by go_num, by rw [HEND.out], HST.out.trans hC⟩
              case measure => simp [intOf]; omega
          · have e : traps.take k2 = traps := by rw [List.take_of_length_le]; have := HNtraps.out; omega
            have hlt1 : ¬ (k2 : Int) < (n4 : Int) := by omega
            have hxo := HXS.out
            rw [e]
            clear e
            obtain ⟨cur, hcur⟩ : ∃ y, y = a4 ++ manyP tpC traps := ⟨_, rfl⟩
            have hlc : cur.length = a4.length + (manyP tpC traps).length := by rw [hcur, List.length_append]
            obtain ⟨a5, ha5⟩ : ∃ y, y = cur ++ x5 := ⟨_, rfl⟩
            have hla : a5.length = cur.length + x5.length := by rw [ha5, List.length_append]
            have HLENa5 := Lib.hid (show a5.length = (tE.length + x3.length + (manyP fnC funcs).length + x4.length) + (manyP tpC traps).length + x5.length by have := HLENa4.out; omega)
            have HDEFa5 := Lib.hid (show a5 = a4 ++ manyP tpC traps ++ x5 by rw [ha5, hcur])
            have HADD := Lib.hid (show mkS cur ++ mkS x5 = mkS a5 by rw [ha5]; exact mkS_add cur x5)
            have hsum : ¬ 9223372036854775807 < (mkS cur).size + (mkS x5).size := by rw [mkS_size, mkS_size]; have := HLENa5.out; omega
            rw [← hcur]
            have q1 := (cell_row HBW2.out 6).1
            clear hxo hcur hlc ha5 hla hlt
            go_wp2_with (go_at_call 19; (with_reducible refine (Hx5.out _).mono ?_); rintro e w3 ⟨rfl, hb1⟩; have HB1 := Lib.hid hb1; clear hb1)
            have HLw3 := Lib.hid (HLW2.out.trans HB1.out)
            have HXw3 := Lib.hid (later_cells HB1.out HBW2.out)
            clear HB1 q1 q0 hsum hlt1 hk
            go_loopw [3, 6] (fun s i wr => ∃ k : Nat, k ≤ n5 ∧ i = .int .i64 (k : Int) ∧ s = .string (mkS (a5 ++ manyP fdC (fds.take k))) ∧ Later w3 wr) (fun _ i _ => n5 - (intOf i).toNat)
            case atStart => exact ⟨0, by omega, rfl, by simp only [List.take_zero, manyP, List.flatMap_nil, List.append_nil, HADD.out], Later.refl _⟩
            case round =>
              obtain ⟨k3, hk, rfl, rfl, hb⟩ := hrel
              have HLW3 := Lib.hid (HLw3.out.trans hb)
              have HBW3 := Lib.hid (later_cells hb HXw3.out)
              have HRF3 := Lib.hid (Later.refl wr)
              have HST := Lib.hid hb
              have q0 := (cell_row HBW3.out 6).1
              clear hb
              by_cases hlt : k3 < n5
              · have hk0 : (0 : Int) ≤ (k3 : Int) := by omega
                have hlt1 : (k3 : Int) < (n5 : Int) := by omega
                have hkl : k3 < fds.length := by rw [← HNfds.out]; exact hlt
                obtain ⟨g, o, rfl, hg, hcell⟩ := HRfds.out.lie_fd (by omega)
                obtain ⟨p1, hp1⟩ : ∃ y, y = fds[k3].1 := ⟨_, rfl⟩
                obtain ⟨p2, hp2⟩ : ∃ y, y = fds[k3].2 := ⟨_, rfl⟩
                have HEL := Lib.hid (show ∀ w', Later wr w' → w'.cell? ⟨g, o + k3 * 2, none⟩ = some (.int .i64 p1) ∧ w'.cell? ⟨g, o + k3 * 2 + 1, none⟩ = some (.int .i64 p2) from fun w' hl => by
                  have q1 := ((HLW3.out.trans hl).cell (p := ⟨g, o + k3 * 2, none⟩) hg).trans (hcell k3 hkl).1
                  rw [← hp1] at q1
                  have q2 := ((HLW3.out.trans hl).cell (p := ⟨g, o + k3 * 2 + 1, none⟩) hg).trans (hcell k3 hkl).2
                  rw [← hp2] at q2
                  exact ⟨q1, q2⟩)
                have hoe := HOfds.out _ (List.getElem_mem hkl)
                have hi1 : I64 p1 := by rw [hp1]; exact hoe.1
                have hi2 : I64 p2 := by rw [hp2]; exact hoe.2
                have hbound := many_le fdC fds k3 hkl
                have hone : fdC.put fds[k3] = numP p1 ++ (numP p2) := by rw [hp1, hp2]; rfl
                obtain ⟨t1, ht1⟩ : ∃ y, y = numP p1 := ⟨_, rfl⟩
                rw [← ht1] at hone
                obtain ⟨t2, ht2⟩ : ∃ y, y = numP p2 := ⟨_, rfl⟩
                rw [← ht2] at hone
                rw [hone] at hbound
                simp only [List.length_append] at hbound
                have hxo := HXS.out
                have hla := HLENa5.out
                have Ht1 := Lib.hid (fun w => n_v p1 hi1 w)
                rw [← ht1] at Ht1
                have Ht2 := Lib.hid (fun w => n_v p2 hi2 w)
                rw [← ht2] at Ht2
                obtain ⟨cur, hcur⟩ : ∃ y, y = a5 ++ manyP fdC (fds.take k3) := ⟨_, rfl⟩
                have hlc : cur.length = a5.length + (manyP fdC (fds.take k3)).length := by rw [hcur, List.length_append]
                rw [← hcur]
                obtain ⟨j105, hj105⟩ : ∃ j105 : B, j105 = t1 ++ t2 := ⟨_, rfl⟩
                have hlj105 : j105.length = t1.length + t2.length := by rw [hj105, List.length_append]
                have HZj105 := Lib.hid (show (¬ 9223372036854775807 < (mkS t1).size + (mkS t2).size) ∧ mkS t1 ++ mkS t2 = mkS j105 from ⟨by rw [mkS_size, mkS_size]; omega, by rw [hj105]; exact mkS_add t1 t2⟩)
                obtain ⟨j106, hj106⟩ : ∃ j106 : B, j106 = cur ++ j105 := ⟨_, rfl⟩
                have hlj106 : j106.length = cur.length + j105.length := by rw [hj106, List.length_append]
                have HZj106 := Lib.hid (show (¬ 9223372036854775807 < (mkS cur).size + (mkS j105).size) ∧ mkS cur ++ mkS j105 = mkS j106 from ⟨by rw [mkS_size, mkS_size]; omega, by rw [hj106]; exact mkS_add cur j105⟩)
                have HEND := Lib.hid (show j106 = a5 ++ manyP fdC (fds.take (k3 + 1)) by rw [many_snoc_put fdC fds k3 hkl, hone, ← List.append_assoc, ← hcur, hj106, hj105] <;> simp only [List.append_assoc])
                clear hj105 hlj105 hj106 hlj106 ht1 ht2 hp1 hp2 hi1 hi2 hxo hla hbound hone hlc hcur hcell hkl hg hoe
                go_wp2_with fail
                refine wp_region_seqE (by kernel_rfl) [7, 14, 17] (fun _ _ w => Later wr w) [some (.string (mkS cur)), some (.pointer (some ⟨W.heap.size, 6, none⟩)), some (.slice (some ⟨g, o, none⟩) n5 c5), some (.int .i64 (k3 : Int)), some (.pointer (some ⟨g, o + k3 * 2, none⟩)), some (.pointer (some ⟨g, o + k3 * 2, none⟩)), some (.int .i64 p1), some (.string (mkS t1)), some (.pointer (some ⟨W.heap.size, 6, none⟩)), some (.slice (some ⟨g, o, none⟩) n5 c5), some (.int .i64 (k3 : Int)), some (.pointer (some ⟨g, o + k3 * 2, none⟩)), some (.pointer (some ⟨g, o + k3 * 2 + 1, none⟩)), some (.int .i64 p2), some (.string (mkS t2)), some (.string (mkS j105)), some (.string (mkS j106)), some (.string (mkS j106))] (by decide) (by decide) (by kernel_rfl) (by kernel_rfl) 3 (by kernel_rfl) (Later.drew wr) ?_ ?_
                · refine ⟨?_, ?_, ?_, ?_, ?_, ?_, ?_, ?_, ?_, ?_, ?_, ?_, ?_, ?_, ?_, ?_, ?_, ?_, trivial⟩
                  · -- 0: slot 90 := Op.move t3
                    refine OwesSE.q rfl fun a w j u hC hb he hs => ⟨rfl, ?_⟩
                    have e3 : a.tmps.getD 3 undef = .string (mkS cur) := he (by have := hb 2 17 rfl rfl; simp only [List.length_cons, List.length_nil]; omega)
                    refine ValWp.pure (v := .string (mkS cur)) (fun K' hK' => ?_) ⟨rfl, rfl⟩
                    simp only [ValWp, execOp, Act.eval, e3]
                    go_simp
                    all_goals exact hK'
                  · -- 1: slot 91 := Op.fieldAddr 55 t1 3
                    refine OwesSE.q rfl fun a w j u hC hb he hs => ⟨rfl, ?_⟩
                    have e1 : a.tmps.getD 1 undef = .pointer (some ⟨W.heap.size, 0, none⟩) := hs.free 1 rfl
                    refine ValWp.pure (v := .pointer (some ⟨W.heap.size, 6, none⟩)) (fun K' hK' => ?_) ⟨rfl, rfl⟩
                    simp only [ValWp, execOp, Act.eval, e1]
                    go_simp
                    all_goals exact hK'
                  · -- 2: slot 92 := Op.load 53 t91
                    refine OwesSE.q rfl fun a w j u hC hb he hs => ⟨rfl, ?_⟩
                    have e91 : a.tmps.getD 91 undef = .pointer (some ⟨W.heap.size, 6, none⟩) := hs.dep 1 _ rfl rfl
                    have q : w.cell? ⟨W.heap.size, 6, none⟩ = some (.slice (some ⟨g, o, none⟩) n5 c5) := (cell_row (later_cells (HRF3.out.trans hC) HBW3.out) 6).1
                    refine ValWp.pure (v := .slice (some ⟨g, o, none⟩) n5 c5) (fun K' hK' => ?_) ⟨rfl, rfl⟩
                    simp only [ValWp, execOp, Act.eval, e91]
                    go_simp
                    all_goals exact hK'
                  · -- 3: slot 93 := Op.move t6
                    refine OwesSE.q rfl fun a w j u hC hb he hs => ⟨rfl, ?_⟩
                    have e6 : a.tmps.getD 6 undef = .int .i64 (k3 : Int) := hs.free 6 rfl
                    refine ValWp.pure (v := .int .i64 (k3 : Int)) (fun K' hK' => ?_) ⟨rfl, rfl⟩
                    simp only [ValWp, execOp, Act.eval, e6]
                    go_simp
                    all_goals exact hK'
                  · -- 4: slot 94 := Op.indexAddr 53 t92 t93
                    refine OwesSE.q rfl fun a w j u hC hb he hs => ⟨rfl, ?_⟩
                    have e92 : a.tmps.getD 92 undef = .slice (some ⟨g, o, none⟩) n5 c5 := hs.dep 2 _ rfl rfl
                    have e93 : a.tmps.getD 93 undef = .int .i64 (k3 : Int) := hs.dep 3 _ rfl rfl
                    refine ValWp.pure (v := .pointer (some ⟨g, o + k3 * 2, none⟩)) (fun K' hK' => ?_) ⟨rfl, rfl⟩
                    simp only [ValWp, execOp, Act.eval, e92, e93]
                    go_simp
                    all_goals exact hK'
                  · -- 5: slot 95 := Op.fieldAddr 153 t94 0
                    refine OwesSE.q rfl fun a w j u hC hb he hs => ⟨rfl, ?_⟩
                    have e94 : a.tmps.getD 94 undef = .pointer (some ⟨g, o + k3 * 2, none⟩) := hs.dep 4 _ rfl rfl
                    refine ValWp.pure (v := .pointer (some ⟨g, o + k3 * 2, none⟩)) (fun K' hK' => ?_) ⟨rfl, rfl⟩
                    simp only [ValWp, execOp, Act.eval, e94]
                    go_simp
                    all_goals exact hK'
                  · -- 6: slot 96 := Op.load 3 t95
                    refine OwesSE.q rfl fun a w j u hC hb he hs => ⟨rfl, ?_⟩
                    have e95 : a.tmps.getD 95 undef = .pointer (some ⟨g, o + k3 * 2, none⟩) := hs.dep 5 _ rfl rfl
                    have q := (HEL.out w hC).1
                    refine ValWp.pure (v := .int .i64 p1) (fun K' hK' => ?_) ⟨rfl, rfl⟩
                    simp only [ValWp, execOp, Act.eval, e95]
                    go_simp
                    all_goals exact hK'
                  · -- 7: slot 97 := Op.call { value (Operand.func 36), args := #[t96], argTypes := #[2] }
                    refine OwesSE.w rfl fun a w u hC hl hs => ⟨rfl, fun K hK => ?_⟩
                    have e96 : a.tmps.getD 96 undef = .int .i64 p1 := hs.dep 6 _ rfl rfl
                    refine wp_of_val ?_
                    refine ValWp.call #[.int .i64 p1] rfl rfl Try.func19 rfl rfl (by simp only [List.map_toArray, List.map_cons, List.map_nil, Act.eval, e96]) ?_
                    refine (Ht1.out w).mono ?_
                    rintro e w' ⟨rfl, hb⟩
                    exact ⟨_, rfl, hK _ _ rfl (Later.trans hC hb)⟩
                  · -- 8: slot 98 := Op.fieldAddr 55 t1 3
                    refine OwesSE.q rfl fun a w j u hC hb he hs => ⟨rfl, ?_⟩
                    have e1 : a.tmps.getD 1 undef = .pointer (some ⟨W.heap.size, 0, none⟩) := hs.free 1 rfl
                    refine ValWp.pure (v := .pointer (some ⟨W.heap.size, 6, none⟩)) (fun K' hK' => ?_) ⟨rfl, rfl⟩
                    simp only [ValWp, execOp, Act.eval, e1]
                    go_simp
                    all_goals exact hK'
                  · -- 9: slot 99 := Op.load 53 t98
                    refine OwesSE.q rfl fun a w j u hC hb he hs => ⟨rfl, ?_⟩
                    have e98 : a.tmps.getD 98 undef = .pointer (some ⟨W.heap.size, 6, none⟩) := hs.dep 8 _ rfl rfl
                    have q : w.cell? ⟨W.heap.size, 6, none⟩ = some (.slice (some ⟨g, o, none⟩) n5 c5) := (cell_row (later_cells (HRF3.out.trans hC) HBW3.out) 6).1
                    refine ValWp.pure (v := .slice (some ⟨g, o, none⟩) n5 c5) (fun K' hK' => ?_) ⟨rfl, rfl⟩
                    simp only [ValWp, execOp, Act.eval, e98]
                    go_simp
                    all_goals exact hK'
                  · -- 10: slot 100 := Op.move t6
                    refine OwesSE.q rfl fun a w j u hC hb he hs => ⟨rfl, ?_⟩
                    have e6 : a.tmps.getD 6 undef = .int .i64 (k3 : Int) := hs.free 6 rfl
                    refine ValWp.pure (v := .int .i64 (k3 : Int)) (fun K' hK' => ?_) ⟨rfl, rfl⟩
                    simp only [ValWp, execOp, Act.eval, e6]
                    go_simp
                    all_goals exact hK'
                  · -- 11: slot 101 := Op.indexAddr 53 t99 t100
                    refine OwesSE.q rfl fun a w j u hC hb he hs => ⟨rfl, ?_⟩
                    have e99 : a.tmps.getD 99 undef = .slice (some ⟨g, o, none⟩) n5 c5 := hs.dep 9 _ rfl rfl
                    have e100 : a.tmps.getD 100 undef = .int .i64 (k3 : Int) := hs.dep 10 _ rfl rfl
                    refine ValWp.pure (v := .pointer (some ⟨g, o + k3 * 2, none⟩)) (fun K' hK' => ?_) ⟨rfl, rfl⟩
                    simp only [ValWp, execOp, Act.eval, e99, e100]
                    go_simp
                    all_goals exact hK'
                  · -- 12: slot 102 := Op.fieldAddr 153 t101 1
                    refine OwesSE.q rfl fun a w j u hC hb he hs => ⟨rfl, ?_⟩
                    have e101 : a.tmps.getD 101 undef = .pointer (some ⟨g, o + k3 * 2, none⟩) := hs.dep 11 _ rfl rfl
                    refine ValWp.pure (v := .pointer (some ⟨g, o + k3 * 2 + 1, none⟩)) (fun K' hK' => ?_) ⟨rfl, rfl⟩
                    simp only [ValWp, execOp, Act.eval, e101]
                    go_simp
                    all_goals exact hK'
                  · -- 13: slot 103 := Op.load 2 t102
                    refine OwesSE.q rfl fun a w j u hC hb he hs => ⟨rfl, ?_⟩
                    have e102 : a.tmps.getD 102 undef = .pointer (some ⟨g, o + k3 * 2 + 1, none⟩) := hs.dep 12 _ rfl rfl
                    have q := (HEL.out w hC).2
                    refine ValWp.pure (v := .int .i64 p2) (fun K' hK' => ?_) ⟨rfl, rfl⟩
                    simp only [ValWp, execOp, Act.eval, e102]
                    go_simp
                    all_goals exact hK'
                  · -- 14: slot 104 := Op.call { value (Operand.func 36), args := #[t103], argTypes := #[2] }
                    refine OwesSE.w rfl fun a w u hC hl hs => ⟨rfl, fun K hK => ?_⟩
                    have e103 : a.tmps.getD 103 undef = .int .i64 p2 := hs.dep 13 _ rfl rfl
                    refine wp_of_val ?_
                    refine ValWp.call #[.int .i64 p2] rfl rfl Try.func19 rfl rfl (by simp only [List.map_toArray, List.map_cons, List.map_nil, Act.eval, e103]) ?_
                    refine (Ht2.out w).mono ?_
                    rintro e w' ⟨rfl, hb⟩
                    exact ⟨_, rfl, hK _ _ rfl (Later.trans hC hb)⟩
                  · -- 15: slot 105 := Op.binOp BinOp.add 9 t97 t104 9
                    refine OwesSE.q rfl fun a w j u hC hb he hs => ⟨rfl, ?_⟩
                    have e97 : a.tmps.getD 97 undef = .string (mkS t1) := hs.dep 7 _ rfl rfl
                    have e104 : a.tmps.getD 104 undef = .string (mkS t2) := hs.dep 14 _ rfl rfl
                    have hz := HZj105.out.1
                    have hq := HZj105.out.2
                    refine ValWp.pure (v := .string (mkS j105)) (fun K' hK' => ?_) ⟨rfl, rfl⟩
                    simp only [ValWp, execOp, Act.eval, e97, e104]
                    go_simp
                    all_goals exact hK'
                  · -- 16: slot 106 := Op.binOp BinOp.add 9 t90 t105 9
                    refine OwesSE.q rfl fun a w j u hC hb he hs => ⟨rfl, ?_⟩
                    have e90 : a.tmps.getD 90 undef = .string (mkS cur) := hs.dep 0 _ rfl rfl
                    have e105 : a.tmps.getD 105 undef = .string (mkS j105) := hs.dep 15 _ rfl rfl
                    have hz := HZj106.out.1
                    have hq := HZj106.out.2
                    refine ValWp.pure (v := .string (mkS j106)) (fun K' hK' => ?_) ⟨rfl, rfl⟩
                    simp only [ValWp, execOp, Act.eval, e90, e105]
                    go_simp
                    all_goals exact hK'
                  · -- 17: slot 3 := Op.assign t106
                    refine OwesSE.w rfl fun a w u hC hl hs => ⟨rfl, fun K hK => ?_⟩
                    have e106 : a.tmps.getD 106 undef = .string (mkS j106) := hs.dep 16 _ rfl rfl
                    refine wp_of_val ?_
                    refine ValWp.pure (v := .string (mkS j106)) (w' := w) (fun K' hK' => ?_) (hK _ _ rfl hC)
                    simp only [ValWp, execOp, Act.eval, e106]
                    go_simp
                    all_goals exact hK'
                · intro a w u hC hl hd hsz hfree hs
                  obtain ⟨u90, hu90⟩ : ∃ u, u = a.tmps.getD 90 undef := ⟨_, rfl⟩
                  obtain ⟨u91, hu91⟩ : ∃ u, u = a.tmps.getD 91 undef := ⟨_, rfl⟩
                  obtain ⟨u92, hu92⟩ : ∃ u, u = a.tmps.getD 92 undef := ⟨_, rfl⟩
                  obtain ⟨u93, hu93⟩ : ∃ u, u = a.tmps.getD 93 undef := ⟨_, rfl⟩
                  obtain ⟨u94, hu94⟩ : ∃ u, u = a.tmps.getD 94 undef := ⟨_, rfl⟩
                  obtain ⟨u95, hu95⟩ : ∃ u, u = a.tmps.getD 95 undef := ⟨_, rfl⟩
                  obtain ⟨u96, hu96⟩ : ∃ u, u = a.tmps.getD 96 undef := ⟨_, rfl⟩
                  obtain ⟨u97, hu97⟩ : ∃ u, u = a.tmps.getD 97 undef := ⟨_, rfl⟩
                  obtain ⟨u98, hu98⟩ : ∃ u, u = a.tmps.getD 98 undef := ⟨_, rfl⟩
                  obtain ⟨u99, hu99⟩ : ∃ u, u = a.tmps.getD 99 undef := ⟨_, rfl⟩
                  obtain ⟨u100, hu100⟩ : ∃ u, u = a.tmps.getD 100 undef := ⟨_, rfl⟩
                  obtain ⟨u101, hu101⟩ : ∃ u, u = a.tmps.getD 101 undef := ⟨_, rfl⟩
                  obtain ⟨u102, hu102⟩ : ∃ u, u = a.tmps.getD 102 undef := ⟨_, rfl⟩
                  obtain ⟨u103, hu103⟩ : ∃ u, u = a.tmps.getD 103 undef := ⟨_, rfl⟩
                  obtain ⟨u104, hu104⟩ : ∃ u, u = a.tmps.getD 104 undef := ⟨_, rfl⟩
                  obtain ⟨u105, hu105⟩ : ∃ u, u = a.tmps.getD 105 undef := ⟨_, rfl⟩
                  obtain ⟨u106, hu106⟩ : ∃ u, u = a.tmps.getD 106 undef := ⟨_, rfl⟩
                  have hal : AllAt a 0 [_, _, _, .string (mkS j106), _, _, _, _, _, _, _, _, _, _, _, _, _, _, _, _, _, _, _, _, _, _, _, _, _, _, _, _, _, _, _, _, _, _, _, _, _, _, _, _, _, _, _, _, _, _, _, _, _, _, _, _, _, _, _, _, _, _, _, _, _, _, _, _, _, _, _, _, _, _, _, _, _, _, _, _, _, _, _, _, _, _, _, _, _, _, u90, u91, u92, u93, u94, u95, u96, u97, u98, u99, u100, u101, u102, u103, u104, u105, u106, _] := ⟨hfree 0 rfl, hfree 1 rfl, hfree 2 rfl, hs 17 _ rfl, hfree 4 rfl, hfree 5 rfl, hfree 6 rfl, hfree 7 rfl, hfree 8 rfl, hfree 9 rfl, hfree 10 rfl, hfree 11 rfl, hfree 12 rfl, hfree 13 rfl, hfree 14 rfl, hfree 15 rfl, hfree 16 rfl, hfree 17 rfl, hfree 18 rfl, hfree 19 rfl, hfree 20 rfl, hfree 21 rfl, hfree 22 rfl, hfree 23 rfl, hfree 24 rfl, hfree 25 rfl, hfree 26 rfl, hfree 27 rfl, hfree 28 rfl, hfree 29 rfl, hfree 30 rfl, hfree 31 rfl, hfree 32 rfl, hfree 33 rfl, hfree 34 rfl, hfree 35 rfl, hfree 36 rfl, hfree 37 rfl, hfree 38 rfl, hfree 39 rfl, hfree 40 rfl, hfree 41 rfl, hfree 42 rfl, hfree 43 rfl, hfree 44 rfl, hfree 45 rfl, hfree 46 rfl, hfree 47 rfl, hfree 48 rfl, hfree 49 rfl, hfree 50 rfl, hfree 51 rfl, hfree 52 rfl, hfree 53 rfl, hfree 54 rfl, hfree 55 rfl, hfree 56 rfl, hfree 57 rfl, hfree 58 rfl, hfree 59 rfl, hfree 60 rfl, hfree 61 rfl, hfree 62 rfl, hfree 63 rfl, hfree 64 rfl, hfree 65 rfl, hfree 66 rfl, hfree 67 rfl, hfree 68 rfl, hfree 69 rfl, hfree 70 rfl, hfree 71 rfl, hfree 72 rfl, hfree 73 rfl, hfree 74 rfl, hfree 75 rfl, hfree 76 rfl, hfree 77 rfl, hfree 78 rfl, hfree 79 rfl, hfree 80 rfl, hfree 81 rfl, hfree 82 rfl, hfree 83 rfl, hfree 84 rfl, hfree 85 rfl, hfree 86 rfl, hfree 87 rfl, hfree 88 rfl, hfree 89 rfl, hu90.symm, hu91.symm, hu92.symm, hu93.symm, hu94.symm, hu95.symm, hu96.symm, hu97.symm, hu98.symm, hu99.symm, hu100.symm, hu101.symm, hu102.symm, hu103.symm, hu104.symm, hu105.symm, hu106.symm, hfree 107 rfl, trivial⟩
                  have hlit := fun h => act_lit hd h hal
                  rw [hlit hsz]
                  simp only [Array.getD_eq_getD_getElem?, List.getElem?_toArray, List.getElem?_cons_zero, List.getElem?_cons_succ, Option.getD_some]
                  clear hlit hal hd hsz hfree hs hu90 hu91 hu92 hu93 hu94 hu95 hu96 hu97 hu98 hu99 hu100 hu101 hu102 hu103 hu104 hu105 hu106
                  go_wp2
                  go_roundw
                  case rel => exact ⟨k3 + 1, by omega, by go_num, by rw [HEND.out], HST.out.trans hC⟩
                  case measure => simp [intOf]; omega
              · have e : fds.take k3 = fds := by rw [List.take_of_length_le]; have := HNfds.out; omega
                have hlt1 : ¬ (k3 : Int) < (n5 : Int) := by omega
                have hxo := HXS.out
                rw [e]
                clear e
                go_wp2
                go_ret
                refine ⟨?_, HLW3.out⟩
                show Ending.returned (.string (mkS (a5 ++ manyP fdC fds))) = _
                rw [HDEFa5.out, HDEFa4.out, HDEFa3.out]
                simp only [List.append_assoc]
end Ks
end Go.Proofs.Yteljmlodbnfhbaa
