/- THE DOCUMENT'S Show. No premises. -/
import Derived.Test.YtjijbgogdaafdaaDoorQm
import Derived.BigQuiet
namespace Go.Proofs.YtjijbgogdaafdaaDoor
open Go.RowKit Go.Maps
namespace Fd
set_option maxRecDepth 100000
set_option maxHeartbeats 6400000 in
theorem rshow_v (v : Value) (l : Ps) (W : World) (hp : RdP W W.heap.size v l) (ho : Ok l) (hn : l.length ≤ 100000) : Calls Tryd.prog 8 #[v] W fun e W' => e = .returned (.string (mkS (text l))) ∧ Later W W' := by
  have HP := Lib.hid (And.intro hp ho)
  obtain ⟨A, c, rfl, hc1, hc2, _⟩ := hp.le
  obtain ⟨n, hnn⟩ : ∃ n, n = l.length := ⟨_, rfl⟩
  rw [← hnn] at hc1 hn ⊢
  have HN := Lib.hid hnn
  clear hp hnn ho
  go_enter Tryd.func8, Tryd.ntmps8
  go_wp2_with fail
  go_loopw [3, 4] (fun s3 s4 wr => ∃ i : Nat, s4 = .int .i64 (i : Int) ∧ i ≤ n ∧ s3 = .string (mkS (text (l.take i))) ∧ Hid (Later W wr)) (fun _ i _ => n - (intOf i).toNat)
  case atStart => exact ⟨0, rfl, Nat.zero_le _, rfl, Lib.hid (Later.refl _)⟩
  case round =>
    obtain ⟨i, rfl, hi, rfl, HL⟩ := hrel
    have hi0 : (0 : Int) ≤ (i : Int) := by omega
    by_cases hlt : i < n
    · have hlt1 : (i : Int) < (n : Int) := by omega
      have hml : i < l.length := by rw [← HN.out]; exact hlt
      obtain ⟨g, o, c', e1, hg, hcc⟩ := HP.out.1.at_ (by omega)
      injection e1 with e1 _ e2
      subst e1 e2
      obtain ⟨p, hp⟩ : ∃ p, p = l[i] := ⟨_, rfl⟩
      obtain ⟨p1, hp1⟩ : ∃ p1, p1 = p.1 := ⟨_, rfl⟩
      obtain ⟨p2, hp2⟩ : ∃ p2, p2 = p.2 := ⟨_, rfl⟩
      have HCC := Lib.hid (show ∀ w, Later wr w → w.cell? ⟨g, o + i * 2, none⟩ = some (.int .i64 p1) ∧ w.cell? ⟨g, o + i * 2 + 1, none⟩ = some (.int .i64 p2) from fun w hl => by
        have q1 := ((HL.out.trans hl).cell (p := ⟨g, o + i * 2, none⟩) hg).trans (hcc i hml).1
        have q2 := ((HL.out.trans hl).cell (p := ⟨g, o + i * 2 + 1, none⟩) hg).trans (hcc i hml).2
        rw [← hp, ← hp1] at q1
        rw [← hp, ← hp2] at q2
        exact ⟨q1, q2⟩)
      have hok := HP.out.2 l[i] (List.getElem_mem hml)
      rw [← hp, ← hp1, ← hp2] at hok
      obtain ⟨ia, hia⟩ : ∃ ia, ia = Lib.itoa p1 := ⟨_, rfl⟩
      obtain ⟨ib, hib⟩ : ∃ ib, ib = Lib.itoa p2 := ⟨_, rfl⟩
      have hla := itoa_len hok.1
      have hlb := itoa_len hok.2
      have HNA := Lib.hid (number_v p1 hok.1)
      have HNB := Lib.hid (number_v p2 hok.2)
      rw [← hia] at hla HNA
      rw [← hib] at hlb HNB
      obtain ⟨i1, hi1⟩ : ∃ i1, i1 = ia ++ [61] := ⟨_, rfl⟩
      obtain ⟨i2, hi2⟩ : ∃ i2, i2 = i1 ++ ib := ⟨_, rfl⟩
      have hl1 : i1.length ≤ 21 := by rw [hi1, List.length_append]; simp; omega
      have hl2 : i2.length ≤ 41 := by rw [hi2, List.length_append]; omega
      have hso := text_len (l := l.take i) (fun q hq => HP.out.2 q (List.mem_of_mem_take hq))
      rw [List.length_take] at hso
      have hsm : (text (l.take i)).length ≤ 4200000 := by omega
      have HTX := Lib.hid (show text (l.take (i + 1)) = (if i = 0 then [] else text (l.take i) ++ [32]) ++ i2 by
        rw [List.take_succ_eq_append_getElem hml, text_snoc, ← hp]
        have e : one p = i2 := by unfold one; rw [hi2, hi1, hia, hib, hp1, hp2]; simp
        rw [e]
        by_cases h0 : i = 0
        · subst h0; simp
        · have hne : ¬ l.take i = [] := by
            intro h
            have h2 : (l.take i).length = 0 := by rw [h]; rfl
            rw [List.length_take] at h2
            omega
          rw [if_neg hne, if_neg h0]
          simp)
      have HZ1 := Lib.hid (show (¬ 9223372036854775807 < (mkS ia).size + 1) ∧ mkS ia ++ (⟨#[61]⟩ : ByteArray) = mkS i1 from ⟨by rw [mkS_size]; omega, by rw [hi1]; exact mkS_add ia [61]⟩)
      have HZ2 := Lib.hid (show (¬ 9223372036854775807 < (mkS i1).size + (mkS ib).size) ∧ mkS i1 ++ mkS ib = mkS i2 from ⟨by rw [mkS_size, mkS_size]; omega, by rw [hi2]; exact mkS_add i1 ib⟩)
      have HZZ := Lib.hid (show ∀ cur : B, cur.length ≤ 4200001 → ∃ i3, i3 = cur ++ i2 ∧ (¬ 9223372036854775807 < (mkS cur).size + (mkS i2).size) ∧ mkS cur ++ mkS i2 = mkS i3 from fun cur hc => ⟨_, rfl, by rw [mkS_size, mkS_size]; omega, mkS_add cur i2⟩)
      clear hcc hp hp1 hp2 hok hia hib hla hlb hso hg hml hi1 hi2 hl1 hl2
      by_cases h0 : i = 0
      · have hgt : ¬ (0 : Int) < (i : Int) := by omega
        have e0 : text (l.take i) = [] := by rw [h0]; rfl
        rw [if_pos h0, List.nil_append] at HTX
        obtain ⟨cur, hcur⟩ : ∃ cur : B, cur = text (l.take i) := ⟨_, rfl⟩
        rw [← hcur] at hsm ⊢
        have HCU := Lib.hid (hcur.trans e0)
        obtain ⟨i3, hi3, hz3⟩ := HZZ.out cur (by omega)
        have HI3 := Lib.hid hi3
        have HZ3 := Lib.hid hz3
        clear hi3 hz3
        clear h0 e0 hcur hsm
        go_wp2_with fail
        refine wp_region_seqE (by kernel_rfl) [6, 13, 16] (fun _ _ w => Later wr w) [some (.string (mkS cur)), some (.slice (some ⟨g, o, none⟩) n c), some (.int .i64 (i : Int)), some (.pointer (some ⟨g, o + i * 2, none⟩)), some (.pointer (some ⟨g, o + i * 2, none⟩)), some (.int .i64 p1), some (.string (mkS ia)), some (.string (mkS i1)), some (.slice (some ⟨g, o, none⟩) n c), some (.int .i64 (i : Int)), some (.pointer (some ⟨g, o + i * 2, none⟩)), some (.pointer (some ⟨g, o + i * 2 + 1, none⟩)), some (.int .i64 p2), some (.string (mkS ib)), some (.string (mkS i2)), some (.string (mkS i3)), some (.string (mkS i3))] (by decide) (by decide) (by kernel_rfl) (by kernel_rfl) 3 (by kernel_rfl) (Later.drew wr) ?_ ?_
        · refine ⟨?_, ?_, ?_, ?_, ?_, ?_, ?_, ?_, ?_, ?_, ?_, ?_, ?_, ?_, ?_, ?_, ?_, trivial⟩
          · -- 0: slot 15 := Op.move t3
            refine OwesSE.q rfl fun a w j u hC hb he hs => ⟨rfl, ?_⟩
            have e3 : a.tmps.getD 3 undef = .string (mkS cur) := he (by have := hb 2 16 rfl rfl; simp only [List.length_cons, List.length_nil]; omega)
            refine ValWp.pure (v := .string (mkS cur)) (fun K' hK' => ?_) ⟨rfl, rfl⟩
            simp only [ValWp, execOp, Act.eval, e3]
            go_simp
            all_goals exact hK'
          · -- 1: slot 16 := Op.move t0
            refine OwesSE.q rfl fun a w j u hC hb he hs => ⟨rfl, ?_⟩
            have e0 : a.tmps.getD 0 undef = .slice (some ⟨g, o, none⟩) n c := hs.free 0 rfl
            refine ValWp.pure (v := .slice (some ⟨g, o, none⟩) n c) (fun K' hK' => ?_) ⟨rfl, rfl⟩
            simp only [ValWp, execOp, Act.eval, e0]
            go_simp
            all_goals exact hK'
          · -- 2: slot 17 := Op.move t4
            refine OwesSE.q rfl fun a w j u hC hb he hs => ⟨rfl, ?_⟩
            have e4 : a.tmps.getD 4 undef = .int .i64 (i : Int) := hs.free 4 rfl
            refine ValWp.pure (v := .int .i64 (i : Int)) (fun K' hK' => ?_) ⟨rfl, rfl⟩
            simp only [ValWp, execOp, Act.eval, e4]
            go_simp
            all_goals exact hK'
          · -- 3: slot 18 := Op.indexAddr 28 t16 t17
            refine OwesSE.q rfl fun a w j u hC hb he hs => ⟨rfl, ?_⟩
            have e16 : a.tmps.getD 16 undef = .slice (some ⟨g, o, none⟩) n c := hs.dep 1 _ rfl rfl
            have e17 : a.tmps.getD 17 undef = .int .i64 (i : Int) := hs.dep 2 _ rfl rfl
            refine ValWp.pure (v := .pointer (some ⟨g, o + i * 2, none⟩)) (fun K' hK' => ?_) ⟨rfl, rfl⟩
            simp only [ValWp, execOp, Act.eval, e16, e17]
            go_simp
            all_goals exact hK'
          · -- 4: slot 19 := Op.fieldAddr 45 t18 0
            refine OwesSE.q rfl fun a w j u hC hb he hs => ⟨rfl, ?_⟩
            have e18 : a.tmps.getD 18 undef = .pointer (some ⟨g, o + i * 2, none⟩) := hs.dep 3 _ rfl rfl
            refine ValWp.pure (v := .pointer (some ⟨g, o + i * 2, none⟩)) (fun K' hK' => ?_) ⟨rfl, rfl⟩
            simp only [ValWp, execOp, Act.eval, e18]
            go_simp
            all_goals exact hK'
          · -- 5: slot 20 := Op.load 3 t19
            refine OwesSE.q rfl fun a w j u hC hb he hs => ⟨rfl, ?_⟩
            have e19 : a.tmps.getD 19 undef = .pointer (some ⟨g, o + i * 2, none⟩) := hs.dep 4 _ rfl rfl
            have q := (HCC.out w hC).1
            refine ValWp.pure (v := .int .i64 p1) (fun K' hK' => ?_) ⟨rfl, rfl⟩
            simp only [ValWp, execOp, Act.eval, e19]
            go_simp
            all_goals exact hK'
          · -- 6: slot 21 := Op.call { value (Operand.func 16), args := #[t20], argTypes := #[2] }
            refine OwesSE.w rfl fun a w u hC hl hs => ⟨rfl, fun K hK => ?_⟩
            have e20 : a.tmps.getD 20 undef = .int .i64 p1 := hs.dep 5 _ rfl rfl
            refine wp_of_val ?_
            refine ValWp.call #[.int .i64 p1] rfl rfl Tryd.func16 rfl rfl (by simp only [List.map_toArray, List.map_cons, List.map_nil, Act.eval, e20]) ?_
            refine (HNA.out w).mono ?_
            rintro e w' ⟨rfl, hb⟩
            exact ⟨_, rfl, hK _ _ rfl (Later.trans hC hb)⟩
          · -- 7: slot 22 := Op.binOp BinOp.add 9 t21 (const (Value.string { data := #[61] })) 9
            refine OwesSE.q rfl fun a w j u hC hb he hs => ⟨rfl, ?_⟩
            have e21 : a.tmps.getD 21 undef = .string (mkS ia) := hs.dep 6 _ rfl rfl
            have hz := HZ1.out.1
            have hq := HZ1.out.2
            refine ValWp.pure (v := .string (mkS i1)) (fun K' hK' => ?_) ⟨rfl, rfl⟩
            simp only [ValWp, execOp, Act.eval, e21]
            go_simp
            all_goals exact hK'
          · -- 8: slot 23 := Op.move t0
            refine OwesSE.q rfl fun a w j u hC hb he hs => ⟨rfl, ?_⟩
            have e0 : a.tmps.getD 0 undef = .slice (some ⟨g, o, none⟩) n c := hs.free 0 rfl
            refine ValWp.pure (v := .slice (some ⟨g, o, none⟩) n c) (fun K' hK' => ?_) ⟨rfl, rfl⟩
            simp only [ValWp, execOp, Act.eval, e0]
            go_simp
            all_goals exact hK'
          · -- 9: slot 24 := Op.move t4
            refine OwesSE.q rfl fun a w j u hC hb he hs => ⟨rfl, ?_⟩
            have e4 : a.tmps.getD 4 undef = .int .i64 (i : Int) := hs.free 4 rfl
            refine ValWp.pure (v := .int .i64 (i : Int)) (fun K' hK' => ?_) ⟨rfl, rfl⟩
            simp only [ValWp, execOp, Act.eval, e4]
            go_simp
            all_goals exact hK'
          · -- 10: slot 25 := Op.indexAddr 28 t23 t24
            refine OwesSE.q rfl fun a w j u hC hb he hs => ⟨rfl, ?_⟩
            have e23 : a.tmps.getD 23 undef = .slice (some ⟨g, o, none⟩) n c := hs.dep 8 _ rfl rfl
            have e24 : a.tmps.getD 24 undef = .int .i64 (i : Int) := hs.dep 9 _ rfl rfl
            refine ValWp.pure (v := .pointer (some ⟨g, o + i * 2, none⟩)) (fun K' hK' => ?_) ⟨rfl, rfl⟩
            simp only [ValWp, execOp, Act.eval, e23, e24]
            go_simp
            all_goals exact hK'
          · -- 11: slot 26 := Op.fieldAddr 45 t25 1
            refine OwesSE.q rfl fun a w j u hC hb he hs => ⟨rfl, ?_⟩
            have e25 : a.tmps.getD 25 undef = .pointer (some ⟨g, o + i * 2, none⟩) := hs.dep 10 _ rfl rfl
            refine ValWp.pure (v := .pointer (some ⟨g, o + i * 2 + 1, none⟩)) (fun K' hK' => ?_) ⟨rfl, rfl⟩
            simp only [ValWp, execOp, Act.eval, e25]
            go_simp
            all_goals exact hK'
          · -- 12: slot 27 := Op.load 2 t26
            refine OwesSE.q rfl fun a w j u hC hb he hs => ⟨rfl, ?_⟩
            have e26 : a.tmps.getD 26 undef = .pointer (some ⟨g, o + i * 2 + 1, none⟩) := hs.dep 11 _ rfl rfl
            have q := (HCC.out w hC).2
            refine ValWp.pure (v := .int .i64 p2) (fun K' hK' => ?_) ⟨rfl, rfl⟩
            simp only [ValWp, execOp, Act.eval, e26]
            go_simp
            all_goals exact hK'
          · -- 13: slot 28 := Op.call { value (Operand.func 16), args := #[t27], argTypes := #[2] }
            refine OwesSE.w rfl fun a w u hC hl hs => ⟨rfl, fun K hK => ?_⟩
            have e27 : a.tmps.getD 27 undef = .int .i64 p2 := hs.dep 12 _ rfl rfl
            refine wp_of_val ?_
            refine ValWp.call #[.int .i64 p2] rfl rfl Tryd.func16 rfl rfl (by simp only [List.map_toArray, List.map_cons, List.map_nil, Act.eval, e27]) ?_
            refine (HNB.out w).mono ?_
            rintro e w' ⟨rfl, hb⟩
            exact ⟨_, rfl, hK _ _ rfl (Later.trans hC hb)⟩
          · -- 14: slot 29 := Op.binOp BinOp.add 9 t22 t28 9
            refine OwesSE.q rfl fun a w j u hC hb he hs => ⟨rfl, ?_⟩
            have e22 : a.tmps.getD 22 undef = .string (mkS i1) := hs.dep 7 _ rfl rfl
            have e28 : a.tmps.getD 28 undef = .string (mkS ib) := hs.dep 13 _ rfl rfl
            have hz := HZ2.out.1
            have hq := HZ2.out.2
            refine ValWp.pure (v := .string (mkS i2)) (fun K' hK' => ?_) ⟨rfl, rfl⟩
            simp only [ValWp, execOp, Act.eval, e22, e28]
            go_simp
            all_goals exact hK'
          · -- 15: slot 30 := Op.binOp BinOp.add 9 t15 t29 9
            refine OwesSE.q rfl fun a w j u hC hb he hs => ⟨rfl, ?_⟩
            have e15 : a.tmps.getD 15 undef = .string (mkS cur) := hs.dep 0 _ rfl rfl
            have e29 : a.tmps.getD 29 undef = .string (mkS i2) := hs.dep 14 _ rfl rfl
            have hz := HZ3.out.1
            have hq := HZ3.out.2
            refine ValWp.pure (v := .string (mkS i3)) (fun K' hK' => ?_) ⟨rfl, rfl⟩
            simp only [ValWp, execOp, Act.eval, e15, e29]
            go_simp
            all_goals exact hK'
          · -- 16: slot 3 := Op.assign t30
            refine OwesSE.w rfl fun a w u hC hl hs => ⟨rfl, fun K hK => ?_⟩
            have e30 : a.tmps.getD 30 undef = .string (mkS i3) := hs.dep 15 _ rfl rfl
            refine wp_of_val ?_
            refine ValWp.pure (v := .string (mkS i3)) (w' := w) (fun K' hK' => ?_) (hK _ _ rfl hC)
            simp only [ValWp, execOp, Act.eval, e30]
            go_simp
            all_goals exact hK'
        · intro a w u hC hl hd hsz hfree hs
          obtain ⟨u15, hu15⟩ : ∃ u, u = a.tmps.getD 15 undef := ⟨_, rfl⟩
          obtain ⟨u16, hu16⟩ : ∃ u, u = a.tmps.getD 16 undef := ⟨_, rfl⟩
          obtain ⟨u17, hu17⟩ : ∃ u, u = a.tmps.getD 17 undef := ⟨_, rfl⟩
          obtain ⟨u18, hu18⟩ : ∃ u, u = a.tmps.getD 18 undef := ⟨_, rfl⟩
          obtain ⟨u19, hu19⟩ : ∃ u, u = a.tmps.getD 19 undef := ⟨_, rfl⟩
          obtain ⟨u20, hu20⟩ : ∃ u, u = a.tmps.getD 20 undef := ⟨_, rfl⟩
          obtain ⟨u21, hu21⟩ : ∃ u, u = a.tmps.getD 21 undef := ⟨_, rfl⟩
          obtain ⟨u22, hu22⟩ : ∃ u, u = a.tmps.getD 22 undef := ⟨_, rfl⟩
          obtain ⟨u23, hu23⟩ : ∃ u, u = a.tmps.getD 23 undef := ⟨_, rfl⟩
          obtain ⟨u24, hu24⟩ : ∃ u, u = a.tmps.getD 24 undef := ⟨_, rfl⟩
          obtain ⟨u25, hu25⟩ : ∃ u, u = a.tmps.getD 25 undef := ⟨_, rfl⟩
          obtain ⟨u26, hu26⟩ : ∃ u, u = a.tmps.getD 26 undef := ⟨_, rfl⟩
          obtain ⟨u27, hu27⟩ : ∃ u, u = a.tmps.getD 27 undef := ⟨_, rfl⟩
          obtain ⟨u28, hu28⟩ : ∃ u, u = a.tmps.getD 28 undef := ⟨_, rfl⟩
          obtain ⟨u29, hu29⟩ : ∃ u, u = a.tmps.getD 29 undef := ⟨_, rfl⟩
          obtain ⟨u30, hu30⟩ : ∃ u, u = a.tmps.getD 30 undef := ⟨_, rfl⟩
          have hal : AllAt a 0 [_, _, _, .string (mkS i3), _, _, _, _, _, _, _, _, _, _, _, u15, u16, u17, u18, u19, u20, u21, u22, u23, u24, u25, u26, u27, u28, u29, u30, _] := ⟨hfree 0 rfl, hfree 1 rfl, hfree 2 rfl, hs 16 _ rfl, hfree 4 rfl, hfree 5 rfl, hfree 6 rfl, hfree 7 rfl, hfree 8 rfl, hfree 9 rfl, hfree 10 rfl, hfree 11 rfl, hfree 12 rfl, hfree 13 rfl, hfree 14 rfl, hu15.symm, hu16.symm, hu17.symm, hu18.symm, hu19.symm, hu20.symm, hu21.symm, hu22.symm, hu23.symm, hu24.symm, hu25.symm, hu26.symm, hu27.symm, hu28.symm, hu29.symm, hu30.symm, hfree 31 rfl, trivial⟩
          have hlit := fun h => act_lit hd h hal
          rw [hlit hsz]
          simp only [Array.getD_eq_getD_getElem?, List.getElem?_toArray, List.getElem?_cons_zero, List.getElem?_cons_succ, Option.getD_some]
          clear hlit hal hd hsz hfree hs hu15 hu16 hu17 hu18 hu19 hu20 hu21 hu22 hu23 hu24 hu25 hu26 hu27 hu28 hu29 hu30
          go_wp2
          go_roundw
          case rel => exact ⟨i + 1, by go_num, by omega, by rw [HTX.out, HI3.out, HCU.out]; rfl, Lib.hid (HL.out.trans hC)⟩
          case measure => simp [intOf]; omega
      · have hgt : (0 : Int) < (i : Int) := by omega
        rw [if_neg h0] at HTX
        obtain ⟨cu, hcu⟩ : ∃ cu : B, cu = text (l.take i) := ⟨_, rfl⟩
        rw [← hcu] at HTX hsm ⊢
        obtain ⟨cur, hcur⟩ : ∃ cur : B, cur = cu ++ [32] := ⟨_, rfl⟩
        rw [← hcur] at HTX
        have HCU := Lib.hid (show mkS cu ++ (⟨#[32]⟩ : ByteArray) = mkS cur by rw [hcur]; exact mkS_add cu [32])
        have hcat := HCU.out
        obtain ⟨i3, hi3, hz3⟩ := HZZ.out cur (by rw [hcur, List.length_append]; simp; omega)
        have HI3 := Lib.hid hi3
        have HZ3 := Lib.hid hz3
        clear hi3 hz3
        have hz4 : ¬ 9223372036854775807 < (mkS cu).size + 1 := by rw [mkS_size]; omega
        clear h0 hcu hcur hsm
        go_wp2_with fail
        clear hcat hz4
        refine wp_region_seqE (by kernel_rfl) [6, 13, 16] (fun _ _ w => Later wr w) [some (.string (mkS cur)), some (.slice (some ⟨g, o, none⟩) n c), some (.int .i64 (i : Int)), some (.pointer (some ⟨g, o + i * 2, none⟩)), some (.pointer (some ⟨g, o + i * 2, none⟩)), some (.int .i64 p1), some (.string (mkS ia)), some (.string (mkS i1)), some (.slice (some ⟨g, o, none⟩) n c), some (.int .i64 (i : Int)), some (.pointer (some ⟨g, o + i * 2, none⟩)), some (.pointer (some ⟨g, o + i * 2 + 1, none⟩)), some (.int .i64 p2), some (.string (mkS ib)), some (.string (mkS i2)), some (.string (mkS i3)), some (.string (mkS i3))] (by decide) (by decide) (by kernel_rfl) (by kernel_rfl) 3 (by kernel_rfl) (Later.drew wr) ?_ ?_
        · refine ⟨?_, ?_, ?_, ?_, ?_, ?_, ?_, ?_, ?_, ?_, ?_, ?_, ?_, ?_, ?_, ?_, ?_, trivial⟩
          · -- 0: slot 15 := Op.move t3
            refine OwesSE.q rfl fun a w j u hC hb he hs => ⟨rfl, ?_⟩
            have e3 : a.tmps.getD 3 undef = .string (mkS cur) := he (by have := hb 2 16 rfl rfl; simp only [List.length_cons, List.length_nil]; omega)
            refine ValWp.pure (v := .string (mkS cur)) (fun K' hK' => ?_) ⟨rfl, rfl⟩
            simp only [ValWp, execOp, Act.eval, e3]
            go_simp
            all_goals exact hK'
          · -- 1: slot 16 := Op.move t0
            refine OwesSE.q rfl fun a w j u hC hb he hs => ⟨rfl, ?_⟩
            have e0 : a.tmps.getD 0 undef = .slice (some ⟨g, o, none⟩) n c := hs.free 0 rfl
            refine ValWp.pure (v := .slice (some ⟨g, o, none⟩) n c) (fun K' hK' => ?_) ⟨rfl, rfl⟩
            simp only [ValWp, execOp, Act.eval, e0]
            go_simp
            all_goals exact hK'
          · -- 2: slot 17 := Op.move t4
            refine OwesSE.q rfl fun a w j u hC hb he hs => ⟨rfl, ?_⟩
            have e4 : a.tmps.getD 4 undef = .int .i64 (i : Int) := hs.free 4 rfl
            refine ValWp.pure (v := .int .i64 (i : Int)) (fun K' hK' => ?_) ⟨rfl, rfl⟩
            simp only [ValWp, execOp, Act.eval, e4]
            go_simp
            all_goals exact hK'
          · -- 3: slot 18 := Op.indexAddr 28 t16 t17
            refine OwesSE.q rfl fun a w j u hC hb he hs => ⟨rfl, ?_⟩
            have e16 : a.tmps.getD 16 undef = .slice (some ⟨g, o, none⟩) n c := hs.dep 1 _ rfl rfl
            have e17 : a.tmps.getD 17 undef = .int .i64 (i : Int) := hs.dep 2 _ rfl rfl
            refine ValWp.pure (v := .pointer (some ⟨g, o + i * 2, none⟩)) (fun K' hK' => ?_) ⟨rfl, rfl⟩
            simp only [ValWp, execOp, Act.eval, e16, e17]
            go_simp
            all_goals exact hK'
          · -- 4: slot 19 := Op.fieldAddr 45 t18 0
            refine OwesSE.q rfl fun a w j u hC hb he hs => ⟨rfl, ?_⟩
            have e18 : a.tmps.getD 18 undef = .pointer (some ⟨g, o + i * 2, none⟩) := hs.dep 3 _ rfl rfl
            refine ValWp.pure (v := .pointer (some ⟨g, o + i * 2, none⟩)) (fun K' hK' => ?_) ⟨rfl, rfl⟩
            simp only [ValWp, execOp, Act.eval, e18]
            go_simp
            all_goals exact hK'
          · -- 5: slot 20 := Op.load 3 t19
            refine OwesSE.q rfl fun a w j u hC hb he hs => ⟨rfl, ?_⟩
            have e19 : a.tmps.getD 19 undef = .pointer (some ⟨g, o + i * 2, none⟩) := hs.dep 4 _ rfl rfl
            have q := (HCC.out w hC).1
            refine ValWp.pure (v := .int .i64 p1) (fun K' hK' => ?_) ⟨rfl, rfl⟩
            simp only [ValWp, execOp, Act.eval, e19]
            go_simp
            all_goals exact hK'
          · -- 6: slot 21 := Op.call { value (Operand.func 16), args := #[t20], argTypes := #[2] }
            refine OwesSE.w rfl fun a w u hC hl hs => ⟨rfl, fun K hK => ?_⟩
            have e20 : a.tmps.getD 20 undef = .int .i64 p1 := hs.dep 5 _ rfl rfl
            refine wp_of_val ?_
            refine ValWp.call #[.int .i64 p1] rfl rfl Tryd.func16 rfl rfl (by simp only [List.map_toArray, List.map_cons, List.map_nil, Act.eval, e20]) ?_
            refine (HNA.out w).mono ?_
            rintro e w' ⟨rfl, hb⟩
            exact ⟨_, rfl, hK _ _ rfl (Later.trans hC hb)⟩
          · -- 7: slot 22 := Op.binOp BinOp.add 9 t21 (const (Value.string { data := #[61] })) 9
            refine OwesSE.q rfl fun a w j u hC hb he hs => ⟨rfl, ?_⟩
            have e21 : a.tmps.getD 21 undef = .string (mkS ia) := hs.dep 6 _ rfl rfl
            have hz := HZ1.out.1
            have hq := HZ1.out.2
            refine ValWp.pure (v := .string (mkS i1)) (fun K' hK' => ?_) ⟨rfl, rfl⟩
            simp only [ValWp, execOp, Act.eval, e21]
            go_simp
            all_goals exact hK'
          · -- 8: slot 23 := Op.move t0
            refine OwesSE.q rfl fun a w j u hC hb he hs => ⟨rfl, ?_⟩
            have e0 : a.tmps.getD 0 undef = .slice (some ⟨g, o, none⟩) n c := hs.free 0 rfl
            refine ValWp.pure (v := .slice (some ⟨g, o, none⟩) n c) (fun K' hK' => ?_) ⟨rfl, rfl⟩
            simp only [ValWp, execOp, Act.eval, e0]
            go_simp
            all_goals exact hK'
          · -- 9: slot 24 := Op.move t4
            refine OwesSE.q rfl fun a w j u hC hb he hs => ⟨rfl, ?_⟩
            have e4 : a.tmps.getD 4 undef = .int .i64 (i : Int) := hs.free 4 rfl
            refine ValWp.pure (v := .int .i64 (i : Int)) (fun K' hK' => ?_) ⟨rfl, rfl⟩
            simp only [ValWp, execOp, Act.eval, e4]
            go_simp
            all_goals exact hK'
          · -- 10: slot 25 := Op.indexAddr 28 t23 t24
            refine OwesSE.q rfl fun a w j u hC hb he hs => ⟨rfl, ?_⟩
            have e23 : a.tmps.getD 23 undef = .slice (some ⟨g, o, none⟩) n c := hs.dep 8 _ rfl rfl
            have e24 : a.tmps.getD 24 undef = .int .i64 (i : Int) := hs.dep 9 _ rfl rfl
            refine ValWp.pure (v := .pointer (some ⟨g, o + i * 2, none⟩)) (fun K' hK' => ?_) ⟨rfl, rfl⟩
            simp only [ValWp, execOp, Act.eval, e23, e24]
            go_simp
            all_goals exact hK'
          · -- 11: slot 26 := Op.fieldAddr 45 t25 1
            refine OwesSE.q rfl fun a w j u hC hb he hs => ⟨rfl, ?_⟩
            have e25 : a.tmps.getD 25 undef = .pointer (some ⟨g, o + i * 2, none⟩) := hs.dep 10 _ rfl rfl
            refine ValWp.pure (v := .pointer (some ⟨g, o + i * 2 + 1, none⟩)) (fun K' hK' => ?_) ⟨rfl, rfl⟩
            simp only [ValWp, execOp, Act.eval, e25]
            go_simp
            all_goals exact hK'
          · -- 12: slot 27 := Op.load 2 t26
            refine OwesSE.q rfl fun a w j u hC hb he hs => ⟨rfl, ?_⟩
            have e26 : a.tmps.getD 26 undef = .pointer (some ⟨g, o + i * 2 + 1, none⟩) := hs.dep 11 _ rfl rfl
            have q := (HCC.out w hC).2
            refine ValWp.pure (v := .int .i64 p2) (fun K' hK' => ?_) ⟨rfl, rfl⟩
            simp only [ValWp, execOp, Act.eval, e26]
            go_simp
            all_goals exact hK'
          · -- 13: slot 28 := Op.call { value (Operand.func 16), args := #[t27], argTypes := #[2] }
            refine OwesSE.w rfl fun a w u hC hl hs => ⟨rfl, fun K hK => ?_⟩
            have e27 : a.tmps.getD 27 undef = .int .i64 p2 := hs.dep 12 _ rfl rfl
            refine wp_of_val ?_
            refine ValWp.call #[.int .i64 p2] rfl rfl Tryd.func16 rfl rfl (by simp only [List.map_toArray, List.map_cons, List.map_nil, Act.eval, e27]) ?_
            refine (HNB.out w).mono ?_
            rintro e w' ⟨rfl, hb⟩
            exact ⟨_, rfl, hK _ _ rfl (Later.trans hC hb)⟩
          · -- 14: slot 29 := Op.binOp BinOp.add 9 t22 t28 9
            refine OwesSE.q rfl fun a w j u hC hb he hs => ⟨rfl, ?_⟩
            have e22 : a.tmps.getD 22 undef = .string (mkS i1) := hs.dep 7 _ rfl rfl
            have e28 : a.tmps.getD 28 undef = .string (mkS ib) := hs.dep 13 _ rfl rfl
            have hz := HZ2.out.1
            have hq := HZ2.out.2
            refine ValWp.pure (v := .string (mkS i2)) (fun K' hK' => ?_) ⟨rfl, rfl⟩
            simp only [ValWp, execOp, Act.eval, e22, e28]
            go_simp
            all_goals exact hK'
          · -- 15: slot 30 := Op.binOp BinOp.add 9 t15 t29 9
            refine OwesSE.q rfl fun a w j u hC hb he hs => ⟨rfl, ?_⟩
            have e15 : a.tmps.getD 15 undef = .string (mkS cur) := hs.dep 0 _ rfl rfl
            have e29 : a.tmps.getD 29 undef = .string (mkS i2) := hs.dep 14 _ rfl rfl
            have hz := HZ3.out.1
            have hq := HZ3.out.2
            refine ValWp.pure (v := .string (mkS i3)) (fun K' hK' => ?_) ⟨rfl, rfl⟩
            simp only [ValWp, execOp, Act.eval, e15, e29]
            go_simp
            all_goals exact hK'
          · -- 16: slot 3 := Op.assign t30
            refine OwesSE.w rfl fun a w u hC hl hs => ⟨rfl, fun K hK => ?_⟩
            have e30 : a.tmps.getD 30 undef = .string (mkS i3) := hs.dep 15 _ rfl rfl
            refine wp_of_val ?_
            refine ValWp.pure (v := .string (mkS i3)) (w' := w) (fun K' hK' => ?_) (hK _ _ rfl hC)
            simp only [ValWp, execOp, Act.eval, e30]
            go_simp
            all_goals exact hK'
        · intro a w u hC hl hd hsz hfree hs
          obtain ⟨u15, hu15⟩ : ∃ u, u = a.tmps.getD 15 undef := ⟨_, rfl⟩
          obtain ⟨u16, hu16⟩ : ∃ u, u = a.tmps.getD 16 undef := ⟨_, rfl⟩
          obtain ⟨u17, hu17⟩ : ∃ u, u = a.tmps.getD 17 undef := ⟨_, rfl⟩
          obtain ⟨u18, hu18⟩ : ∃ u, u = a.tmps.getD 18 undef := ⟨_, rfl⟩
          obtain ⟨u19, hu19⟩ : ∃ u, u = a.tmps.getD 19 undef := ⟨_, rfl⟩
          obtain ⟨u20, hu20⟩ : ∃ u, u = a.tmps.getD 20 undef := ⟨_, rfl⟩
          obtain ⟨u21, hu21⟩ : ∃ u, u = a.tmps.getD 21 undef := ⟨_, rfl⟩
          obtain ⟨u22, hu22⟩ : ∃ u, u = a.tmps.getD 22 undef := ⟨_, rfl⟩
          obtain ⟨u23, hu23⟩ : ∃ u, u = a.tmps.getD 23 undef := ⟨_, rfl⟩
          obtain ⟨u24, hu24⟩ : ∃ u, u = a.tmps.getD 24 undef := ⟨_, rfl⟩
          obtain ⟨u25, hu25⟩ : ∃ u, u = a.tmps.getD 25 undef := ⟨_, rfl⟩
          obtain ⟨u26, hu26⟩ : ∃ u, u = a.tmps.getD 26 undef := ⟨_, rfl⟩
          obtain ⟨u27, hu27⟩ : ∃ u, u = a.tmps.getD 27 undef := ⟨_, rfl⟩
          obtain ⟨u28, hu28⟩ : ∃ u, u = a.tmps.getD 28 undef := ⟨_, rfl⟩
          obtain ⟨u29, hu29⟩ : ∃ u, u = a.tmps.getD 29 undef := ⟨_, rfl⟩
          obtain ⟨u30, hu30⟩ : ∃ u, u = a.tmps.getD 30 undef := ⟨_, rfl⟩
          have hal : AllAt a 0 [_, _, _, .string (mkS i3), _, _, _, _, _, _, _, _, _, _, _, u15, u16, u17, u18, u19, u20, u21, u22, u23, u24, u25, u26, u27, u28, u29, u30, _] := ⟨hfree 0 rfl, hfree 1 rfl, hfree 2 rfl, hs 16 _ rfl, hfree 4 rfl, hfree 5 rfl, hfree 6 rfl, hfree 7 rfl, hfree 8 rfl, hfree 9 rfl, hfree 10 rfl, hfree 11 rfl, hfree 12 rfl, hfree 13 rfl, hfree 14 rfl, hu15.symm, hu16.symm, hu17.symm, hu18.symm, hu19.symm, hu20.symm, hu21.symm, hu22.symm, hu23.symm, hu24.symm, hu25.symm, hu26.symm, hu27.symm, hu28.symm, hu29.symm, hu30.symm, hfree 31 rfl, trivial⟩
          have hlit := fun h => act_lit hd h hal
          rw [hlit hsz]
          simp only [Array.getD_eq_getD_getElem?, List.getElem?_toArray, List.getElem?_cons_zero, List.getElem?_cons_succ, Option.getD_some]
          clear hlit hal hd hsz hfree hs hu15 hu16 hu17 hu18 hu19 hu20 hu21 hu22 hu23 hu24 hu25 hu26 hu27 hu28 hu29 hu30
          go_wp2
          go_roundw
          case rel => exact ⟨i + 1, by go_num, by omega, by rw [HTX.out, HI3.out], Lib.hid (HL.out.trans hC)⟩
          case measure => simp [intOf]; omega
    · have hlt2 : ¬ (i : Int) < (n : Int) := by omega
      have hall : l.take i = l := List.take_of_length_le (by rw [← HN.out]; omega)
      rw [hall]
      clear hall
      go_wp2
      go_ret
      exact ⟨rfl, HL.out⟩
end Fd
end Go.Proofs.YtjijbgogdaafdaaDoor
