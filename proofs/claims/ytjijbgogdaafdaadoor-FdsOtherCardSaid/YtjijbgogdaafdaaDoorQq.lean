/- FdsOther: its walk. Behind the powers of ten. -/
import Derived.Test.YtjijbgogdaafdaaDoorQp
namespace Go.Proofs.YtjijbgogdaafdaaDoor
open Go.RowKit Go.Maps
namespace Fd
set_option maxRecDepth 100000
set_option maxHeartbeats 12800000 in
theorem other_v (A : Option Addr) (n c : Nat) (l : List Deed) (x y z : Int) (W : World) (hd : RdD W W.heap.size A n l) (hk : ∀ d ∈ l, DdOk d) (hx : In x) (hy : In y) (hT : Tb W) : Calls Tryd.prog 4 #[.slice A n c, .int .i64 x, .int .i64 y, .int .i64 z] W fun e W' => e = .returned (.bool true) ∧ Later W W' := by
  have HT := Lib.hid hT
  have HAW := Lib.hid (awake_v W hT)
  have HD := Lib.hid hd
  have HK := Lib.hid hk
  have HXY := Lib.hid (And.intro hx hy)
  have hln := hd.len
  have HLN := Lib.hid hln
  clear hT hd hk hx hy hln
  by_cases hbig : 60 < n
  · have hb1 : (60 : Int) < (n : Int) := by omega
    go_enter Tryd.func4, Tryd.ntmps4
    go_wp2_with (go_at_call 5; (with_reducible refine HAW.out.mono ?_); rintro e w1 ⟨rfl, hl1⟩; (have HL1 := Lib.hid hl1); clear hl1)
    go_ret
    exact ⟨rfl, HL1.out⟩
  have hb1 : ¬ (60 : Int) < (n : Int) := by omega
  have hn60 : n ≤ 60 := by omega
  clear hbig
  go_enter Tryd.func4, Tryd.ntmps4
  go_wp2_with (first
    | (go_at_call 5; (with_reducible refine HAW.out.mono ?_); rintro e w1 ⟨rfl, hl1⟩; (have HL1 := Lib.hid hl1); clear hl1)
    | (go_at_call 6; (with_reducible refine (first_v _).mono ?_); rintro e w2 ⟨⟨v2, rfl, h2⟩, hl2⟩; (have H2 := Lib.hid h2); (have HL2 := Lib.hid (HL1.out.trans hl2)); clear h2 hl2))
  go_loopw [10, 11] (fun s10 s11 wr => ∃ i : Nat, s11 = .int .i64 (i : Int) ∧ i ≤ n ∧ Hid (RdP wr wr.heap.size s10 (ot (l.take i)) ∧ Later W wr)) (fun _ i _ => n - (intOf i).toNat)
  case atStart => exact ⟨0, rfl, Nat.zero_le _, Lib.hid ⟨H2.out, HL2.out⟩⟩
  case round =>
    obtain ⟨i, rfl, hi, HR⟩ := hrel
    have hi0 : (0 : Int) ≤ (i : Int) := by omega
    obtain ⟨LT, hLT⟩ : ∃ LT, LT = ot (l.take i) := ⟨_, rfl⟩
    have hgd := gd_ot HK.out i (by rw [HLN.out]; exact hi)
    rw [← hLT] at HR hgd
    have HGD := Lib.hid (hgd.more (n := 64) (by omega))
    obtain ⟨AT, cT, hv0, _⟩ := HR.out.1.le
    subst hv0
    by_cases hlt : i < n
    · have hlt1 : (i : Int) < (n : Int) := by omega
      have hil : i < l.length := by rw [HLN.out]; exact hlt
      obtain ⟨adr, hA, hab, hda⟩ := HD.out.at_ i hil
      subst hA
      obtain ⟨fd1, hfd⟩ : ∃ fd1, fd1 = l[i].fd := ⟨_, rfl⟩
      obtain ⟨k1, hk1⟩ : ∃ k1, k1 = l[i].k := ⟨_, rfl⟩
      obtain ⟨LX, hLX⟩ : ∃ LX, LX = wi LT fd1 k1 := ⟨_, rfl⟩
      have HST := Lib.hid (show ot (l.take (i + 1)) = LX by rw [ot_step hil, ← hLT, hLX, hfd, hk1])
      have HDA := Lib.hid (show ∀ w, Later wr w → w.cell? (adr.add (i * 3)) = some (.int .i64 fd1) ∧ w.cell? ⟨(adr.add (i * 3)).block, (adr.add (i * 3)).off + 1, none⟩ = some (.int .i64 k1) from fun w hl => by
        have h := hda.keep (by rw [block_add]; exact hab) (fun p hp => (HR.out.2.trans hl).cell hp)
        rw [hfd, hk1]
        exact ⟨h.c0, h.c1⟩)
      have HWI := Lib.hid (show ∀ w, Later wr w → Calls Tryd.prog 11 #[.slice AT LT.length cT, .int .i64 fd1, .int .i64 k1] w fun e w' => Told w w' e LX from fun w hl => by rw [hLX]; exact with_v _ LT fd1 k1 w (HR.out.1.later hl) HGD.out.up (by have := HGD.out.len; omega))
      clear hLT hgd hda hfd hk1 hLX hab hil
      obtain ⟨C0, hC0⟩ : ∃ C0 : Nat → Value → World → Prop, C0 = fun j u w => (j = 0 ∧ Later wr w) ∨ (1 ≤ j ∧ RdP w w.heap.size u LX ∧ Later wr w) := ⟨_, rfl⟩
      have HC0 := Lib.hid (show C0 0 undef wr.drew by rw [hC0]; exact .inl ⟨rfl, Later.drew wr⟩)
      have HC1 := Lib.hid (show ∀ j u w, C0 j u w → j ≤ 0 → Later wr w from fun j u w hc hj => by
        rw [hC0] at hc
        rcases hc with ⟨_, h⟩ | ⟨h, _⟩
        · exact h
        · omega)
      have HC2 := Lib.hid (show ∀ v w, RdP w w.heap.size v LX → Later wr w → C0 1 v w from fun v w h1 h2 => by rw [hC0]; exact .inr ⟨Nat.le_refl _, h1, h2⟩)
      have HC3 := Lib.hid (show ∀ u w, C0 1 u w → ∃ A c, u = .slice A LX.length c ∧ RdP w w.heap.size (.slice A LX.length c) LX ∧ Later wr w from fun u w hc => by
        rw [hC0] at hc
        rcases hc with ⟨h, _⟩ | ⟨_, h1, h2⟩
        · omega
        · obtain ⟨A, c, rfl, _⟩ := h1.le
          exact ⟨A, c, rfl, h1, h2⟩)
      have HC4 := Lib.hid (show ∀ A c w, (RdP w w.heap.size (.slice A LX.length c) LX ∧ Later wr w) → C0 2 (.slice A LX.length c) w from fun A c w h => by rw [hC0]; exact .inr ⟨by omega, h.1, h.2⟩)
      have HC5 := Lib.hid (show ∀ u w, C0 2 u w → ∃ A c, u = .slice A LX.length c ∧ RdP w w.heap.size (.slice A LX.length c) LX ∧ Later wr w from fun u w hc => by
        rw [hC0] at hc
        rcases hc with ⟨h, _⟩ | ⟨_, h1, h2⟩
        · omega
        · obtain ⟨A, c, rfl, _⟩ := h1.le
          exact ⟨A, c, rfl, h1, h2⟩)
      clear hC0
      go_wp2_with fail
      refine wp_region_seqE (by kernel_rfl) [11, 12] (C0) [some (.slice AT LT.length cT), some (.slice (some adr) n c), some (.int .i64 (i : Int)), some (.pointer (some (adr.add (i * 3)))), some (.pointer (some (adr.add (i * 3)))), some (.int .i64 fd1), some (.slice (some adr) n c), some (.int .i64 (i : Int)), some (.pointer (some (adr.add (i * 3)))), some (.pointer (some ⟨(adr.add (i * 3)).block, (adr.add (i * 3)).off + 1, none⟩)), some (.int .i64 k1), none, none] (by decide) (by decide) (by kernel_rfl) (by kernel_rfl) 10 (by kernel_rfl) (HC0.out) ?_ ?_
      · refine ⟨?_, ?_, ?_, ?_, ?_, ?_, ?_, ?_, ?_, ?_, ?_, ?_, ?_, trivial⟩
        · -- 0: slot 35 := Op.move t10
          refine OwesSE.q rfl fun a w j u hC hb he hs => ⟨rfl, ?_⟩
          have e10 : a.tmps.getD 10 undef = .slice AT LT.length cT := he (by have := hb 1 12 rfl rfl; simp only [List.length_cons, List.length_nil]; omega)
          refine ValWp.pure (v := .slice AT LT.length cT) (fun K' hK' => ?_) ⟨rfl, rfl⟩
          simp only [ValWp, execOp, Act.eval, e10]
          go_simp
          all_goals exact hK'
        · -- 1: slot 36 := Op.move t0
          refine OwesSE.q rfl fun a w j u hC hb he hs => ⟨rfl, ?_⟩
          have e0 : a.tmps.getD 0 undef = .slice (some adr) n c := hs.free 0 rfl
          refine ValWp.pure (v := .slice (some adr) n c) (fun K' hK' => ?_) ⟨rfl, rfl⟩
          simp only [ValWp, execOp, Act.eval, e0]
          go_simp
          all_goals exact hK'
        · -- 2: slot 37 := Op.move t11
          refine OwesSE.q rfl fun a w j u hC hb he hs => ⟨rfl, ?_⟩
          have e11 : a.tmps.getD 11 undef = .int .i64 (i : Int) := hs.free 11 rfl
          refine ValWp.pure (v := .int .i64 (i : Int)) (fun K' hK' => ?_) ⟨rfl, rfl⟩
          simp only [ValWp, execOp, Act.eval, e11]
          go_simp
          all_goals exact hK'
        · -- 3: slot 38 := Op.indexAddr 22 t36 t37
          refine OwesSE.q rfl fun a w j u hC hb he hs => ⟨rfl, ?_⟩
          have e36 : a.tmps.getD 36 undef = .slice (some adr) n c := hs.dep 1 _ rfl rfl
          have e37 : a.tmps.getD 37 undef = .int .i64 (i : Int) := hs.dep 2 _ rfl rfl
          refine ValWp.pure (v := .pointer (some (adr.add (i * 3)))) (fun K' hK' => ?_) ⟨rfl, rfl⟩
          simp only [ValWp, execOp, Act.eval, e36, e37]
          go_simp
          all_goals exact hK'
        · -- 4: slot 39 := Op.fieldAddr 32 t38 0
          refine OwesSE.q rfl fun a w j u hC hb he hs => ⟨rfl, ?_⟩
          have e38 : a.tmps.getD 38 undef = .pointer (some (adr.add (i * 3))) := hs.dep 3 _ rfl rfl
          refine ValWp.pure (v := .pointer (some (adr.add (i * 3)))) (fun K' hK' => ?_) ⟨rfl, rfl⟩
          simp only [ValWp, execOp, Act.eval, e38]
          go_simp
          all_goals exact hK'
        · -- 5: slot 40 := Op.load 3 t39
          refine OwesSE.q rfl fun a w j u hC hb he hs => ⟨rfl, ?_⟩
          have e39 : a.tmps.getD 39 undef = .pointer (some (adr.add (i * 3))) := hs.dep 4 _ rfl rfl
          have hj := hb 0 11 rfl rfl
          have q0 := (HDA.out w (HC1.out j u w hC (by omega))).1
          refine ValWp.pure (v := .int .i64 fd1) (fun K' hK' => ?_) ⟨rfl, rfl⟩
          simp only [ValWp, execOp, Act.eval, e39]
          go_simp
          all_goals exact hK'
        · -- 6: slot 41 := Op.move t0
          refine OwesSE.q rfl fun a w j u hC hb he hs => ⟨rfl, ?_⟩
          have e0 : a.tmps.getD 0 undef = .slice (some adr) n c := hs.free 0 rfl
          refine ValWp.pure (v := .slice (some adr) n c) (fun K' hK' => ?_) ⟨rfl, rfl⟩
          simp only [ValWp, execOp, Act.eval, e0]
          go_simp
          all_goals exact hK'
        · -- 7: slot 42 := Op.move t11
          refine OwesSE.q rfl fun a w j u hC hb he hs => ⟨rfl, ?_⟩
          have e11 : a.tmps.getD 11 undef = .int .i64 (i : Int) := hs.free 11 rfl
          refine ValWp.pure (v := .int .i64 (i : Int)) (fun K' hK' => ?_) ⟨rfl, rfl⟩
          simp only [ValWp, execOp, Act.eval, e11]
          go_simp
          all_goals exact hK'
        · -- 8: slot 43 := Op.indexAddr 22 t41 t42
          refine OwesSE.q rfl fun a w j u hC hb he hs => ⟨rfl, ?_⟩
          have e41 : a.tmps.getD 41 undef = .slice (some adr) n c := hs.dep 6 _ rfl rfl
          have e42 : a.tmps.getD 42 undef = .int .i64 (i : Int) := hs.dep 7 _ rfl rfl
          refine ValWp.pure (v := .pointer (some (adr.add (i * 3)))) (fun K' hK' => ?_) ⟨rfl, rfl⟩
          simp only [ValWp, execOp, Act.eval, e41, e42]
          go_simp
          all_goals exact hK'
        · -- 9: slot 44 := Op.fieldAddr 32 t43 1
          refine OwesSE.q rfl fun a w j u hC hb he hs => ⟨rfl, ?_⟩
          have e43 : a.tmps.getD 43 undef = .pointer (some (adr.add (i * 3))) := hs.dep 8 _ rfl rfl
          refine ValWp.pure (v := .pointer (some ⟨(adr.add (i * 3)).block, (adr.add (i * 3)).off + 1, none⟩)) (fun K' hK' => ?_) ⟨rfl, rfl⟩
          simp only [ValWp, execOp, Act.eval, e43]
          go_simp
          all_goals exact hK'
        · -- 10: slot 45 := Op.load 2 t44
          refine OwesSE.q rfl fun a w j u hC hb he hs => ⟨rfl, ?_⟩
          have e44 : a.tmps.getD 44 undef = .pointer (some ⟨(adr.add (i * 3)).block, (adr.add (i * 3)).off + 1, none⟩) := hs.dep 9 _ rfl rfl
          have hj := hb 0 11 rfl rfl
          have q0 := (HDA.out w (HC1.out j u w hC (by omega))).2
          refine ValWp.pure (v := .int .i64 k1) (fun K' hK' => ?_) ⟨rfl, rfl⟩
          simp only [ValWp, execOp, Act.eval, e44]
          go_simp
          all_goals exact hK'
        · -- 11: slot 46 := Op.call { value (Operand.func 11), args := #[t35, t40, t45], argTypes := #[26, 3, 2] }
          refine OwesSE.w rfl fun a w u hC hl hs => ⟨rfl, fun K hK => ?_⟩
          have e35 : a.tmps.getD 35 undef = .slice AT LT.length cT := hs.dep 0 _ rfl rfl
          have e40 : a.tmps.getD 40 undef = .int .i64 fd1 := hs.dep 5 _ rfl rfl
          have e45 : a.tmps.getD 45 undef = .int .i64 k1 := hs.dep 10 _ rfl rfl
          have hl0 := HC1.out _ u w hC (by decide)
          refine wp_of_val ?_
          refine ValWp.call #[.slice AT LT.length cT, .int .i64 fd1, .int .i64 k1] rfl rfl Tryd.func11 rfl rfl (by simp only [List.map_toArray, List.map_cons, List.map_nil, Act.eval, e35, e40, e45]) ?_
          refine (HWI.out w hl0).mono ?_
          rintro e w' ⟨⟨v, rfl, hrd⟩, hl⟩
          exact ⟨_, rfl, hK _ _ trivial (HC2.out v w' hrd (Later.trans hl0 hl))⟩
        · -- 12: slot 10 := Op.assign t46
          refine OwesSE.w rfl fun a w u hC hl hs => ⟨rfl, fun K hK => ?_⟩
          have e46 : a.tmps.getD 46 undef = u := hl
          obtain ⟨AX, cX, hu, hx⟩ := HC3.out u w hC
          subst hu
          refine wp_of_val ?_
          refine ValWp.pure (v := .slice AX LX.length cX) (w' := w) (fun K' hK' => ?_) (hK _ _ trivial (HC4.out AX cX w hx))
          simp only [ValWp, execOp, Act.eval, e46]
          go_simp
          all_goals exact hK'
      · intro a W_ u hC hl hd hsz hfree hs
        obtain ⟨u35, hu35⟩ : ∃ u, u = a.tmps.getD 35 undef := ⟨_, rfl⟩
        obtain ⟨u36, hu36⟩ : ∃ u, u = a.tmps.getD 36 undef := ⟨_, rfl⟩
        obtain ⟨u37, hu37⟩ : ∃ u, u = a.tmps.getD 37 undef := ⟨_, rfl⟩
        obtain ⟨u38, hu38⟩ : ∃ u, u = a.tmps.getD 38 undef := ⟨_, rfl⟩
        obtain ⟨u39, hu39⟩ : ∃ u, u = a.tmps.getD 39 undef := ⟨_, rfl⟩
        obtain ⟨u40, hu40⟩ : ∃ u, u = a.tmps.getD 40 undef := ⟨_, rfl⟩
        obtain ⟨u41, hu41⟩ : ∃ u, u = a.tmps.getD 41 undef := ⟨_, rfl⟩
        obtain ⟨u42, hu42⟩ : ∃ u, u = a.tmps.getD 42 undef := ⟨_, rfl⟩
        obtain ⟨u43, hu43⟩ : ∃ u, u = a.tmps.getD 43 undef := ⟨_, rfl⟩
        obtain ⟨u44, hu44⟩ : ∃ u, u = a.tmps.getD 44 undef := ⟨_, rfl⟩
        obtain ⟨u45, hu45⟩ : ∃ u, u = a.tmps.getD 45 undef := ⟨_, rfl⟩
        obtain ⟨u46, hu46⟩ : ∃ u, u = a.tmps.getD 46 undef := ⟨_, rfl⟩
        have hal : AllAt a 0 [_, _, _, _, _, _, _, _, _, _, u, _, _, _, _, _, _, _, _, _, _, _, _, _, _, _, _, _, _, _, _, _, _, _, _, u35, u36, u37, u38, u39, u40, u41, u42, u43, u44, u45, u46, _, _, _, _, _, _, _, _, _, _, _, _, _, _, _, _, _, _, _, _, _, _, _, _, _, _, _, _, _, _, _, _, _, _, _, _, _, _, _, _, _, _, _, _, _, _, _, _, _, _, _, _, _, _, _, _, _, _, _, _, _, _, _, _, _, _, _, _, _, _, _, _, _] := ⟨hfree 0 rfl, hfree 1 rfl, hfree 2 rfl, hfree 3 rfl, hfree 4 rfl, hfree 5 rfl, hfree 6 rfl, hfree 7 rfl, hfree 8 rfl, hfree 9 rfl, hl, hfree 11 rfl, hfree 12 rfl, hfree 13 rfl, hfree 14 rfl, hfree 15 rfl, hfree 16 rfl, hfree 17 rfl, hfree 18 rfl, hfree 19 rfl, hfree 20 rfl, hfree 21 rfl, hfree 22 rfl, hfree 23 rfl, hfree 24 rfl, hfree 25 rfl, hfree 26 rfl, hfree 27 rfl, hfree 28 rfl, hfree 29 rfl, hfree 30 rfl, hfree 31 rfl, hfree 32 rfl, hfree 33 rfl, hfree 34 rfl, hu35.symm, hu36.symm, hu37.symm, hu38.symm, hu39.symm, hu40.symm, hu41.symm, hu42.symm, hu43.symm, hu44.symm, hu45.symm, hu46.symm, hfree 47 rfl, hfree 48 rfl, hfree 49 rfl, hfree 50 rfl, hfree 51 rfl, hfree 52 rfl, hfree 53 rfl, hfree 54 rfl, hfree 55 rfl, hfree 56 rfl, hfree 57 rfl, hfree 58 rfl, hfree 59 rfl, hfree 60 rfl, hfree 61 rfl, hfree 62 rfl, hfree 63 rfl, hfree 64 rfl, hfree 65 rfl, hfree 66 rfl, hfree 67 rfl, hfree 68 rfl, hfree 69 rfl, hfree 70 rfl, hfree 71 rfl, hfree 72 rfl, hfree 73 rfl, hfree 74 rfl, hfree 75 rfl, hfree 76 rfl, hfree 77 rfl, hfree 78 rfl, hfree 79 rfl, hfree 80 rfl, hfree 81 rfl, hfree 82 rfl, hfree 83 rfl, hfree 84 rfl, hfree 85 rfl, hfree 86 rfl, hfree 87 rfl, hfree 88 rfl, hfree 89 rfl, hfree 90 rfl, hfree 91 rfl, hfree 92 rfl, hfree 93 rfl, hfree 94 rfl, hfree 95 rfl, hfree 96 rfl, hfree 97 rfl, hfree 98 rfl, hfree 99 rfl, hfree 100 rfl, hfree 101 rfl, hfree 102 rfl, hfree 103 rfl, hfree 104 rfl, hfree 105 rfl, hfree 106 rfl, hfree 107 rfl, hfree 108 rfl, hfree 109 rfl, hfree 110 rfl, hfree 111 rfl, hfree 112 rfl, hfree 113 rfl, hfree 114 rfl, hfree 115 rfl, hfree 116 rfl, hfree 117 rfl, hfree 118 rfl, hfree 119 rfl, trivial⟩
        have hlit := fun h => act_lit hd h hal
        rw [hlit hsz]
        simp only [Array.getD_eq_getD_getElem?, List.getElem?_toArray, List.getElem?_cons_zero, List.getElem?_cons_succ, Option.getD_some]
        clear hlit hal hd hsz hfree hs hu35 hu36 hu37 hu38 hu39 hu40 hu41 hu42 hu43 hu44 hu45 hu46
        obtain ⟨AX, cX, hu, hx, hlx⟩ := HC5.out u W_ hC
        subst hu
        go_wp2
        go_roundw
        case rel => exact ⟨i + 1, by go_num, by omega, Lib.hid ⟨by rw [HST.out]; exact hx, HR.out.2.trans hlx⟩⟩
        case measure => simp [intOf]; omega
    · have hlt1 : ¬ (i : Int) < (n : Int) := by omega
      obtain ⟨LA, hLA⟩ : ∃ LA, LA = wi LT x y := ⟨_, rfl⟩
      obtain ⟨LB, hLB⟩ : ∃ LB, LB = wo LT x := ⟨_, rfl⟩
      have HGA := Lib.hid (show Gd LA 65 by rw [hLA]; exact HGD.out.wi HXY.out.1 HXY.out.2)
      have HGB := Lib.hid (show Gd LB 64 by rw [hLB]; exact HGD.out.wo x)
      have e1 : wo LA x = LB := by rw [hLA, hLB]; exact wo_wi HGD.out.up x y
      have e2 : wi LA x y = LA := by rw [hLA]; exact wi_wi LT x y y
      have e3 : get LA x = (y, true) := by rw [hLA]; exact get_put LT x y
      have e4 : (get LB x).2 = false := by rw [hLB]; exact get_gone LT x
      have e5 : z ≠ x → get LA z = get LT z := fun h => by rw [hLA]; exact get_other LT x y h
      have HE := Lib.hid (And.intro e1 (And.intro e2 (And.intro e3 (And.intro e4 e5))))
      have HR0 := Lib.hid HR.out.1
      have HLW := Lib.hid HR.out.2
      have HWA := Lib.hid (show Calls Tryd.prog 11 #[.slice AT LT.length cT, .int .i64 x, .int .i64 y] wr fun e w' => Told wr w' e LA by rw [hLA]; exact with_v _ LT x y wr HR.out.1 HGD.out.up (by have := HGD.out.len; omega))
      have HWT := Lib.hid (show ∀ w, Later wr w → Calls Tryd.prog 9 #[.slice AT LT.length cT, .int .i64 x] w fun e w' => Told w w' e LB from fun w hl => by rw [hLB]; exact without_v _ LT x w (HR.out.1.later hl) (by have := HGD.out.len; omega))
      clear e1 e2 e3 e4 e5 hLA hLB hLT hgd
      go_wp2_with fail
      go_at_call 11
      with_reducible refine HWA.out.mono ?_
      rintro e w1 ⟨⟨v1, rfl, h1⟩, hl1⟩
      have K1 := Lib.hid hl1
      obtain ⟨AA, cA, rfl, _⟩ := h1.le
      have HA := Lib.hid h1
      have HB1 := Lib.hid (show Calls Tryd.prog 9 #[.slice AA LA.length cA, .int .i64 x] w1 fun e w' => Told w1 w' e LB by have h := without_v _ LA x w1 h1 (by have := HGA.out.len; omega); rw [HE.out.1] at h; exact h)
      clear h1 hl1
      go_wp2_with fail
      go_at_call 9
      with_reducible refine HB1.out.mono ?_
      rintro e w2 ⟨⟨v2, rfl, h2⟩, hl2⟩
      have K2 := Lib.hid (K1.out.trans hl2)
      obtain ⟨AB, cB, rfl, _⟩ := h2.le
      have HB := Lib.hid h2
      have HA2 := Lib.hid (HA.out.later hl2)
      have HG1 := Lib.hid (show ∀ w, Later w2 w → Calls Tryd.prog 14 #[.slice AA LA.length cA, .int .i64 x] w fun e w' => e = .returned (.tuple #[.int .i64 y, .bool true]) ∧ Later w w' from fun w hl => by have h := get_v _ LA x w (HA2.out.later hl) HGA.out.up (by have := HGA.out.len; omega); rw [HE.out.2.2.1] at h; exact h)
      obtain ⟨g2, hg2⟩ : ∃ g, g = get LA z := ⟨_, rfl⟩
      obtain ⟨g3, hg3⟩ : ∃ g, g = get LT z := ⟨_, rfl⟩
      obtain ⟨g4, hg4⟩ : ∃ g, g = get LB x := ⟨_, rfl⟩
      have HG2 := Lib.hid (show ∀ w, Later w2 w → Calls Tryd.prog 14 #[.slice AA LA.length cA, .int .i64 z] w fun e w' => e = .returned (.tuple #[.int .i64 g2.1, .bool g2.2]) ∧ Later w w' from fun w hl => by rw [hg2]; exact get_v _ LA z w (HA2.out.later hl) HGA.out.up (by have := HGA.out.len; omega))
      have HG3 := Lib.hid (show ∀ w, Later w2 w → Calls Tryd.prog 14 #[.slice AT LT.length cT, .int .i64 z] w fun e w' => e = .returned (.tuple #[.int .i64 g3.1, .bool g3.2]) ∧ Later w w' from fun w hl => by rw [hg3]; exact get_v _ LT z w (HR0.out.later (K2.out.trans hl)) HGD.out.up (by have := HGD.out.len; omega))
      have HG4 := Lib.hid (show ∀ w, Later w2 w → Calls Tryd.prog 14 #[.slice AB LB.length cB, .int .i64 x] w fun e w' => e = .returned (.tuple #[.int .i64 g4.1, .bool false]) ∧ Later w w' from fun w hl => by have h := get_v _ LB x w (HB.out.later hl) HGB.out.up (by have := HGB.out.len; omega); rw [HE.out.2.2.2.1] at h; rw [hg4]; exact h)
      have HGE := Lib.hid (show z ≠ x → g2 = g3 from fun h => by rw [hg2, hg3]; exact HE.out.2.2.2.2 h)
      obtain ⟨TB, hTB⟩ : ∃ t, t = text LB := ⟨_, rfl⟩
      obtain ⟨TA, hTA⟩ : ∃ t, t = text LA := ⟨_, rfl⟩
      have HSB := Lib.hid (show ∀ w v, Later w2 w → RdP w w.heap.size v LB → Calls Tryd.prog 13 #[v] w fun e w' => e = .returned (.string (mkS TB)) ∧ Later w w' from fun w v hl h => by rw [hTB]; exact show_v v LB w h HGB.out.ok (by have := HGB.out.len; omega) (HT.out.later (HLW.out.trans (K2.out.trans hl))))
      have HSA := Lib.hid (show ∀ w v, Later w2 w → RdP w w.heap.size v LA → Calls Tryd.prog 13 #[v] w fun e w' => e = .returned (.string (mkS TA)) ∧ Later w w' from fun w v hl h => by rw [hTA]; exact show_v v LA w h HGA.out.ok (by have := HGA.out.len; omega) (HT.out.later (HLW.out.trans (K2.out.trans hl))))
      have HWW := Lib.hid (show ∀ w, Later w2 w → Calls Tryd.prog 11 #[.slice AA LA.length cA, .int .i64 x, .int .i64 y] w fun e w' => Told w w' e LA from fun w hl => by have h := with_v _ LA x y w (HA2.out.later hl) HGA.out.up (by have := HGA.out.len; omega); rw [HE.out.2.1] at h; exact h)
      clear h2 hl2 hg2 hg3 hg4 hTB hTA
      have htB : ((mkS TB).toList == (mkS TB).toList) = true := beq_self_eq_true _
      have htA : ((mkS TA).toList == (mkS TA).toList) = true := beq_self_eq_true _
      go_wp2_with fail
      go_at_call 14
      with_reducible refine (HG1.out _ (Later.refl _)).mono ?_
      rintro e w3 ⟨rfl, hl3⟩
      have K3 := Lib.hid hl3
      clear hl3
      go_wp2_with fail
      go_at_call 14
      with_reducible refine (HG2.out _ K3.out).mono ?_
      rintro e w4 ⟨rfl, hl4⟩
      have K4 := Lib.hid (K3.out.trans hl4)
      clear hl4
      go_wp2_with fail
      go_at_call 14
      with_reducible refine (HG3.out _ K4.out).mono ?_
      rintro e w5 ⟨rfl, hl5⟩
      have K5 := Lib.hid (K4.out.trans hl5)
      clear hl5
      go_wp2_with fail
      go_at_call 14
      with_reducible refine (HG4.out _ K5.out).mono ?_
      rintro e w6 ⟨rfl, hl6⟩
      have K6 := Lib.hid (K5.out.trans hl6)
      clear hl6
      have HBS := Lib.hid (HSB.out w6 _ K6.out (HB.out.later K6.out))
      by_cases hzx : z = x
      · have hq1 : (z == x) = true := by simpa using hzx
        have hq2 : ¬ z ≠ x := fun h => h hzx
        clear hzx
        go_wp2_with fail
        go_at_call 13
        with_reducible refine HBS.out.mono ?_
        rintro e w7 ⟨rfl, hl7⟩
        have K7 := Lib.hid (K6.out.trans hl7)
        have HW7 := Lib.hid (HWT.out w7 (K2.out.trans K7.out))
        clear hl7
        go_wp2_with fail
        go_at_call 9
        with_reducible refine HW7.out.mono ?_
        rintro e w8 ⟨⟨v8, rfl, h8⟩, hl8⟩
        have K8 := Lib.hid (K7.out.trans hl8)
        have HS8 := Lib.hid (HSB.out w8 v8 K8.out h8)
        obtain ⟨A8, c8, rfl, _⟩ := h8.le
        clear h8 hl8
        go_wp2_with fail
        go_at_call 13
        with_reducible refine HS8.out.mono ?_
        rintro e w9 ⟨rfl, hl9⟩
        have K9 := Lib.hid (K8.out.trans hl9)
        have HW9 := Lib.hid (HWW.out w9 K9.out)
        clear hl9
        go_wp2_with fail
        go_at_call 11
        with_reducible refine HW9.out.mono ?_
        rintro e w10 ⟨⟨v10, rfl, h10⟩, hl10⟩
        have K10 := Lib.hid (K9.out.trans hl10)
        have HS10 := Lib.hid (HSA.out w10 v10 K10.out h10)
        obtain ⟨A10, c10, rfl, _⟩ := h10.le
        clear h10 hl10
        go_wp2_with fail
        go_at_call 13
        with_reducible refine HS10.out.mono ?_
        rintro e w11 ⟨rfl, hl11⟩
        have K11 := Lib.hid (K10.out.trans hl11)
        have HS11 := Lib.hid (HSA.out w11 _ K11.out (HA2.out.later K11.out))
        clear hl11
        go_wp2_with fail
        go_at_call 13
        with_reducible refine HS11.out.mono ?_
        rintro e w12 ⟨rfl, hl12⟩
        have K12 := Lib.hid (K11.out.trans hl12)
        clear hl12
        go_wp2
        go_ret
        exact ⟨rfl, HLW.out.trans (K2.out.trans K12.out)⟩
      · have hq1 : (z == x) = false := by simpa using hzx
        have hgg := HGE.out hzx
        subst hgg
        have hq3 : (g2.1 == g2.1) = true := beq_self_eq_true _
        have hq4 : (g2.2 == g2.2) = true := beq_self_eq_true _
        go_wp2_with fail
        go_at_call 13
        with_reducible refine HBS.out.mono ?_
        rintro e w7 ⟨rfl, hl7⟩
        have K7 := Lib.hid (K6.out.trans hl7)
        have HW7 := Lib.hid (HWT.out w7 (K2.out.trans K7.out))
        clear hl7
        go_wp2_with fail
        go_at_call 9
        with_reducible refine HW7.out.mono ?_
        rintro e w8 ⟨⟨v8, rfl, h8⟩, hl8⟩
        have K8 := Lib.hid (K7.out.trans hl8)
        have HS8 := Lib.hid (HSB.out w8 v8 K8.out h8)
        obtain ⟨A8, c8, rfl, _⟩ := h8.le
        clear h8 hl8
        go_wp2_with fail
        go_at_call 13
        with_reducible refine HS8.out.mono ?_
        rintro e w9 ⟨rfl, hl9⟩
        have K9 := Lib.hid (K8.out.trans hl9)
        have HW9 := Lib.hid (HWW.out w9 K9.out)
        clear hl9
        go_wp2_with fail
        go_at_call 11
        with_reducible refine HW9.out.mono ?_
        rintro e w10 ⟨⟨v10, rfl, h10⟩, hl10⟩
        have K10 := Lib.hid (K9.out.trans hl10)
        have HS10 := Lib.hid (HSA.out w10 v10 K10.out h10)
        obtain ⟨A10, c10, rfl, _⟩ := h10.le
        clear h10 hl10
        go_wp2_with fail
        go_at_call 13
        with_reducible refine HS10.out.mono ?_
        rintro e w11 ⟨rfl, hl11⟩
        have K11 := Lib.hid (K10.out.trans hl11)
        have HS11 := Lib.hid (HSA.out w11 _ K11.out (HA2.out.later K11.out))
        clear hl11
        go_wp2_with fail
        go_at_call 13
        with_reducible refine HS11.out.mono ?_
        rintro e w12 ⟨rfl, hl12⟩
        have K12 := Lib.hid (K11.out.trans hl12)
        clear hl12
        go_wp2
        go_ret
        exact ⟨rfl, HLW.out.trans (K2.out.trans K12.out)⟩
end Fd
end Go.Proofs.YtjijbgogdaafdaaDoor
