/- cells: a row's cells, told one by one. No premises. -/
import Derived.RangeFuncNested
import Derived.RangeFuncBound
import Derived.Shelf.Abstract
import Derived.Shelf.RegionOpen
import Derived.TacticsInMore
import Derived.LoopIn
import Derived.LoopNIn
import Derived.OwnWalkIn
import Derived.Test.YtghdimcdkjlpcaaSofI
import Derived.Test.YtghdimcdkjlpcaaJt
namespace Go.Proofs.Ytghdimcdkjlpcaa
open Go.RowKit Go.Maps Go.Shelf
attribute [local go_sem] Oper.semAt_some
namespace Jo
/-- A row in a box. -/
abbrev RBox (W : World) (b : Nat) (t m : L) : Prop := W.heap[b]? = some (.cells #[.string (mkS t), .string (mkS m)] 23 (0, 0))
set_option maxRecDepth 100000 in
theorem cells_v (t m : L) (w : World) : Calls Try.prog 22 #[.agg #[.string (mkS t), .string (mkS m)]] w fun e w' => e = .returned (.func (.func 31) #[] #[.pointer (some ⟨w.heap.size, 0, none⟩)]) ∧ w' = w.alloc (.cells #[.string (mkS t), .string (mkS m)] 23) := by
  go_enter Try.func22, Try.ntmps22
  go_wp2
  go_ret
  exact ⟨rfl, rfl⟩
theorem mkS_get (t : L) (i : Nat) (h : i < (mkS t).size) (h2 : i < t.length) : (mkS t)[i]'h = t[i] := by
  show t.toArray[i] = t[i]
  simp
set_option maxRecDepth 100000 in
set_option maxHeartbeats 3200000 in
theorem cells_it (l b : Nat) (t m : L) (ht : t.length ≤ 9223372036854775807) (J : Nat → World → Prop) (hbox : ∀ i W, J i W → RBox W b t m) (hJd : ∀ i W, J i W → J i W.drew)
    (hY : ∀ (i : Nat) (hi : i < (t.zip m).length) (W : World), J i W → YieldAt Fence.wide 3 Try.prog l #[cl (t.zip m)[i]] W fun e W' => e = .returned (.bool true) ∧ J (i + 1) W') (W : World) (h0 : J 0 W) :
    CallsIn Fence.wide 4 Try.prog 31 (#[.func (.yield l) #[] #[]] ++ #[.pointer (some ⟨b, 0, none⟩)]) W fun e W2 => (∃ v, e = .returned v) ∧ J (t.zip m).length W2 := by
  refine callsIn_of_wp Try.func31 rfl trivial ?_ rfl
  simp only [Try.ntmps31, List.size_toArray, List.length_cons, List.length_nil, Nat.reduceAdd, Nat.reduceSub, Array.replicate_succ, Array.replicate_zero, List.push_toArray, List.append_toArray, List.nil_append, List.cons_append]
  obtain ⟨n, hn⟩ : ∃ n, n = (t.zip m).length := ⟨_, rfl⟩
  have hnm : n = min t.length m.length := by rw [hn, List.length_zip]
  have HMIN := Lib.hid (show min (t.length : Int) (m.length : Int) = (n : Int) by omega)
  have hst : ((mkS t).size : Int) = (t.length : Int) := by rw [mkS_size]
  have hsm : ((mkS m).size : Int) = (m.length : Int) := by rw [mkS_size]
  have hb0 := hbox 0 W h0
  have d0 : W.cell? ⟨b, 0, none⟩ = some (.string (mkS t)) := (cell_row hb0 0).1
  have d1 : W.cell? ⟨b, 1, none⟩ = some (.string (mkS m)) := (cell_row hb0 1).1
  have HBX := Lib.hid hbox
  have HJD := Lib.hid hJd
  have HYY := Lib.hid hY
  have HN := Lib.hid hn
  clear hbox hJd hY hn hb0
  gi_wp2
  rw [HMIN.out]
  gi_loopw [11] (fun s11 wr => ∃ i : Nat, s11 = .int .i64 (i : Int) ∧ i ≤ n ∧ J i wr) (fun s11 _ => n - (intOf s11).toNat)
  case atStart => exact ⟨0, rfl, Nat.zero_le _, h0⟩
  case round =>
    obtain ⟨i, rfl, hi, hj⟩ := hrel
    have HJ0 := Lib.hid hj
    clear hj
    have hi0 : (0 : Int) ≤ (i : Int) := by omega
    by_cases hlt : i < n
    · have hi1 : (i : Int) < (n : Int) := by omega
      have HTI := Lib.hid (show i < t.length by omega)
      have HMI := Lib.hid (show i < m.length by omega)
      have hit : i < (mkS t).size := by rw [mkS_size]; omega
      have him : i < (mkS m).size := by rw [mkS_size]; omega
      have hzi : i < (t.zip m).length := by rw [← HN.out]; exact hlt
      have hcl : cl (t.zip m)[i] = .agg #[.int .u8 (((mkS t)[i]'hit).toNat : Int), .int .u8 (((mkS m)[i]'him).toNat : Int)] := by
        simp only [cl, bv, List.getElem_zip]
        rw [mkS_get t i hit (by omega), mkS_get m i him (by omega)]
      have hy := HYY.out i hzi
      rw [hcl] at hy
      have HY := Lib.hid hy
      obtain ⟨C0, hC0⟩ : ∃ C0 : List Bool → World → Prop, C0 = fun bits w => (bits = [false] ∧ J i w) ∨ (bits = [true] ∧ J (i + 1) w) := ⟨_, rfl⟩
      have H0 := Lib.hid (show C0 [false] wr.drew by rw [hC0]; exact .inl ⟨rfl, HJD.out _ _ HJ0.out⟩)
      have H1 := Lib.hid (show ∀ w, J (i + 1) w → C0 [true] w from fun w h => by rw [hC0]; exact .inr ⟨rfl, h⟩)
      have HB := Lib.hid (show ∀ (bits : List Bool) (w : World), C0 bits w → w.cell? ⟨b, 0, none⟩ = some (.string (mkS t)) ∧ w.cell? ⟨b, 1, none⟩ = some (.string (mkS m)) from fun bits w h => by
        rw [hC0] at h
        rcases h with ⟨_, h⟩ | ⟨_, h⟩ <;> (have := HBX.out _ _ h; exact ⟨(cell_row this 0).1, (cell_row this 1).1⟩))
      have HJ := Lib.hid (show ∀ (bits : List Bool) (w : World), C0 bits w → bits[0]? = some false → bits = [false] ∧ J i w from fun bits w h hb => by
        rw [hC0] at h
        rcases h with ⟨e, h⟩ | ⟨e, _⟩
        · exact ⟨e, h⟩
        · rw [e] at hb; cases hb)
      have HE := Lib.hid (show ∀ w, C0 [true] w → J (i + 1) w from fun w h => by
        rw [hC0] at h
        rcases h with ⟨e, _⟩ | ⟨_, h⟩
        · cases e
        · exact h)
      clear hC0 hcl hy hzi
      gi_wp2
      refine wpIn_region_bits (Free.wide) (by kernel_rfl) [10] (C0) [some (.func (.yield l) #[] #[]), some (.pointer (some ⟨b, 0, none⟩)), some (.string (mkS t)), some (.int .i64 (i : Int)), some (.int .u8 (((mkS t)[i]'hit).toNat : Int)), some (.pointer (some ⟨b, 1, none⟩)), some (.string (mkS m)), some (.int .i64 (i : Int)), some (.int .u8 (((mkS m)[i]'him).toNat : Int)), some (.agg #[.int .u8 (((mkS t)[i]'hit).toNat : Int), .int .u8 (((mkS m)[i]'him).toNat : Int)]), some (.bool true), some (.bool false)] (by decide) (by decide) (by kernel_rfl) (H0.out) ?_ ?_
      · refine ⟨?_, ?_, ?_, ?_, ?_, ?_, ?_, ?_, ?_, ?_, ?_, ?_, trivial⟩
        · -- 0: slot 14 := Op.move t0
          refine OwesI.q (Free.wide) rfl (fun c h => by cases h) fun a w bits hC hd hu hs => ?_
          refine ⟨rfl, ?_⟩
          have e0 : a.tmps.getD 0 undef = .func (.yield l) #[] #[] := hs.free 0 rfl
          refine ValWp.pure (v := .func (.yield l) #[] #[]) (fun K' hK' => ?_) ⟨rfl, rfl⟩
          simp only [ValWp, execOp, Act.eval, e0]
          go_simp
          all_goals exact hK'
        · -- 1: slot 15 := Op.fieldAddr 23 t1 0
          refine OwesI.q (Free.wide) rfl (fun c h => by cases h) fun a w bits hC hd hu hs => ?_
          refine ⟨rfl, ?_⟩
          have e1 : a.tmps.getD 1 undef = .pointer (some ⟨b, 0, none⟩) := hs.free 1 rfl
          refine ValWp.pure (v := .pointer (some ⟨b, 0, none⟩)) (fun K' hK' => ?_) ⟨rfl, rfl⟩
          simp only [ValWp, execOp, Act.eval, e1]
          go_simp
          all_goals exact hK'
        · -- 2: slot 16 := Op.load 9 t15
          refine OwesI.q (Free.wide) rfl (fun c h => by cases h) fun a w bits hC hd hu hs => ?_
          refine ⟨rfl, ?_⟩
          have e15 : a.tmps.getD 15 undef = .pointer (some ⟨b, 0, none⟩) := hs.dep 1 _ rfl rfl
          obtain ⟨k0, k1⟩ := HB.out bits w hC
          refine ValWp.pure (v := .string (mkS t)) (fun K' hK' => ?_) ⟨rfl, rfl⟩
          simp only [ValWp, execOp, Act.eval, e15]
          go_simp
          all_goals exact hK'
        · -- 3: slot 17 := Op.move t3
          refine OwesI.q (Free.wide) rfl (fun c h => by cases h) fun a w bits hC hd hu hs => ?_
          refine ⟨rfl, ?_⟩
          have e3 : a.tmps.getD 3 undef = .int .i64 (i : Int) := hs.free 3 rfl
          refine ValWp.pure (v := .int .i64 (i : Int)) (fun K' hK' => ?_) ⟨rfl, rfl⟩
          simp only [ValWp, execOp, Act.eval, e3]
          go_simp
          all_goals exact hK'
        · -- 4: slot 18 := Op.index 9 t16 t17
          refine OwesI.q (Free.wide) rfl (fun c h => by cases h) fun a w bits hC hd hu hs => ?_
          refine ⟨rfl, ?_⟩
          have e16 : a.tmps.getD 16 undef = .string (mkS t) := hs.dep 2 _ rfl rfl
          have e17 : a.tmps.getD 17 undef = .int .i64 (i : Int) := hs.dep 3 _ rfl rfl
          refine ValWp.pure (v := .int .u8 (((mkS t)[i]'hit).toNat : Int)) (fun K' hK' => ?_) ⟨rfl, rfl⟩
          simp only [ValWp, execOp, Act.eval, e16, e17]
          go_simp
          rw [dif_pos HTI.out]
          exact hK'
        · -- 5: slot 19 := Op.fieldAddr 23 t1 1
          refine OwesI.q (Free.wide) rfl (fun c h => by cases h) fun a w bits hC hd hu hs => ?_
          refine ⟨rfl, ?_⟩
          have e1 : a.tmps.getD 1 undef = .pointer (some ⟨b, 0, none⟩) := hs.free 1 rfl
          refine ValWp.pure (v := .pointer (some ⟨b, 1, none⟩)) (fun K' hK' => ?_) ⟨rfl, rfl⟩
          simp only [ValWp, execOp, Act.eval, e1]
          go_simp
          all_goals exact hK'
        · -- 6: slot 20 := Op.load 9 t19
          refine OwesI.q (Free.wide) rfl (fun c h => by cases h) fun a w bits hC hd hu hs => ?_
          refine ⟨rfl, ?_⟩
          have e19 : a.tmps.getD 19 undef = .pointer (some ⟨b, 1, none⟩) := hs.dep 5 _ rfl rfl
          obtain ⟨k0, k1⟩ := HB.out bits w hC
          refine ValWp.pure (v := .string (mkS m)) (fun K' hK' => ?_) ⟨rfl, rfl⟩
          simp only [ValWp, execOp, Act.eval, e19]
          go_simp
          all_goals exact hK'
        · -- 7: slot 21 := Op.move t3
          refine OwesI.q (Free.wide) rfl (fun c h => by cases h) fun a w bits hC hd hu hs => ?_
          refine ⟨rfl, ?_⟩
          have e3 : a.tmps.getD 3 undef = .int .i64 (i : Int) := hs.free 3 rfl
          refine ValWp.pure (v := .int .i64 (i : Int)) (fun K' hK' => ?_) ⟨rfl, rfl⟩
          simp only [ValWp, execOp, Act.eval, e3]
          go_simp
          all_goals exact hK'
        · -- 8: slot 22 := Op.index 9 t20 t21
          refine OwesI.q (Free.wide) rfl (fun c h => by cases h) fun a w bits hC hd hu hs => ?_
          refine ⟨rfl, ?_⟩
          have e20 : a.tmps.getD 20 undef = .string (mkS m) := hs.dep 6 _ rfl rfl
          have e21 : a.tmps.getD 21 undef = .int .i64 (i : Int) := hs.dep 7 _ rfl rfl
          refine ValWp.pure (v := .int .u8 (((mkS m)[i]'him).toNat : Int)) (fun K' hK' => ?_) ⟨rfl, rfl⟩
          simp only [ValWp, execOp, Act.eval, e20, e21]
          go_simp
          rw [dif_pos HMI.out]
          exact hK'
        · -- 9: slot 23 := Op.build 51 #[(0, t18), (1, t22)]
          refine OwesI.q (Free.wide) rfl (fun c h => by cases h) fun a w bits hC hd hu hs => ?_
          refine ⟨rfl, ?_⟩
          have e18 : a.tmps.getD 18 undef = .int .u8 (((mkS t)[i]'hit).toNat : Int) := hs.dep 4 _ rfl rfl
          have e22 : a.tmps.getD 22 undef = .int .u8 (((mkS m)[i]'him).toNat : Int) := hs.dep 8 _ rfl rfl
          refine ValWp.pure (v := .agg #[.int .u8 (((mkS t)[i]'hit).toNat : Int), .int .u8 (((mkS m)[i]'him).toNat : Int)]) (fun K' hK' => ?_) ⟨rfl, rfl⟩
          simp only [ValWp, execOp, Act.eval, List.map_toArray, List.map_cons, List.map_nil, e18, e22]
          go_simp
          all_goals exact hK'
        · -- 10: slot 24 := Op.call { value t14, args := #[t23], argTypes := #[51] }
          refine fun a w bits hC hd hu hs => .inl ?_
          refine ⟨rfl, fun K hK => ?_⟩
          have e14 : a.tmps.getD 14 undef = .func (.yield l) #[] #[] := hs.dep 0 _ rfl rfl
          have e23 : a.tmps.getD 23 undef = .agg #[.int .u8 (((mkS t)[i]'hit).toNat : Int), .int .u8 (((mkS m)[i]'him).toNat : Int)] := hs.dep 9 _ rfl rfl
          obtain ⟨hbits, hj⟩ := HJ.out bits w hC (hu 0 10 rfl (.inl rfl))
          subst hbits
          refine wpIn_of_yield Free.wide (args := #[.agg #[.int .u8 (((mkS t)[i]'hit).toNat : Int), .int .u8 (((mkS m)[i]'him).toNat : Int)]]) rfl e14 (by simp only [List.map_toArray, List.map_cons, List.map_nil, Act.eval, e23]) ((HY.out w hj).mono ?_)
          rintro e w' ⟨rfl, hj'⟩
          exact ⟨_, rfl, hK _ _ rfl (H1.out w' hj')⟩
        · -- 11: slot 25 := Op.unOp UnOp.not 4 t24
          refine OwesI.q (Free.wide) rfl (fun c h => by cases h) fun a w bits hC hd hu hs => ?_
          refine ⟨rfl, ?_⟩
          have e24 : a.tmps.getD 24 undef = .bool true := hs.dep 10 _ rfl rfl
          refine ValWp.pure (v := .bool false) (fun K' hK' => ?_) ⟨rfl, rfl⟩
          simp only [ValWp, execOp, Act.eval, e24]
          go_simp
          all_goals exact hK'
      · intro a w hC hd hsz hfree hs
        obtain ⟨u12, hu12⟩ : ∃ u, u = a.tmps.getD 12 undef := ⟨_, rfl⟩
        obtain ⟨u13, hu13⟩ : ∃ u, u = a.tmps.getD 13 undef := ⟨_, rfl⟩
        obtain ⟨u14, hu14⟩ : ∃ u, u = a.tmps.getD 14 undef := ⟨_, rfl⟩
        obtain ⟨u15, hu15⟩ : ∃ u, u = a.tmps.getD 15 undef := ⟨_, rfl⟩
        obtain ⟨u16, hu16⟩ : ∃ u, u = a.tmps.getD 16 undef := ⟨_, rfl⟩
        obtain ⟨u17, hu17⟩ : ∃ u, u = a.tmps.getD 17 undef := ⟨_, rfl⟩
        obtain ⟨u18, hu18⟩ : ∃ u, u = a.tmps.getD 18 undef := ⟨_, rfl⟩
        obtain ⟨u19, hu19⟩ : ∃ u, u = a.tmps.getD 19 undef := ⟨_, rfl⟩
        obtain ⟨u20, hu20⟩ : ∃ u, u = a.tmps.getD 20 undef := ⟨_, rfl⟩
        obtain ⟨u21, hu21⟩ : ∃ u, u = a.tmps.getD 21 undef := ⟨_, rfl⟩
        obtain ⟨u22, hu22⟩ : ∃ u, u = a.tmps.getD 22 undef := ⟨_, rfl⟩
        obtain ⟨u23, hu23⟩ : ∃ u, u = a.tmps.getD 23 undef := ⟨_, rfl⟩
        obtain ⟨u24, hu24⟩ : ∃ u, u = a.tmps.getD 24 undef := ⟨_, rfl⟩
        obtain ⟨u26, hu26⟩ : ∃ u, u = a.tmps.getD 26 undef := ⟨_, rfl⟩
        have hal : AllAt a 0 [.func (.yield l) #[] #[], .pointer (some ⟨b, 0, none⟩), undef, .int .i64 (i : Int), .pointer (some ⟨b, 0, none⟩), .string (mkS t), .int .i64 (t.length : Int), .pointer (some ⟨b, 1, none⟩), .string (mkS m), .int .i64 (m.length : Int), .int .i64 (n : Int), .int .i64 (i : Int), u12, u13, u14, u15, u16, u17, u18, u19, u20, u21, u22, u23, u24, .bool false, u26] := ⟨hfree 0 rfl, hfree 1 rfl, hfree 2 rfl, hfree 3 rfl, hfree 4 rfl, hfree 5 rfl, hfree 6 rfl, hfree 7 rfl, hfree 8 rfl, hfree 9 rfl, hfree 10 rfl, hfree 11 rfl, hu12.symm, hu13.symm, hu14.symm, hu15.symm, hu16.symm, hu17.symm, hu18.symm, hu19.symm, hu20.symm, hu21.symm, hu22.symm, hu23.symm, hu24.symm, hs 11 _ rfl, hu26.symm, trivial⟩
        have hlit := fun h => act_litD hd h hal
        rw [hlit hsz]
        clear hlit hal hd hsz hfree hs hu12 hu13 hu14 hu15 hu16 hu17 hu18 hu19 hu20 hu21 hu22 hu23 hu24 hu26
        have HF := Lib.hid (HE.out w hC)
        clear hC
        gi_wp2
        go_roundw
        case rel => exact ⟨i + 1, by go_num, by omega, HF.out⟩
        case measure => simp [intOf]; omega
    · have hin : i = n := by omega
      subst hin
      gi_wp2
      go_end0
      exact ⟨⟨_, rfl⟩, by rw [← HN.out]; exact HJ0.out⟩
end Jo
end Go.Proofs.Ytghdimcdkjlpcaa
