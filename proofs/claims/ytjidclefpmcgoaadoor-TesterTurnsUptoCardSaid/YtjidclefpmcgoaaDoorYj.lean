/- What is called out of the table; stands. The listed variables: their condition. -/
import Derived.Test.YtjidclefpmcgoaaDoorYi
import Derived.BigQuiet
namespace Go.Proofs.YtjidclefpmcgoaaDoor
open Go.RowKit Go.Maps
namespace Ar
/-- A function's number is that of a body. -/
def Enters (F : Nat) : Prop := ∀ (args : Array Value) (w : World), (callFunc F args).run Tryd.prog w = .ok (.enter F args) w
/-- How two texts compare as numbers. -/
def cmpT (g : Int → Int → Bool) (a c : L) : Int := match tnum a, tnum c with
  | some x, some y => t01 (g x y)
  | _, _ => 2
set_option maxHeartbeats 1600000 in
set_option maxRecDepth 100000 in
theorem nums_v (F : Nat) (g : Int → Int → Bool) (hok : HoldsOk F g) (hen : Enters F) (a c : L) (ha : a.length ≤ 2000000) (hc : c.length ≤ 2000000) (b : Nat) (W : World) (hvd : Vd W) (hb : W.heap[b]? = some (.cells #[fn0 F] 51 (0, 0))) : Calls Tryd.prog 29 #[.string (mkS a), .string (mkS c), .pointer (some ⟨b, 0, none⟩)] W fun e W' => e = .returned (.int .i64 (cmpT g a c)) ∧ Later W W' := by
  have HOK := Lib.hid hok
  have HEN := Lib.hid hen
  have HB := Lib.hid hb
  have HVD := Lib.hid hvd
  have HA := Lib.hid (fun W => tnum_v a ha W)
  have HC := Lib.hid (fun W => tnum_v c hc W)
  obtain ⟨r, hr⟩ : ∃ r, cmpT g a c = r := ⟨_, rfl⟩
  have HR := Lib.hid hr
  unfold cmpT at hr
  rw [HR.out]
  obtain ⟨ra, hra⟩ : ∃ ra, ra = tnum a := ⟨_, rfl⟩
  obtain ⟨rc, hrc⟩ : ∃ rc, rc = tnum c := ⟨_, rfl⟩
  rw [← hra] at hr HA
  rw [← hrc] at hr HC
  clear hok hen hb hvd hra hrc HR ha hc
  obtain ⟨z1, hz1⟩ : ∃ z1 : Int, z1 = ra.getD 0 := ⟨_, rfl⟩
  obtain ⟨z2, hz2⟩ : ∃ z2 : Int, z2 = rc.getD 0 := ⟨_, rfl⟩
  unfold numI at HA HC
  rw [← hz1] at HA
  rw [← hz2] at HC
  have HZ := Lib.hid (And.intro hz1 hz2)
  clear hz1 hz2
  cases ra with
  | none =>
    simp only at hr
    subst hr
    go_enter Tryd.func29, Tryd.ntmps29
    go_wp2_with fail
    go_at_call 30
    with_reducible refine (HA.out _ HVD.out).mono ?_
    rintro e w1 ⟨rfl, hl1⟩
    have HL1 := Lib.hid hl1
    clear hl1
    go_wp2_with (go_at_call 30; (with_reducible refine (HC.out _ (HVD.out.later HL1.out)).mono ?_); rintro e w2 ⟨rfl, hl2⟩)
    go_ret
    exact ⟨rfl, HL1.out.trans hl2⟩
  | some x =>
    cases rc with
    | none =>
      simp only at hr
      subst hr
      go_enter Tryd.func29, Tryd.ntmps29
      go_wp2_with fail
      go_at_call 30
      with_reducible refine (HA.out _ HVD.out).mono ?_
      rintro e w1 ⟨rfl, hl1⟩
      have HL1 := Lib.hid hl1
      clear hl1
      go_wp2_with (go_at_call 30; (with_reducible refine (HC.out _ (HVD.out.later HL1.out)).mono ?_); rintro e w2 ⟨rfl, hl2⟩)
      go_ret
      exact ⟨rfl, HL1.out.trans hl2⟩
    | some y =>
      simp only at hr
      obtain ⟨e1, e2⟩ := HZ.out
      simp only [Option.getD_some] at e1 e2
      subst e1 e2
      rw [← hr]
      clear hr
      go_enter Tryd.func29, Tryd.ntmps29
      go_wp2_with fail
      go_at_call 30
      with_reducible refine (HA.out _ HVD.out).mono ?_
      rintro e w1 ⟨rfl, hl1⟩
      have HL1 := Lib.hid hl1
      clear hl1
      go_wp2_with fail
      go_at_call 30
      with_reducible refine (HC.out _ (HVD.out.later HL1.out)).mono ?_
      rintro e W2 ⟨rfl, hl2⟩
      have HL2 := Lib.hid (HL1.out.trans hl2)
      have HCL := Lib.hid (fun w (h : Later W2 w) => (cell_row (later_cells (HL2.out.trans h) HB.out) 0).1)
      clear hl2
      go_wp2_with fail
      refine wp_region_owes (by kernel_rfl) (fun w => Later W2 w) (Later) (Later.refl) [Sp.val (fn0 F), Sp.val (.int .i64 z1), Sp.val (.int .i64 z2), Sp.val (.int .i64 (ord3 z1 z2)), Sp.val (.bool (g z1 z2)), Sp.val (.int .i64 (t01 (g z1 z2))), Sp.val (.int .i64 (t01 (g z1 z2)))] (by kernel_rfl) (Later.drew W2) ?_ ?_
      · refine ⟨?_, ?_, ?_, ?_, ?_, ?_, ?_, trivial⟩
        · -- 0: slot 26 := Op.load 51 t2
          refine fun a w hC hs => .inl ⟨?_, ?_⟩
          · rfl
          have e2 : a.tmps.getD 2 undef = .pointer (some ⟨b, 0, none⟩) := hs.free 2 rfl
          have hc := HCL.out w hC
          refine ValWp.pure (v := fn0 F) (fun K' hK' => ?_) ⟨rfl, hC, Later.refl _⟩
          simp only [ValWp, execOp, Act.eval, e2]
          go_simp
          all_goals exact hK'
        · -- 1: slot 27 := Op.move t6
          refine fun a w hC hs => .inl ⟨?_, ?_⟩
          · rfl
          have e6 : a.tmps.getD 6 undef = .int .i64 z1 := hs.free 6 rfl
          exact ⟨e6, hC, Later.refl _⟩
        · -- 2: slot 28 := Op.move t8
          refine fun a w hC hs => .inl ⟨?_, ?_⟩
          · rfl
          have e8 : a.tmps.getD 8 undef = .int .i64 z2 := hs.free 8 rfl
          exact ⟨e8, hC, Later.refl _⟩
        · -- 3: slot 29 := Op.call { value (Operand.func 31), args := #[t27, t28], argTypes := #[2, 2] }
          refine fun a w hC hs => .inl ⟨?_, ?_⟩
          · rfl
          have e27 : a.tmps.getD 27 undef = .int .i64 z1 := hs.dep 1 _ rfl rfl
          have e28 : a.tmps.getD 28 undef = .int .i64 z2 := hs.dep 2 _ rfl rfl
          refine ValWp.call #[.int .i64 z1, .int .i64 z2] rfl rfl Tryd.func31 rfl rfl (by simp only [List.map_toArray, List.map_cons, List.map_nil, Act.eval, e27, e28]) ?_
          refine (compare_v z1 z2 w).mono ?_
          rintro r w' ⟨rfl, rfl⟩
          exact ⟨_, rfl, rfl, hC, Later.refl _⟩
        · -- 4: slot 30 := Op.call { value t26, args := #[t29], argTypes := #[3] }
          refine fun a w hC hs => .inl ⟨?_, ?_⟩
          · rfl
          have e26 : a.tmps.getD 26 undef = fn0 F := hs.dep 0 _ rfl rfl
          have e29 : a.tmps.getD 29 undef = .int .i64 (ord3 z1 z2) := hs.dep 3 _ rfl rfl
          refine ValWp.callV (cap := #[]) (.tmp 26) #[.int .i64 (ord3 z1 z2)] rfl (by simp only [Act.eval, e26]; rfl) HEN.out (by simp only [List.map_toArray, List.map_cons, List.map_nil, Act.eval, e29]) ?_
          refine (HOK.out z1 z2 w).mono ?_
          rintro r w' ⟨rfl, rfl⟩
          exact ⟨_, rfl, rfl, hC, Later.refl _⟩
        · -- 5: slot 31 := Op.call { value (Operand.func 11), args := #[t30], argTypes := #[4] }
          refine fun a w hC hs => .inl ⟨?_, ?_⟩
          · rfl
          have e30 : a.tmps.getD 30 undef = .bool (g z1 z2) := hs.dep 4 _ rfl rfl
          refine ValWp.call #[.bool (g z1 z2)] rfl rfl Tryd.func11 rfl rfl (by simp only [List.map_toArray, List.map_cons, List.map_nil, Act.eval, e30]) ?_
          refine (told_v _ w).mono ?_
          rintro r w' ⟨rfl, rfl⟩
          exact ⟨_, rfl, rfl, hC, Later.refl _⟩
        · -- 6: slot 5 := Op.assign t31
          refine fun a w hC hs => .inl ⟨?_, ?_⟩
          · rfl
          have e31 : a.tmps.getD 31 undef = .int .i64 (t01 (g z1 z2)) := hs.dep 5 _ rfl rfl
          exact ⟨e31, hC, Later.refl _⟩
      · intro a W hC hd hsz hfree hs
        obtain ⟨u26, hu26⟩ : ∃ u, u = a.tmps.getD 26 undef := ⟨_, rfl⟩
        obtain ⟨u27, hu27⟩ : ∃ u, u = a.tmps.getD 27 undef := ⟨_, rfl⟩
        obtain ⟨u28, hu28⟩ : ∃ u, u = a.tmps.getD 28 undef := ⟨_, rfl⟩
        obtain ⟨u29, hu29⟩ : ∃ u, u = a.tmps.getD 29 undef := ⟨_, rfl⟩
        obtain ⟨u30, hu30⟩ : ∃ u, u = a.tmps.getD 30 undef := ⟨_, rfl⟩
        obtain ⟨u31, hu31⟩ : ∃ u, u = a.tmps.getD 31 undef := ⟨_, rfl⟩
        have hal : AllAt a 0 [_, _, _, _, _, .int .i64 (t01 (g z1 z2)), _, _, _, _, _, _, _, _, _, _, _, _, _, _, _, _, _, _, _, _, u26, u27, u28, u29, u30, u31] := ⟨hfree 0 rfl, hfree 1 rfl, hfree 2 rfl, hfree 3 rfl, hfree 4 rfl, hs 6 _ rfl, hfree 6 rfl, hfree 7 rfl, hfree 8 rfl, hfree 9 rfl, hfree 10 rfl, hfree 11 rfl, hfree 12 rfl, hfree 13 rfl, hfree 14 rfl, hfree 15 rfl, hfree 16 rfl, hfree 17 rfl, hfree 18 rfl, hfree 19 rfl, hfree 20 rfl, hfree 21 rfl, hfree 22 rfl, hfree 23 rfl, hfree 24 rfl, hfree 25 rfl, hu26.symm, hu27.symm, hu28.symm, hu29.symm, hu30.symm, hu31.symm, trivial⟩
        have hlit := fun h => act_lit hd h hal
        rw [hlit hsz]
        simp only [Array.getD_eq_getD_getElem?, List.getElem?_toArray, List.getElem?_cons_zero, List.getElem?_cons_succ, Option.getD_some]
        clear hlit hal hd hsz hfree hs hu26 hu27 hu28 hu29 hu30 hu31
        go_wp2
        go_ret
        exact ⟨rfl, HL2.out.trans hC⟩
end Ar
end Go.Proofs.YtjidclefpmcgoaaDoor
