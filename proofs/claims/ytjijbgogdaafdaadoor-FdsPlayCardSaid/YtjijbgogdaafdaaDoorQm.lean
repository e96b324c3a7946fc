/- THE DOCUMENT'S numbers as texts. No premises. -/
import Derived.Test.YtjijbgogdaafdaaDoorQj
import Derived.Test.YtjijbgogdaafdaaDoorSof2
import Derived.JoinedCond
namespace Go.Proofs.YtjijbgogdaafdaaDoor
open Go.RowKit Go.Maps
namespace Fd
set_option maxRecDepth 100000
theorem w64 (x : Int) (h : -9223372036854775808 ≤ x ∧ x < 9223372036854775808) : wrap64 x = x := by unfold wrap64; omega
theorem dec_small {n : Nat} (h : n < 10) : Lib.decDigits n = [UInt8.ofNat (48 + n)] := by rw [Lib.decDigits, dif_pos h]
theorem dec_big {n : Nat} (h : ¬ n < 10) : Lib.decDigits n = Lib.decDigits (n / 10) ++ [UInt8.ofNat (48 + n % 10)] := by rw [Lib.decDigits, dif_neg h]
theorem byte_of (n : Nat) (h : n < 10) : ((UInt8.ofNat (48 + n)).toNat : Int) = 48 + (n : Int) := by
  have : (UInt8.ofNat (48 + n)).toNat = (48 + n) % 256 := rfl
  rw [this]
  omega
abbrev NumOk (x : Int) (t : B) : Prop := ∀ W, Calls Tryd.prog 16 #[.int .i64 x] W fun e W' => e = .returned (.string (mkS t)) ∧ Later W W'
set_option maxHeartbeats 3200000 in
set_option maxRecDepth 100000 in
theorem digits_big (a : Nat) (x : Int) (h : x = (a : Int)) (h10 : 10 ≤ a) (ha : a < 9223372036854775808) (tq : B) (htq : tq.length ≤ 100) (hn : NumOk ((a / 10 : Nat) : Int) tq) : NumOk x (tq ++ [UInt8.ofNat (48 + a % 10)]) := by
  intro W
  obtain ⟨q, hq⟩ : ∃ q : Int, q = ((a / 10 : Nat) : Int) := ⟨_, rfl⟩
  obtain ⟨r, hr⟩ : ∃ r : Int, r = ((a % 10 : Nat) : Int) := ⟨_, rfl⟩
  obtain ⟨d, hd⟩ : ∃ d : Int, d = 48 + ((a % 10 : Nat) : Int) := ⟨_, rfl⟩
  obtain ⟨c, hc⟩ : ∃ c, c = UInt8.ofNat (48 + a % 10) := ⟨_, rfl⟩
  rw [← hc]
  rw [← hq] at hn
  have HCS := Lib.hid (show ¬ 9223372036854775807 < (mkS tq).size + (mkS [c]).size by rw [mkS_size, mkS_size]; simp; omega)
  clear htq
  have HN := Lib.hid hn
  have hxt : x.tdiv 10 = q := by rw [h, hq]; rfl
  have hxm : x.tmod 10 = r := by rw [h, hr]; rfl
  have HQ := Lib.hid (show IntKind.i64.wrap (x.tdiv 10) = q by rw [hxt, IntWalk.i64_left]; exact w64 _ (by omega))
  have HR := Lib.hid hxm
  have HD := Lib.hid (show IntKind.i64.wrap (48 + r) = d by rw [IntWalk.i64_left, w64 _ (by omega)]; omega)
  have HC := Lib.hid (show d % 256 = (c.toNat : Int) by rw [hc, byte_of _ (by omega), hd]; omega)
  have hx10 : 10 ≤ x := by omega
  have hx00 : ¬ x < 0 := by omega
  have hx0 : x < 9223372036854775808 := by omega
  have hr0 : 0 ≤ r := by omega
  have hr1 : r ≤ 9 := by omega
  have hd0 : 48 ≤ d := by omega
  have hd1 : d ≤ 57 := by omega
  clear h hq hr hd hc hn hxt hxm ha h10
  go_enter Tryd.func16, Tryd.ntmps16
  go_wp2_with (fail)
  refine wp_region_owes (by kernel_rfl) (fun w => Later W w) (Later) (Later.refl) [Sp.val (.int .i64 x), Sp.val (.int .i64 q), Sp.val (.string (mkS tq)), Sp.val (.int .i64 x), Sp.val (.int .i64 r), Sp.val (.int .i64 d), Sp.val (.int .u8 (c.toNat : Int)), spBytes 1 [c], Sp.val (.string (mkS [c])), Sp.val (.string (mkS (tq ++ [c]))), Sp.val (.string (mkS (tq ++ [c])))] (by kernel_rfl) (Later.drew W) ?_ ?_
  · refine ⟨?_, ?_, ?_, ?_, ?_, ?_, ?_, ?_, ?_, ?_, ?_, trivial⟩
    · -- 0: slot 13 := Op.move t0
      refine fun a w hC hs => .inl ⟨?_, ?_⟩
      · rfl
      have e0 : a.tmps.getD 0 undef = .int .i64 x := hs.free 0 rfl
      exact ⟨e0, hC, Later.refl _⟩
    · -- 1: slot 14 := Op.binOp BinOp.quo 3 t5 (const (10:i64)) 3
      refine fun a w hC hs => .inl ⟨?_, ?_⟩
      · rfl
      have e13 : a.tmps.getD 13 undef = .int .i64 x := hs.dep 0 _ rfl rfl
      refine ValWp.pure (v := .int .i64 q) (fun K' hK' => ?_) ⟨rfl, hC, Later.refl _⟩
      rw [← HQ.out] at hK'
      simp only [ValWp, execOp, Act.eval, e13]
      go_simp
      all_goals exact hK'
    · -- 2: slot 15 := Op.call { value (Operand.func 11), args := #[t6], argTypes := #[3] }
      refine fun a w hC hs => .inl ⟨?_, ?_⟩
      · rfl
      have e14 : a.tmps.getD 14 undef = .int .i64 q := hs.dep 1 _ rfl rfl
      refine ValWp.call #[.int .i64 q] rfl rfl Tryd.func16 rfl rfl (by simp only [List.map_toArray, List.map_cons, List.map_nil, Act.eval, e14]) ?_
      refine (HN.out w).mono ?_
      rintro e w' ⟨rfl, hl⟩
      exact ⟨_, rfl, rfl, hC.trans hl, hl⟩
    · -- 3: slot 16 := Op.move t0
      refine fun a w hC hs => .inl ⟨?_, ?_⟩
      · rfl
      have e0 : a.tmps.getD 0 undef = .int .i64 x := hs.free 0 rfl
      exact ⟨e0, hC, Later.refl _⟩
    · -- 4: slot 17 := Op.binOp BinOp.rem 3 t8 (const (10:i64)) 3
      refine fun a w hC hs => .inl ⟨?_, ?_⟩
      · rfl
      have e16 : a.tmps.getD 16 undef = .int .i64 x := hs.dep 3 _ rfl rfl
      refine ValWp.pure (v := .int .i64 r) (fun K' hK' => ?_) ⟨rfl, hC, Later.refl _⟩
      rw [← HR.out] at hK'
      simp only [ValWp, execOp, Act.eval, e16]
      go_simp
      all_goals exact hK'
    · -- 5: slot 18 := Op.binOp BinOp.add 3 (const (48:i64)) t9 3
      refine fun a w hC hs => .inl ⟨?_, ?_⟩
      · rfl
      have e17 : a.tmps.getD 17 undef = .int .i64 r := hs.dep 4 _ rfl rfl
      refine ValWp.pure (v := .int .i64 d) (fun K' hK' => ?_) ⟨rfl, hC, Later.refl _⟩
      rw [← HD.out] at hK'
      simp only [ValWp, execOp, Act.eval, e17]
      go_simp
      all_goals exact hK'
    · -- 6: slot 19 := Op.convert 3 5 t10
      refine fun a w hC hs => .inl ⟨?_, ?_⟩
      · rfl
      have e18 : a.tmps.getD 18 undef = .int .i64 d := hs.dep 5 _ rfl rfl
      refine ValWp.pure (v := .int .u8 (c.toNat : Int)) (fun K' hK' => ?_) ⟨rfl, hC, Later.refl _⟩
      rw [← HC.out] at hK'
      simp only [ValWp, execOp, Act.eval, e18]
      go_simp
      all_goals exact hK'
    · -- 7: slot 20 := Op.buildSlice 39 1 #[(0, t11)]
      refine fun a w hC hs => .inl ⟨?_, ?_⟩
      · rfl
      have e19 : a.tmps.getD 19 undef = .int .u8 (c.toNat : Int) := hs.dep 6 _ rfl rfl
      refine ValWp.pure (v := .slice (some ⟨w.heap.size, 0, none⟩) 1 1) (w' := w.alloc (.cells #[.int .u8 (c.toNat : Int)] 5)) (fun K' hK' => ?_) ⟨⟨_, _, rfl, by rw [World.size_alloc]; exact Rd.lit w 5 [bv c]⟩, Later.trans hC (Later.alloc _ _), Later.alloc _ _⟩
      simp only [ValWp, execOp, Act.eval, List.map_toArray, List.map_cons, List.map_nil, e19]
      go_simp
      all_goals exact hK'
    · -- 8: slot 21 := Op.convert 39 9 t12
      refine fun a w hC hs => .inl ⟨?_, ?_⟩
      · rfl
      obtain ⟨A20, c20, e20, h20⟩ := hs.dep 7 _ rfl rfl
      change a.tmps.getD 20 undef = _ at e20
      have hcv := run_str_of (P := Tryd.prog) h20 57 9 5 Tryd.underlying57 Tryd.underlying5 Tryd.underlying9 c20
      refine ValWp.pure (v := .string (mkS [c])) (fun K' hK' => ?_) ⟨rfl, hC, Later.refl _⟩
      simp only [ValWp, execOp, Act.eval, e20]
      go_simp
      all_goals exact hK'
    · -- 9: slot 22 := Op.binOp BinOp.add 9 t7 t13 9
      refine fun a w hC hs => .inl ⟨?_, ?_⟩
      · rfl
      have e15 : a.tmps.getD 15 undef = .string (mkS tq) := hs.dep 2 _ rfl rfl
      have e21 : a.tmps.getD 21 undef = .string (mkS [c]) := hs.dep 8 _ rfl rfl
      refine ValWp.pure (v := .string (mkS (tq ++ [c]))) (fun K' hK' => ?_) ⟨rfl, hC, Later.refl _⟩
      rw [← mkS_add] at hK'
      have hcs := HCS.out
      simp only [ValWp, execOp, Act.eval, e15, e21]
      go_simp
      all_goals exact hK'
    · -- 10: slot 2 := Op.assign t14
      refine fun a w hC hs => .inl ⟨?_, ?_⟩
      · rfl
      have e22 : a.tmps.getD 22 undef = .string (mkS (tq ++ [c])) := hs.dep 9 _ rfl rfl
      exact ⟨e22, hC, Later.refl _⟩
  · intro a W hC hd hsz hfree hs
    obtain ⟨u0, hu0⟩ : ∃ u, u = a.tmps.getD 0 undef := ⟨_, rfl⟩
    obtain ⟨u1, hu1⟩ : ∃ u, u = a.tmps.getD 1 undef := ⟨_, rfl⟩
    obtain ⟨u3, hu3⟩ : ∃ u, u = a.tmps.getD 3 undef := ⟨_, rfl⟩
    obtain ⟨u4, hu4⟩ : ∃ u, u = a.tmps.getD 4 undef := ⟨_, rfl⟩
    obtain ⟨u5, hu5⟩ : ∃ u, u = a.tmps.getD 5 undef := ⟨_, rfl⟩
    obtain ⟨u6, hu6⟩ : ∃ u, u = a.tmps.getD 6 undef := ⟨_, rfl⟩
    obtain ⟨u7, hu7⟩ : ∃ u, u = a.tmps.getD 7 undef := ⟨_, rfl⟩
    obtain ⟨u8, hu8⟩ : ∃ u, u = a.tmps.getD 8 undef := ⟨_, rfl⟩
    obtain ⟨u9, hu9⟩ : ∃ u, u = a.tmps.getD 9 undef := ⟨_, rfl⟩
    obtain ⟨u10, hu10⟩ : ∃ u, u = a.tmps.getD 10 undef := ⟨_, rfl⟩
    obtain ⟨u11, hu11⟩ : ∃ u, u = a.tmps.getD 11 undef := ⟨_, rfl⟩
    obtain ⟨u12, hu12⟩ : ∃ u, u = a.tmps.getD 12 undef := ⟨_, rfl⟩
    obtain ⟨u13, hu13⟩ : ∃ u, u = a.tmps.getD 13 undef := ⟨_, rfl⟩
    obtain ⟨u14, hu14⟩ : ∃ u, u = a.tmps.getD 14 undef := ⟨_, rfl⟩
    obtain ⟨u15, hu15⟩ : ∃ u, u = a.tmps.getD 15 undef := ⟨_, rfl⟩
    obtain ⟨u16, hu16⟩ : ∃ u, u = a.tmps.getD 16 undef := ⟨_, rfl⟩
    obtain ⟨u17, hu17⟩ : ∃ u, u = a.tmps.getD 17 undef := ⟨_, rfl⟩
    obtain ⟨u18, hu18⟩ : ∃ u, u = a.tmps.getD 18 undef := ⟨_, rfl⟩
    obtain ⟨u19, hu19⟩ : ∃ u, u = a.tmps.getD 19 undef := ⟨_, rfl⟩
    obtain ⟨u20, hu20⟩ : ∃ u, u = a.tmps.getD 20 undef := ⟨_, rfl⟩
    obtain ⟨u21, hu21⟩ : ∃ u, u = a.tmps.getD 21 undef := ⟨_, rfl⟩
    obtain ⟨u22, hu22⟩ : ∃ u, u = a.tmps.getD 22 undef := ⟨_, rfl⟩
    obtain ⟨u23, hu23⟩ : ∃ u, u = a.tmps.getD 23 undef := ⟨_, rfl⟩
    obtain ⟨u24, hu24⟩ : ∃ u, u = a.tmps.getD 24 undef := ⟨_, rfl⟩
    obtain ⟨u25, hu25⟩ : ∃ u, u = a.tmps.getD 25 undef := ⟨_, rfl⟩
    obtain ⟨u26, hu26⟩ : ∃ u, u = a.tmps.getD 26 undef := ⟨_, rfl⟩
    obtain ⟨u27, hu27⟩ : ∃ u, u = a.tmps.getD 27 undef := ⟨_, rfl⟩
    have hal : AllAt a 0 [u0, u1, .string (mkS (tq ++ [c])), u3, u4, u5, u6, u7, u8, u9, u10, u11, u12, u13, u14, u15, u16, u17, u18, u19, u20, u21, u22, u23, u24, u25, u26, u27] := ⟨hu0.symm, hu1.symm, hs 10 _ rfl, hu3.symm, hu4.symm, hu5.symm, hu6.symm, hu7.symm, hu8.symm, hu9.symm, hu10.symm, hu11.symm, hu12.symm, hu13.symm, hu14.symm, hu15.symm, hu16.symm, hu17.symm, hu18.symm, hu19.symm, hu20.symm, hu21.symm, hu22.symm, hu23.symm, hu24.symm, hu25.symm, hu26.symm, hu27.symm, trivial⟩
    have hlit := fun h => act_lit hd h hal
    rw [hlit hsz]
    clear hlit hal hd hsz hfree hs hu0 hu1 hu3 hu4 hu5 hu6 hu7 hu8 hu9 hu10 hu11 hu12 hu13 hu14 hu15 hu16 hu17 hu18 hu19 hu20 hu21 hu22 hu23 hu24 hu25 hu26 hu27
    go_wp2
    go_ret
    exact ⟨rfl, hC⟩
set_option maxRecDepth 100000 in
theorem digits_one (a : Nat) (h10 : a < 10) : NumOk (a : Int) [UInt8.ofNat (48 + a)] := by
  intro W
  obtain ⟨c, hc⟩ : ∃ c, c = UInt8.ofNat (48 + a) := ⟨_, rfl⟩
  have hcn := byte_of a h10
  rw [← hc] at hcn ⊢
  obtain ⟨x, hx⟩ : ∃ x : Int, x = (a : Int) := ⟨_, rfl⟩
  rw [← hx] at hcn ⊢
  have g3 : ¬ 10 ≤ x := by omega
  have g6 : ¬ x < 0 := by omega
  have g4 : x ≤ 9 := by omega
  have g5 : 0 ≤ x := by omega
  obtain ⟨d, hd⟩ : ∃ d : Int, d = (c.toNat : Int) := ⟨_, rfl⟩
  have hdx : d = 48 + x := by omega
  have HST := Lib.hid (show ∀ w : World, (convert 57 9 (.slice (some ⟨w.heap.size, 0, none⟩) 1 1)).run Tryd.prog (w.alloc (.cells #[.int .u8 (48 + x)] 5)) = .ok (.string (mkS [c])) (w.alloc (.cells #[.int .u8 (48 + x)] 5)) from fun w => by
    rw [← hdx, hd]
    exact run_str_of (P := Tryd.prog) (Rd.lit w 5 [bv c]) 57 9 5 Tryd.underlying57 Tryd.underlying5 Tryd.underlying9 1)
  clear hx hc hcn hd hdx h10
  have hst := HST.out
  go_enter Tryd.func16, Tryd.ntmps16
  go_wp2
  go_ret
  exact ⟨rfl, Later.alloc _ _⟩
/-- The document's digits of a number. -/
theorem digits_v (a : Nat) (ha : a < 9223372036854775808) : NumOk (a : Int) (Lib.decDigits a) := by
  induction a using Nat.strongRecOn with
  | ind a ih =>
    by_cases h10 : a < 10
    · rw [dec_small h10]
      exact digits_one a h10
    · rw [dec_big h10]
      exact digits_big a _ rfl (by omega) ha _ (Nat.le_trans (dec_len 18 (a / 10) (by omega)) (by omega)) (ih (a / 10) (by omega) (by omega))
theorem min_digits : Lib.decDigits 9223372036854775808 = [57, 50, 50, 51, 51, 55, 50, 48, 51, 54, 56, 53, 52, 55, 55, 53, 56, 48, 56] := by
  repeat (first | rw [dec_small (by omega)] | rw [dec_big (by omega)])
  rfl
/-- A number's text. -/
theorem number_v (x : Int) (h : In x) : NumOk x (Lib.itoa x) := by
  unfold In at h
  by_cases h0 : x < 0
  · by_cases hm : x = -9223372036854775808
    · subst hm
      have e : Lib.itoa (-9223372036854775808) = [45, 57, 50, 50, 51, 51, 55, 50, 48, 51, 54, 56, 53, 52, 55, 55, 53, 56, 48, 56] := by
        unfold Lib.itoa
        rw [if_pos (by omega), show (-9223372036854775808 : Int).natAbs = 9223372036854775808 from rfl, min_digits]
      rw [e]
      intro W
      go_enter Tryd.func16, Tryd.ntmps16
      go_wp2
      go_ret
      exact ⟨rfl, Later.refl _⟩
    · obtain ⟨a, ha⟩ : ∃ a : Nat, a = x.natAbs := ⟨_, rfl⟩
      have hn : -x = (a : Int) := by omega
      have e : Lib.itoa x = 45 :: Lib.decDigits a := by unfold Lib.itoa; rw [if_pos h0, ← ha]
      have hd := digits_v a (by omega)
      have hl := dec_len 18 a (by omega)
      obtain ⟨t, ht⟩ : ∃ t, t = Lib.decDigits a := ⟨_, rfl⟩
      rw [e, ← ht]
      rw [← ht] at hd hl
      intro W
      have HD := Lib.hid (hd W)
      have hm2 : (x == -9223372036854775808) = false := by simpa using hm
      have hw : IntKind.i64.wrap (-x) = (a : Int) := by rw [IntKind.wrap_i64]; omega
      have HC := Lib.hid (show (⟨#[45]⟩ : ByteArray) ++ mkS t = mkS (45 :: t) from mkS_add [45] t)
      have hc := HC.out
      have hz : ¬ 9223372036854775807 < 1 + (mkS t).size := by rw [mkS_size]; omega
      clear hd hl ht e ha hn hm h
      go_enter Tryd.func16, Tryd.ntmps16
      go_wp2_with (go_at_call 16; (with_reducible refine HD.out.mono ?_); rintro e9 w1 ⟨rfl, hl1⟩; (have HL1 := Lib.hid hl1); clear hl1)
      go_ret
      exact ⟨rfl, HL1.out⟩
  · obtain ⟨a, rfl⟩ : ∃ a : Nat, x = (a : Int) := ⟨x.toNat, by omega⟩
    have e : Lib.itoa (a : Int) = Lib.decDigits a := by unfold Lib.itoa; rw [if_neg h0]; rfl
    rw [e]
    exact digits_v a (by omega)
end Fd
end Go.Proofs.YtjijbgogdaafdaaDoor
