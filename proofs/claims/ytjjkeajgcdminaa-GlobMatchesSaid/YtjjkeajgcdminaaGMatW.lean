/- GlobMatches: the walk of its text. No premises. -/
import Derived.Test.YtjjkeajgcdminaaGza
import Derived.Test.YtjjkeajgcdminaaGPlaiW
namespace Go.Proofs.Ytjjkeajgcdminaa
open Go.RowKit Go.Maps
namespace globMatches
open Gs
set_option maxRecDepth 100000 in
set_option maxHeartbeats 3200000 in
theorem walkL (t m s : L) (ht : t.length ≤ maxLen) (w0 : World) : Calls Try.prog 3 #[.agg #[.string (mkS t), .string (mkS m)], .string (mkS s)] w0 fun e w' => e = .returned (.bool true) ∧ Below w0.heap.size w0 w' := by
  have HA := Lib.hid (fun W => awake_v W)
  have HFE := Lib.hid (fun W => few_v t m W (by unfold maxLen at ht; omega))
  have hsi : ((mkS s).size : Int) = (s.length : Int) := by rw [mkS_size]
  have HL := Lib.hid (Later.alloc w0 (.cells #[.string (mkS t), .string (mkS m)] 23))
  have HB := Lib.hid (Box.new w0 t m)
  clear ht
  cases hfw : Gl.few t with
  | false =>
    rw [hfw] at HFE
    clear hfw
    go_enter Try.func3, Try.ntmps3
    go_wp2_with (first
      | (go_at_call 8; (with_reducible refine (HA.out _).mono ?_); rintro e w1 ⟨rfl, hl1⟩; (have HL1 := Lib.hid (HL.out.trans hl1)); (have HB1 := Lib.hid (HB.out.later hl1)); obtain ⟨c0, c1⟩ := HB1.out.cells; clear hl1)
      | (go_at_call 9; (with_reducible refine (HFE.out _).mono ?_); rintro e w2 ⟨rfl, hl2⟩; (have HL2 := Lib.hid (HL1.out.trans hl2)); clear hl2 c0 c1))
    go_ret
    exact ⟨rfl, HL2.out⟩
  | true =>
    rw [hfw] at HFE
    by_cases h20 : (20 : Int) < (s.length : Int)
    · go_enter Try.func3, Try.ntmps3
      go_wp2_with (first
        | (go_at_call 8; (with_reducible refine (HA.out _).mono ?_); rintro e w1 ⟨rfl, hl1⟩; (have HL1 := Lib.hid (HL.out.trans hl1)); (have HB1 := Lib.hid (HB.out.later hl1)); obtain ⟨c0, c1⟩ := HB1.out.cells; clear hl1)
        | (go_at_call 9; (with_reducible refine (HFE.out _).mono ?_); rintro e w2 ⟨rfl, hl2⟩; (have HL2 := Lib.hid (HL1.out.trans hl2)); clear hl2 c0 c1))
      go_ret
      exact ⟨rfl, HL2.out⟩
    · have ht20 := Gl.few_len hfw
      have HM1 := Lib.hid (fun W => Gs.Match_v t m s W (by omega) (by omega))
      have HM2 := Lib.hid (fun W => Gr.Match_v t m s W (by omega) (by omega))
      have HP1 := Lib.hid (fun W => Gs.Plain_v t m W (by omega))
      have HP2 := Lib.hid (fun W => Gr.Plain_v t m W (by omega))
      obtain ⟨B, hB⟩ : ∃ B, B = Gl.tb (Gl.sgF t m 0) s := ⟨_, rfl⟩
      obtain ⟨P, hP⟩ : ∃ P, P = (Gl.sgF t m 0).all Gl.isLit := ⟨_, rfl⟩
      rw [← hB] at HM1 HM2
      rw [← hP] at HP1 HP2
      clear hB hP hfw ht20
      go_enter Try.func3, Try.ntmps3
      go_wp2_with (first
        | (go_at_call 8; (with_reducible refine (HA.out _).mono ?_); rintro e w1 ⟨rfl, hl1⟩; (have HL1 := Lib.hid (HL.out.trans hl1)); (have HB1 := Lib.hid (HB.out.later hl1)); obtain ⟨c0, c1⟩ := HB1.out.cells; clear hl1)
        | (go_at_call 9; (with_reducible refine (HFE.out _).mono ?_); rintro e w2 ⟨rfl, hl2⟩; (have HL2 := Lib.hid (HL1.out.trans hl2)); (have HBX := Lib.hid (HB1.out.later hl2)); clear hl2 c0 c1))
      refine wp_region_owes (by kernel_rfl) (fun W => Later w2 W) (Later) (Later.refl) [Sp.val (.agg #[.string (mkS t), .string (mkS m)]), Sp.val (.string (mkS s)), Sp.val (.bool B), Sp.val (.pointer (some ⟨w0.heap.size, 0, none⟩)), Sp.val (.string (mkS t)), Sp.val (.pointer (some ⟨w0.heap.size, 1, none⟩)), Sp.val (.string (mkS m)), Sp.val (.string (mkS s)), Sp.val (.bool B), Sp.val (.bool true), Sp.val (.bool true), Sp.val (.agg #[.string (mkS t), .string (mkS m)]), Sp.val (.bool P), Sp.val (.pointer (some ⟨w0.heap.size, 0, none⟩)), Sp.val (.string (mkS t)), Sp.val (.pointer (some ⟨w0.heap.size, 1, none⟩)), Sp.val (.string (mkS m)), Sp.val (.bool P), Sp.val (.bool true), Sp.val (.bool true), Sp.val (.bool true)] (by kernel_rfl) (Later.drew w2) ?_ ?_
      · refine ⟨?_, ?_, ?_, ?_, ?_, ?_, ?_, ?_, ?_, ?_, ?_, ?_, ?_, ?_, ?_, ?_, ?_, ?_, ?_, ?_, ?_, trivial⟩
        · -- 0: slot 19 := Op.load 23 t2
          refine fun a w hC hs => .inl ⟨?_, ?_⟩
          · rfl
          have e2 : a.tmps.getD 2 undef = .pointer (some ⟨w0.heap.size, 0, none⟩) := hs.free 2 rfl
          exact ValWp.loadR rfl e2 (loadO_run _ _ _ _ (HBX.out.later hC) Try.underlying23 rfl (by kernel_rfl)) ⟨rfl, hC, Later.refl _⟩
        · -- 1: slot 20 := Op.move t1
          refine fun a w hC hs => .inl ⟨?_, ?_⟩
          · rfl
          have e1 : a.tmps.getD 1 undef = .string (mkS s) := hs.free 1 rfl
          exact ⟨e1, hC, Later.refl _⟩
        · -- 2: slot 21 := Op.call { value (Operand.func 10), args := #[t19, t20], argTypes := #[23, 9] }
          refine fun a w hC hs => .inl ⟨?_, ?_⟩
          · rfl
          have e19 : a.tmps.getD 19 undef = .agg #[.string (mkS t), .string (mkS m)] := hs.dep 0 _ rfl rfl
          have e20 : a.tmps.getD 20 undef = .string (mkS s) := hs.dep 1 _ rfl rfl
          refine ValWp.call #[.agg #[.string (mkS t), .string (mkS m)], .string (mkS s)] rfl rfl Try.func10 rfl rfl (by simp only [List.map_toArray, List.map_cons, List.map_nil, Act.eval, e19, e20]) ?_
          refine (HM1.out w).mono ?_
          rintro e w' ⟨rfl, hl⟩
          exact ⟨_, rfl, rfl, Later.trans hC hl, hl⟩
        · -- 3: slot 22 := Op.fieldAddr 23 t2 0
          refine fun a w hC hs => .inl ⟨?_, ?_⟩
          · rfl
          have e2 : a.tmps.getD 2 undef = .pointer (some ⟨w0.heap.size, 0, none⟩) := hs.free 2 rfl
          refine ValWp.pure (v := .pointer (some ⟨w0.heap.size, 0, none⟩)) (fun K' hK' => ?_) ⟨rfl, hC, Later.refl _⟩
          simp only [ValWp, execOp, Act.eval, e2]
          go_simp
          all_goals exact hK'
        · -- 4: slot 23 := Op.load 9 t22
          refine fun a w hC hs => .inl ⟨?_, ?_⟩
          · rfl
          have e22 : a.tmps.getD 22 undef = .pointer (some ⟨w0.heap.size, 0, none⟩) := hs.dep 3 _ rfl rfl
          obtain ⟨c0, c1⟩ := (HBX.out.later hC).cells
          refine ValWp.pure (v := .string (mkS t)) (fun K' hK' => ?_) ⟨rfl, hC, Later.refl _⟩
          simp only [ValWp, execOp, Act.eval, e22]
          go_simp
          all_goals exact hK'
        · -- 5: slot 24 := Op.fieldAddr 23 t2 1
          refine fun a w hC hs => .inl ⟨?_, ?_⟩
          · rfl
          have e2 : a.tmps.getD 2 undef = .pointer (some ⟨w0.heap.size, 0, none⟩) := hs.free 2 rfl
          refine ValWp.pure (v := .pointer (some ⟨w0.heap.size, 1, none⟩)) (fun K' hK' => ?_) ⟨rfl, hC, Later.refl _⟩
          simp only [ValWp, execOp, Act.eval, e2]
          go_simp
          all_goals exact hK'
        · -- 6: slot 25 := Op.load 9 t24
          refine fun a w hC hs => .inl ⟨?_, ?_⟩
          · rfl
          have e24 : a.tmps.getD 24 undef = .pointer (some ⟨w0.heap.size, 1, none⟩) := hs.dep 5 _ rfl rfl
          obtain ⟨c0, c1⟩ := (HBX.out.later hC).cells
          refine ValWp.pure (v := .string (mkS m)) (fun K' hK' => ?_) ⟨rfl, hC, Later.refl _⟩
          simp only [ValWp, execOp, Act.eval, e24]
          go_simp
          all_goals exact hK'
        · -- 7: slot 26 := Op.move t1
          refine fun a w hC hs => .inl ⟨?_, ?_⟩
          · rfl
          have e1 : a.tmps.getD 1 undef = .string (mkS s) := hs.free 1 rfl
          exact ⟨e1, hC, Later.refl _⟩
        · -- 8: slot 27 := Op.call { value (Operand.func 11), args := #[t23, t25, const (0:i64), t26], argTypes := #[9, 9, 3, 9] }
          refine fun a w hC hs => .inl ⟨?_, ?_⟩
          · rfl
          have e23 : a.tmps.getD 23 undef = .string (mkS t) := hs.dep 4 _ rfl rfl
          have e25 : a.tmps.getD 25 undef = .string (mkS m) := hs.dep 6 _ rfl rfl
          have e26 : a.tmps.getD 26 undef = .string (mkS s) := hs.dep 7 _ rfl rfl
          refine ValWp.call #[.string (mkS t), .string (mkS m), .int .i64 0, .string (mkS s)] rfl rfl Try.func11 rfl rfl (by simp only [List.map_toArray, List.map_cons, List.map_nil, Act.eval, e23, e25, e26]) ?_
          refine (HM2.out w).mono ?_
          rintro e w' ⟨rfl, hl⟩
          exact ⟨_, rfl, rfl, Later.trans hC hl, hl⟩
        · -- 9: slot 28 := Op.binOp BinOp.eql 4 t21 t27 4
          refine fun a w hC hs => .inl ⟨?_, ?_⟩
          · rfl
          have e21 : a.tmps.getD 21 undef = .bool B := hs.dep 2 _ rfl rfl
          have e27 : a.tmps.getD 27 undef = .bool B := hs.dep 8 _ rfl rfl
          refine ValWp.pure (v := .bool true) (fun K' hK' => ?_) ⟨rfl, hC, Later.refl _⟩
          simp only [ValWp, execOp, Act.eval, e21, e27]
          go_simp
          all_goals exact hK'
        · -- 10: slot 29 := Op.move t28
          refine fun a w hC hs => .inl ⟨?_, ?_⟩
          · rfl
          have e28 : a.tmps.getD 28 undef = .bool true := hs.dep 9 _ rfl rfl
          exact ⟨e28, hC, Later.refl _⟩
        · -- 11: slot 30 := Op.load 23 t2 guarded (10, 'true')
          refine fun a w hC hs => .inl ⟨?_, ?_⟩
          · exact (by unfold Region.wanted; dsimp only; rw [yielded_bool (d := 29) rfl (hs.dep 10 _ rfl rfl)]; rfl)
          have e2 : a.tmps.getD 2 undef = .pointer (some ⟨w0.heap.size, 0, none⟩) := hs.free 2 rfl
          exact ValWp.loadR rfl e2 (loadO_run _ _ _ _ (HBX.out.later hC) Try.underlying23 rfl (by kernel_rfl)) ⟨rfl, hC, Later.refl _⟩
        · -- 12: slot 31 := Op.call { value (Operand.func 12), args := #[t30], argTypes := #[23] } guarded (10, 'true')
          refine fun a w hC hs => .inl ⟨?_, ?_⟩
          · exact (by unfold Region.wanted; dsimp only; rw [yielded_bool (d := 29) rfl (hs.dep 10 _ rfl rfl)]; rfl)
          have e30 : a.tmps.getD 30 undef = .agg #[.string (mkS t), .string (mkS m)] := hs.dep 11 _ rfl rfl
          refine ValWp.call #[.agg #[.string (mkS t), .string (mkS m)]] rfl rfl Try.func12 rfl rfl (by simp only [List.map_toArray, List.map_cons, List.map_nil, Act.eval, e30]) ?_
          refine (HP1.out w).mono ?_
          rintro e w' ⟨rfl, hl⟩
          exact ⟨_, rfl, rfl, Later.trans hC hl, hl⟩
        · -- 13: slot 32 := Op.fieldAddr 23 t2 0 guarded (10, 'true')
          refine fun a w hC hs => .inl ⟨?_, ?_⟩
          · exact (by unfold Region.wanted; dsimp only; rw [yielded_bool (d := 29) rfl (hs.dep 10 _ rfl rfl)]; rfl)
          have e2 : a.tmps.getD 2 undef = .pointer (some ⟨w0.heap.size, 0, none⟩) := hs.free 2 rfl
          refine ValWp.pure (v := .pointer (some ⟨w0.heap.size, 0, none⟩)) (fun K' hK' => ?_) ⟨rfl, hC, Later.refl _⟩
          simp only [ValWp, execOp, Act.eval, e2]
          go_simp
          all_goals exact hK'
        · -- 14: slot 33 := Op.load 9 t32 guarded (10, 'true')
          refine fun a w hC hs => .inl ⟨?_, ?_⟩
          · exact (by unfold Region.wanted; dsimp only; rw [yielded_bool (d := 29) rfl (hs.dep 10 _ rfl rfl)]; rfl)
          have e32 : a.tmps.getD 32 undef = .pointer (some ⟨w0.heap.size, 0, none⟩) := hs.dep 13 _ rfl rfl
          obtain ⟨c0, c1⟩ := (HBX.out.later hC).cells
          refine ValWp.pure (v := .string (mkS t)) (fun K' hK' => ?_) ⟨rfl, hC, Later.refl _⟩
          simp only [ValWp, execOp, Act.eval, e32]
          go_simp
          all_goals exact hK'
        · -- 15: slot 34 := Op.fieldAddr 23 t2 1 guarded (10, 'true')
          refine fun a w hC hs => .inl ⟨?_, ?_⟩
          · exact (by unfold Region.wanted; dsimp only; rw [yielded_bool (d := 29) rfl (hs.dep 10 _ rfl rfl)]; rfl)
          have e2 : a.tmps.getD 2 undef = .pointer (some ⟨w0.heap.size, 0, none⟩) := hs.free 2 rfl
          refine ValWp.pure (v := .pointer (some ⟨w0.heap.size, 1, none⟩)) (fun K' hK' => ?_) ⟨rfl, hC, Later.refl _⟩
          simp only [ValWp, execOp, Act.eval, e2]
          go_simp
          all_goals exact hK'
        · -- 16: slot 35 := Op.load 9 t34 guarded (10, 'true')
          refine fun a w hC hs => .inl ⟨?_, ?_⟩
          · exact (by unfold Region.wanted; dsimp only; rw [yielded_bool (d := 29) rfl (hs.dep 10 _ rfl rfl)]; rfl)
          have e34 : a.tmps.getD 34 undef = .pointer (some ⟨w0.heap.size, 1, none⟩) := hs.dep 15 _ rfl rfl
          obtain ⟨c0, c1⟩ := (HBX.out.later hC).cells
          refine ValWp.pure (v := .string (mkS m)) (fun K' hK' => ?_) ⟨rfl, hC, Later.refl _⟩
          simp only [ValWp, execOp, Act.eval, e34]
          go_simp
          all_goals exact hK'
        · -- 17: slot 36 := Op.call { value (Operand.func 13), args := #[t33, t35], argTypes := #[9, 9] } guarded (10, 'true')
          refine fun a w hC hs => .inl ⟨?_, ?_⟩
          · exact (by unfold Region.wanted; dsimp only; rw [yielded_bool (d := 29) rfl (hs.dep 10 _ rfl rfl)]; rfl)
          have e33 : a.tmps.getD 33 undef = .string (mkS t) := hs.dep 14 _ rfl rfl
          have e35 : a.tmps.getD 35 undef = .string (mkS m) := hs.dep 16 _ rfl rfl
          refine ValWp.call #[.string (mkS t), .string (mkS m)] rfl rfl Try.func13 rfl rfl (by simp only [List.map_toArray, List.map_cons, List.map_nil, Act.eval, e33, e35]) ?_
          refine (HP2.out w).mono ?_
          rintro e w' ⟨rfl, rfl⟩
          exact ⟨_, rfl, rfl, hC, Later.refl _⟩
        · -- 18: slot 37 := Op.binOp BinOp.eql 4 t31 t36 4 guarded (10, 'true')
          refine fun a w hC hs => .inl ⟨?_, ?_⟩
          · exact (by unfold Region.wanted; dsimp only; rw [yielded_bool (d := 29) rfl (hs.dep 10 _ rfl rfl)]; rfl)
          have e31 : a.tmps.getD 31 undef = .bool P := hs.dep 12 _ rfl rfl
          have e36 : a.tmps.getD 36 undef = .bool P := hs.dep 17 _ rfl rfl
          refine ValWp.pure (v := .bool true) (fun K' hK' => ?_) ⟨rfl, hC, Later.refl _⟩
          simp only [ValWp, execOp, Act.eval, e31, e36]
          go_simp
          all_goals exact hK'
        · -- 19: slot 38 := Op.pick t29 t37 (const (Value.bool false))
          refine fun a w hC hs => .inl ⟨?_, ?_⟩
          · rfl
          have e29 : a.tmps.getD 29 undef = .bool true := hs.dep 10 _ rfl rfl
          have e37 : a.tmps.getD 37 undef = .bool true := hs.dep 18 _ rfl rfl
          refine ValWp.pure (v := .bool true) (fun K' hK' => ?_) ⟨rfl, hC, Later.refl _⟩
          simp only [ValWp, execOp, Act.eval, e29, e37]
          go_simp
          all_goals exact hK'
        · -- 20: slot 4 := Op.assign t38
          refine fun a w hC hs => .inl ⟨?_, ?_⟩
          · rfl
          have e38 : a.tmps.getD 38 undef = .bool true := hs.dep 19 _ rfl rfl
          exact ⟨e38, hC, Later.refl _⟩
      · intro a W hC hd hsz hfree hs
        obtain ⟨u0, hu0⟩ : ∃ u, u = a.tmps.getD 0 undef := ⟨_, rfl⟩
        obtain ⟨u1, hu1⟩ : ∃ u, u = a.tmps.getD 1 undef := ⟨_, rfl⟩
        obtain ⟨u2, hu2⟩ : ∃ u, u = a.tmps.getD 2 undef := ⟨_, rfl⟩
        obtain ⟨u3, hu3⟩ : ∃ u, u = a.tmps.getD 3 undef := ⟨_, rfl⟩
        obtain ⟨u5, hu5⟩ : ∃ u, u = a.tmps.getD 5 undef := ⟨_, rfl⟩
        obtain ⟨u6, hu6⟩ : ∃ u, u = a.tmps.getD 6 undef := ⟨_, rfl⟩
        obtain ⟨u7, hu7⟩ : ∃ u, u = a.tmps.getD 7 undef := ⟨_, rfl⟩
        obtain ⟨u8, hu8⟩ : ∃ u, u = a.tmps.getD 8 undef := ⟨_, rfl⟩
        obtain ⟨u9, hu9⟩ : ∃ u, u = a.tmps.getD 9 undef := ⟨_, rfl⟩
        obtain ⟨u10, hu10⟩ : ∃ u, u = a.tmps.getD 10 undef := ⟨_, rfl⟩
        obtain ⟨u11, hu11⟩ : ∃ u, u = a.tmps.getD 11 undef := ⟨_, rfl⟩
        obtain ⟨u12, hu12⟩ : ∃ u, u = a.tmps.getD 12 undef := ⟨_, rfl⟩
        obtain ⟨u13, hu13⟩ : ∃ u, u = a.tmps.getD 13 undef := ⟨_, rfl⟩
        obtain ⟨u14, hu14⟩ : ∃ u, u = a.tmps.getD 14 undef := ⟨_, rfl⟩
        obtain ⟨u15, hu15⟩ : ∃ u, u = a.tmps.getD 15 undef := ⟨_, rfl⟩
        obtain ⟨u16, hu16⟩ : ∃ u, u = a.tmps.getD 16 undef := ⟨_, rfl⟩
        obtain ⟨u17, hu17⟩ : ∃ u, u = a.tmps.getD 17 undef := ⟨_, rfl⟩
        obtain ⟨u18, hu18⟩ : ∃ u, u = a.tmps.getD 18 undef := ⟨_, rfl⟩
        obtain ⟨u19, hu19⟩ : ∃ u, u = a.tmps.getD 19 undef := ⟨_, rfl⟩
        obtain ⟨u20, hu20⟩ : ∃ u, u = a.tmps.getD 20 undef := ⟨_, rfl⟩
        obtain ⟨u21, hu21⟩ : ∃ u, u = a.tmps.getD 21 undef := ⟨_, rfl⟩
        obtain ⟨u22, hu22⟩ : ∃ u, u = a.tmps.getD 22 undef := ⟨_, rfl⟩
        obtain ⟨u23, hu23⟩ : ∃ u, u = a.tmps.getD 23 undef := ⟨_, rfl⟩
        obtain ⟨u24, hu24⟩ : ∃ u, u = a.tmps.getD 24 undef := ⟨_, rfl⟩
        obtain ⟨u25, hu25⟩ : ∃ u, u = a.tmps.getD 25 undef := ⟨_, rfl⟩
        obtain ⟨u26, hu26⟩ : ∃ u, u = a.tmps.getD 26 undef := ⟨_, rfl⟩
        obtain ⟨u27, hu27⟩ : ∃ u, u = a.tmps.getD 27 undef := ⟨_, rfl⟩
        obtain ⟨u28, hu28⟩ : ∃ u, u = a.tmps.getD 28 undef := ⟨_, rfl⟩
        obtain ⟨u29, hu29⟩ : ∃ u, u = a.tmps.getD 29 undef := ⟨_, rfl⟩
        obtain ⟨u30, hu30⟩ : ∃ u, u = a.tmps.getD 30 undef := ⟨_, rfl⟩
        obtain ⟨u31, hu31⟩ : ∃ u, u = a.tmps.getD 31 undef := ⟨_, rfl⟩
        obtain ⟨u32, hu32⟩ : ∃ u, u = a.tmps.getD 32 undef := ⟨_, rfl⟩
        obtain ⟨u33, hu33⟩ : ∃ u, u = a.tmps.getD 33 undef := ⟨_, rfl⟩
        obtain ⟨u34, hu34⟩ : ∃ u, u = a.tmps.getD 34 undef := ⟨_, rfl⟩
        obtain ⟨u35, hu35⟩ : ∃ u, u = a.tmps.getD 35 undef := ⟨_, rfl⟩
        obtain ⟨u36, hu36⟩ : ∃ u, u = a.tmps.getD 36 undef := ⟨_, rfl⟩
        obtain ⟨u37, hu37⟩ : ∃ u, u = a.tmps.getD 37 undef := ⟨_, rfl⟩
        obtain ⟨u38, hu38⟩ : ∃ u, u = a.tmps.getD 38 undef := ⟨_, rfl⟩
        have hal : AllAt a 0 [u0, u1, u2, u3, .bool true, u5, u6, u7, u8, u9, u10, u11, u12, u13, u14, u15, u16, u17, u18, u19, u20, u21, u22, u23, u24, u25, u26, u27, u28, u29, u30, u31, u32, u33, u34, u35, u36, u37, u38] := ⟨hu0.symm, hu1.symm, hu2.symm, hu3.symm, hs 20 _ rfl, hu5.symm, hu6.symm, hu7.symm, hu8.symm, hu9.symm, hu10.symm, hu11.symm, hu12.symm, hu13.symm, hu14.symm, hu15.symm, hu16.symm, hu17.symm, hu18.symm, hu19.symm, hu20.symm, hu21.symm, hu22.symm, hu23.symm, hu24.symm, hu25.symm, hu26.symm, hu27.symm, hu28.symm, hu29.symm, hu30.symm, hu31.symm, hu32.symm, hu33.symm, hu34.symm, hu35.symm, hu36.symm, hu37.symm, hu38.symm, trivial⟩
        have hlit := fun h => act_lit hd h hal
        rw [hlit hsz]
        clear hlit hal hd hsz hfree hs hu0 hu1 hu2 hu3 hu5 hu6 hu7 hu8 hu9 hu10 hu11 hu12 hu13 hu14 hu15 hu16 hu17 hu18 hu19 hu20 hu21 hu22 hu23 hu24 hu25 hu26 hu27 hu28 hu29 hu30 hu31 hu32 hu33 hu34 hu35 hu36 hu37 hu38
        go_wp2
        go_ret
        exact ⟨rfl, HL2.out.trans hC⟩
theorem walk (w : World) (t : ByteArray) (ht : t.size ≤ maxLen) (m : ByteArray) (_ : m.size ≤ maxLen) (s : ByteArray) (_ : s.size ≤ maxLen) : Calls Try.prog 3 #[.agg #[.string t, .string m], .string s] w fun e w' => e = .returned (.bool true) ∧ Below w.heap.size w w' := by
  have := walkL t.data.toList m.data.toList s.data.toList ht w
  rwa [mkS_of, mkS_of, mkS_of] at this
end globMatches
end Go.Proofs.Ytjjkeajgcdminaa
