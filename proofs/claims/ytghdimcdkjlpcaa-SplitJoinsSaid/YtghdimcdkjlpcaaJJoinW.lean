/- THE WALK OF SplitJoins: rows behind each other, a text of one sort, a row's text. No premises. -/
import Derived.Test.YtghdimcdkjlpcaaJaw
namespace Go.Proofs.Ytghdimcdkjlpcaa
open Go.RowKit Go.Maps
namespace splitJoins
open Jo
/-- Two rows in a block of their own. -/
def spTwo (t m t2 m2 : L) : Sp Later := ⟨fun v w => ∃ g, v = .slice (some ⟨g, 0, none⟩) 2 2 ∧ RdR w w.heap.size (.slice (some ⟨g, 0, none⟩) 2 2) [(t, m), (t2, m2)], fun _ _ _ hg ⟨g, h1, h2⟩ => ⟨g, h1, by
  have h3 := h2.keep fun p hp => hg.cell hp
  refine ⟨h3.le, fun h0 => ?_⟩
  obtain ⟨g, c, e, hb, hc⟩ := h3.at_ h0
  exact ⟨g, c, e, Nat.lt_of_lt_of_le hb hg.size, hc⟩⟩⟩
theorem all_two (t m t2 m2 : L) : allC [(t, m), (t2, m2)] = t.zip m ++ t2.zip m2 := by simp [allC]
set_option maxRecDepth 100000 in
set_option maxHeartbeats 6400000 in
theorem walk_m (W0 : World) (t m t2 m2 s : L) (c : UInt8) (h0 : t.length ≤ 9223372036854775807) (h1 : m.length ≤ 9223372036854775807) (h2 : t2.length ≤ 9223372036854775807) (h3 : m2.length ≤ 9223372036854775807) (h4 : s.length ≤ 9223372036854775807) :
    Calls Try.prog 4 #[.agg #[.string (mkS t), .string (mkS m)], .agg #[.string (mkS t2), .string (mkS m2)], .string (mkS s), .int .u8 (c.toNat : Int)] W0 fun e w' => e = .returned (.bool true) ∧ Later W0 w' := by
  have HAW := Lib.hid (fun W => awake_v W)
  have hla := Later.alloc W0 (.cells #[.string (mkS t), .string (mkS m)] 23)
  have hlb := Later.alloc (W0.alloc (.cells #[.string (mkS t), .string (mkS m)] 23)) (.cells #[.string (mkS t2), .string (mkS m2)] 23)
  have hn2 := heap_alloc_new (W0.alloc (.cells #[.string (mkS t), .string (mkS m)] 23)) (.cells #[.string (mkS t2), .string (mkS m2)] 23)
  rw [World.size_alloc] at hn2
  have HLA := Lib.hid (hla.trans hlb)
  have HN1 := Lib.hid (later_cells hlb (heap_alloc_new W0 (.cells #[.string (mkS t), .string (mkS m)] 23)))
  have HN2 := Lib.hid hn2
  clear hla hlb hn2
  have hs1 : ((mkS t).size : Int) = (t.length : Int) := by rw [mkS_size]
  have hs2 : ((mkS m).size : Int) = (m.length : Int) := by rw [mkS_size]
  have hs3 : ((mkS t2).size : Int) = (t2.length : Int) := by rw [mkS_size]
  have hs4 : ((mkS m2).size : Int) = (m2.length : Int) := by rw [mkS_size]
  have hs5 : ((mkS s).size : Int) = (s.length : Int) := by rw [mkS_size]
  by_cases b0 : t.length > 200
  · have k0 : (200 : Int) < (t.length : Int) := by omega
    go_enter Try.func4, Try.ntmps4
    go_wp2_with (go_at_call 8; (with_reducible refine (HAW.out _).mono ?_); rintro e w1 ⟨rfl, hl1⟩; (have ha := later_cells hl1 HN1.out); (have hb := later_cells hl1 HN2.out); (have c0 : w1.cell? ⟨W0.heap.size, 0, none⟩ = some (.string (mkS t)) := (cell_row ha 0).1); (have c1 : w1.cell? ⟨W0.heap.size, 1, none⟩ = some (.string (mkS m)) := (cell_row ha 1).1); (have c2 : w1.cell? ⟨W0.heap.size + 1, 0, none⟩ = some (.string (mkS t2)) := (cell_row hb 0).1); (have c3 : w1.cell? ⟨W0.heap.size + 1, 1, none⟩ = some (.string (mkS m2)) := (cell_row hb 1).1); (have HAB := Lib.hid (And.intro ha hb)); (have HL1 := Lib.hid (HLA.out.trans hl1)); clear hl1 ha hb)
    go_ret
    exact ⟨rfl, HL1.out⟩
  have k0 : ¬ (200 : Int) < (t.length : Int) := by omega
  by_cases b1 : m.length > 200
  · have k1 : (200 : Int) < (m.length : Int) := by omega
    go_enter Try.func4, Try.ntmps4
    go_wp2_with (go_at_call 8; (with_reducible refine (HAW.out _).mono ?_); rintro e w1 ⟨rfl, hl1⟩; (have ha := later_cells hl1 HN1.out); (have hb := later_cells hl1 HN2.out); (have c0 : w1.cell? ⟨W0.heap.size, 0, none⟩ = some (.string (mkS t)) := (cell_row ha 0).1); (have c1 : w1.cell? ⟨W0.heap.size, 1, none⟩ = some (.string (mkS m)) := (cell_row ha 1).1); (have c2 : w1.cell? ⟨W0.heap.size + 1, 0, none⟩ = some (.string (mkS t2)) := (cell_row hb 0).1); (have c3 : w1.cell? ⟨W0.heap.size + 1, 1, none⟩ = some (.string (mkS m2)) := (cell_row hb 1).1); (have HAB := Lib.hid (And.intro ha hb)); (have HL1 := Lib.hid (HLA.out.trans hl1)); clear hl1 ha hb)
    go_ret
    exact ⟨rfl, HL1.out⟩
  have k1 : ¬ (200 : Int) < (m.length : Int) := by omega
  by_cases b2 : t2.length > 200
  · have k2 : (200 : Int) < (t2.length : Int) := by omega
    go_enter Try.func4, Try.ntmps4
    go_wp2_with (go_at_call 8; (with_reducible refine (HAW.out _).mono ?_); rintro e w1 ⟨rfl, hl1⟩; (have ha := later_cells hl1 HN1.out); (have hb := later_cells hl1 HN2.out); (have c0 : w1.cell? ⟨W0.heap.size, 0, none⟩ = some (.string (mkS t)) := (cell_row ha 0).1); (have c1 : w1.cell? ⟨W0.heap.size, 1, none⟩ = some (.string (mkS m)) := (cell_row ha 1).1); (have c2 : w1.cell? ⟨W0.heap.size + 1, 0, none⟩ = some (.string (mkS t2)) := (cell_row hb 0).1); (have c3 : w1.cell? ⟨W0.heap.size + 1, 1, none⟩ = some (.string (mkS m2)) := (cell_row hb 1).1); (have HAB := Lib.hid (And.intro ha hb)); (have HL1 := Lib.hid (HLA.out.trans hl1)); clear hl1 ha hb)
    go_ret
    exact ⟨rfl, HL1.out⟩
  have k2 : ¬ (200 : Int) < (t2.length : Int) := by omega
  by_cases b3 : m2.length > 200
  · have k3 : (200 : Int) < (m2.length : Int) := by omega
    go_enter Try.func4, Try.ntmps4
    go_wp2_with (go_at_call 8; (with_reducible refine (HAW.out _).mono ?_); rintro e w1 ⟨rfl, hl1⟩; (have ha := later_cells hl1 HN1.out); (have hb := later_cells hl1 HN2.out); (have c0 : w1.cell? ⟨W0.heap.size, 0, none⟩ = some (.string (mkS t)) := (cell_row ha 0).1); (have c1 : w1.cell? ⟨W0.heap.size, 1, none⟩ = some (.string (mkS m)) := (cell_row ha 1).1); (have c2 : w1.cell? ⟨W0.heap.size + 1, 0, none⟩ = some (.string (mkS t2)) := (cell_row hb 0).1); (have c3 : w1.cell? ⟨W0.heap.size + 1, 1, none⟩ = some (.string (mkS m2)) := (cell_row hb 1).1); (have HAB := Lib.hid (And.intro ha hb)); (have HL1 := Lib.hid (HLA.out.trans hl1)); clear hl1 ha hb)
    go_ret
    exact ⟨rfl, HL1.out⟩
  have k3 : ¬ (200 : Int) < (m2.length : Int) := by omega
  by_cases b4 : s.length > 200
  · have k4 : (200 : Int) < (s.length : Int) := by omega
    go_enter Try.func4, Try.ntmps4
    go_wp2_with (go_at_call 8; (with_reducible refine (HAW.out _).mono ?_); rintro e w1 ⟨rfl, hl1⟩; (have ha := later_cells hl1 HN1.out); (have hb := later_cells hl1 HN2.out); (have c0 : w1.cell? ⟨W0.heap.size, 0, none⟩ = some (.string (mkS t)) := (cell_row ha 0).1); (have c1 : w1.cell? ⟨W0.heap.size, 1, none⟩ = some (.string (mkS m)) := (cell_row ha 1).1); (have c2 : w1.cell? ⟨W0.heap.size + 1, 0, none⟩ = some (.string (mkS t2)) := (cell_row hb 0).1); (have c3 : w1.cell? ⟨W0.heap.size + 1, 1, none⟩ = some (.string (mkS m2)) := (cell_row hb 1).1); (have HAB := Lib.hid (And.intro ha hb)); (have HL1 := Lib.hid (HLA.out.trans hl1)); clear hl1 ha hb)
    go_ret
    exact ⟨rfl, HL1.out⟩
  have k4 : ¬ (200 : Int) < (s.length : Int) := by omega
  have z1 : (t.zip m).length ≤ 200 := by rw [List.length_zip]; omega
  have z2 : (t2.zip m2).length ≤ 200 := by rw [List.length_zip]; omega
  obtain ⟨Z, hZ⟩ : ∃ Z, Z = t.zip m ++ t2.zip m2 := ⟨_, rfl⟩
  have HJ := Lib.hid (show ∀ v W, RdR W W.heap.size v [(t, m), (t2, m2)] → Calls Try.prog 12 #[v] W fun e w' => e = .returned (.agg #[.string (mkS (ft Z)), .string (mkS (fm Z))]) ∧ Later W w' from fun v W hr => by
    have := join_v v [(t, m), (t2, m2)] W hr (by rw [all_two, List.length_append]; omega) (by simp) (by intro x hx; simp at hx; rcases hx with rfl | rfl <;> assumption)
    rw [all_two, ← hZ] at this
    exact this)
  have HJ0 := Lib.hid (show ∀ W, Calls Try.prog 12 #[.slice none 0 0] W fun e w' => e = .returned (.agg #[.string (mkS []), .string (mkS [])]) ∧ Later W w' from fun W => join_v (.slice none 0 0) [] W ⟨⟨none, 0, rfl, Nat.le_refl _⟩, fun h => absurd h (by decide)⟩ (by decide) (by decide) (by simp))
  have HR := Lib.hid (show ∀ W, Calls Try.prog 13 #[.agg #[.string (mkS t), .string (mkS m)], .agg #[.string (mkS t2), .string (mkS m2)]] W fun e w' => e = .returned (.agg #[.string (mkS (ft Z)), .string (mkS (fm Z))]) ∧ Later W w' from fun W => by
    have := rjoin_v t m t2 m2 W (by omega) (by omega) (by omega) (by omega)
    rw [← hZ] at this
    exact this)
  have HSL := Lib.hid (show s.length ≤ 1000000 by omega)
  have HBA := Lib.hid (fun W => bare_v t m W h0 (by omega))
  have HBR := Lib.hid (fun W => rbare_v t m W (by omega))
  have htl : ∀ l : L, (mkS l).toList = l := mkS_toList
  clear hZ b0 b1 b2 b3 b4
  go_enter Try.func4, Try.ntmps4
  go_wp2_with (go_at_call 8; (with_reducible refine (HAW.out _).mono ?_); rintro e w1 ⟨rfl, hl1⟩; (have ha := later_cells hl1 HN1.out); (have hb := later_cells hl1 HN2.out); (have c0 : w1.cell? ⟨W0.heap.size, 0, none⟩ = some (.string (mkS t)) := (cell_row ha 0).1); (have c1 : w1.cell? ⟨W0.heap.size, 1, none⟩ = some (.string (mkS m)) := (cell_row ha 1).1); (have c2 : w1.cell? ⟨W0.heap.size + 1, 0, none⟩ = some (.string (mkS t2)) := (cell_row hb 0).1); (have c3 : w1.cell? ⟨W0.heap.size + 1, 1, none⟩ = some (.string (mkS m2)) := (cell_row hb 1).1); (have HAB := Lib.hid (And.intro ha hb)); (have HL1 := Lib.hid (HLA.out.trans hl1)); clear hl1 ha hb)
  have HA := Lib.hid (show ∀ W, Later w1 W → W.cell? ⟨W0.heap.size, 0, none⟩ = some (.string (mkS t)) ∧ W.cell? ⟨W0.heap.size, 1, none⟩ = some (.string (mkS m)) from fun W hl => by
    have h := later_cells hl HAB.out.1
    exact ⟨(cell_row h 0).1, (cell_row h 1).1⟩)
  have HB := Lib.hid (show ∀ W, Later w1 W → W.cell? ⟨W0.heap.size + 1, 0, none⟩ = some (.string (mkS t2)) ∧ W.cell? ⟨W0.heap.size + 1, 1, none⟩ = some (.string (mkS m2)) from fun W hl => by
    have h := later_cells hl HAB.out.2
    exact ⟨(cell_row h 0).1, (cell_row h 1).1⟩)
  clear c0 c1 c2 c3 k0 k1 k2 k3 k4 hs1 hs2 hs3 hs4 hs5 z1 z2
  refine wp_region_owes (by kernel_rfl) (fun W => Later w1 W) (Later) (Later.refl) [Sp.val (.agg #[.string (mkS t), .string (mkS m)]), Sp.val (.agg #[.string (mkS t2), .string (mkS m2)]), spTwo t m t2 m2, Sp.val (.agg #[.string (mkS (ft Z)), .string (mkS (fm Z))]), Sp.val (.agg #[.string (mkS (ft Z)), .string (mkS (fm Z))]), Sp.val (.agg #[.string (mkS t), .string (mkS m)]), Sp.val (.agg #[.string (mkS t), .string (mkS m)]), Sp.val (.agg #[.string (mkS t2), .string (mkS m2)]), Sp.val (.agg #[.string (mkS t2), .string (mkS m2)]), Sp.val (.agg #[.string (mkS (ft Z)), .string (mkS (fm Z))]), Sp.val (.bool true), Sp.val (.bool true), Sp.val (.string (mkS s)), Sp.val (.int .u8 (c.toNat : Int)), Sp.val (.agg #[.string (mkS s), .string (mkS (List.replicate s.length c))]), Sp.val (.agg #[.string (mkS s), .string (mkS (List.replicate s.length c))]), Sp.val (.string (mkS s)), Sp.val (.int .u8 (c.toNat : Int)), Sp.val (.agg #[.string (mkS s), .string (mkS (List.replicate s.length c))]), Sp.val (.bool true), Sp.val (.bool true), Sp.val (.bool true), Sp.val (.agg #[.string (mkS t), .string (mkS m)]), Sp.val (.string (mkS (bareL (t.zip m)))), Sp.val (.agg #[.string (mkS t), .string (mkS m)]), Sp.val (.agg #[.string (mkS t), .string (mkS m)]), Sp.val (.string (mkS (bareL (t.zip m)))), Sp.val (.bool true), Sp.val (.bool true), Sp.val (.bool true), Sp.val (.agg #[.string (mkS []), .string (mkS [])]), Sp.val (.agg #[.string (mkS []), .string (mkS [])]), Sp.val (.bool true), Sp.val (.bool true), Sp.val (.bool true)] (by kernel_rfl) (Later.drew w1) ?_ ?_
  · refine ⟨?_, ?_, ?_, ?_, ?_, ?_, ?_, ?_, ?_, ?_, ?_, ?_, ?_, ?_, ?_, ?_, ?_, ?_, ?_, ?_, ?_, ?_, ?_, ?_, ?_, ?_, ?_, ?_, ?_, ?_, ?_, ?_, ?_, ?_, ?_, trivial⟩
    · -- 0: slot 40 := Op.load 23 t4
      refine fun a w hC hs => .inl ⟨?_, ?_⟩
      · rfl
      have e4 : a.tmps.getD 4 undef = .pointer (some ⟨W0.heap.size, 0, none⟩) := hs.free 4 rfl
      obtain ⟨k0, k1⟩ := HA.out w hC
      refine ValWp.pure (v := .agg #[.string (mkS t), .string (mkS m)]) (fun K' hK' => ?_) ⟨rfl, hC, Later.refl _⟩
      simp only [ValWp, execOp, Act.eval, e4]
      go_simp
      all_goals exact hK'
    · -- 1: slot 41 := Op.load 23 t5
      refine fun a w hC hs => .inl ⟨?_, ?_⟩
      · rfl
      have e5 : a.tmps.getD 5 undef = .pointer (some ⟨W0.heap.size + 1, 0, none⟩) := hs.free 5 rfl
      obtain ⟨k0, k1⟩ := HB.out w hC
      refine ValWp.pure (v := .agg #[.string (mkS t2), .string (mkS m2)]) (fun K' hK' => ?_) ⟨rfl, hC, Later.refl _⟩
      simp only [ValWp, execOp, Act.eval, e5]
      go_simp
      all_goals exact hK'
    · -- 2: slot 42 := Op.buildSlice 25 2 #[(0, t40), (1, t41)]
      refine fun a w hC hs => .inl ⟨?_, ?_⟩
      · rfl
      have e40 : a.tmps.getD 40 undef = .agg #[.string (mkS t), .string (mkS m)] := hs.dep 0 _ rfl rfl
      have e41 : a.tmps.getD 41 undef = .agg #[.string (mkS t2), .string (mkS m2)] := hs.dep 1 _ rfl rfl
      refine ValWp.pure (v := .slice (some ⟨w.heap.size, 0, none⟩) 2 2) (w' := w.alloc (.cells #[.string (mkS t), .string (mkS m), .string (mkS t2), .string (mkS m2)] 23)) (fun K' hK' => ?_) ⟨⟨w.heap.size, rfl, by rw [World.size_alloc]; exact RdR.lit2 w t m t2 m2 _⟩, Later.trans hC (Later.alloc _ _), Later.alloc _ _⟩
      simp only [ValWp, execOp, Act.eval, List.map_toArray, List.map_cons, List.map_nil, e40, e41]
      go_simp
      all_goals exact hK'
    · -- 3: slot 43 := Op.call { value (Operand.func 12), args := #[t42], argTypes := #[25] }
      refine fun a w hC hs => .inl ⟨?_, ?_⟩
      · rfl
      obtain ⟨g42, e42, h42⟩ := hs.dep 2 _ rfl rfl
      change a.tmps.getD 42 undef = _ at e42
      refine ValWp.call #[.slice (some ⟨g42, 0, none⟩) 2 2] rfl rfl Try.func12 rfl rfl (by simp only [List.map_toArray, List.map_cons, List.map_nil, Act.eval, e42]) ?_
      refine (HJ.out _ w h42).mono ?_
      rintro e w' ⟨rfl, hb⟩
      exact ⟨_, rfl, rfl, Later.trans hC hb, hb⟩
    · -- 4: slot 44 := Op.call { value (Operand.func 11), args := #[t43], argTypes := #[23] }
      refine fun a w hC hs => .inl ⟨?_, ?_⟩
      · rfl
      have e43 : a.tmps.getD 43 undef = .agg #[.string (mkS (ft Z)), .string (mkS (fm Z))] := hs.dep 3 _ rfl rfl
      refine ValWp.call #[.agg #[.string (mkS (ft Z)), .string (mkS (fm Z))]] rfl rfl Try.func11 rfl rfl (by simp only [List.map_toArray, List.map_cons, List.map_nil, Act.eval, e43]) ?_
      refine (of_l _ _ w).mono ?_
      rintro e w' ⟨rfl, hb⟩
      exact ⟨_, rfl, rfl, Later.trans hC hb, hb⟩
    · -- 5: slot 45 := Op.load 23 t4
      refine fun a w hC hs => .inl ⟨?_, ?_⟩
      · rfl
      have e4 : a.tmps.getD 4 undef = .pointer (some ⟨W0.heap.size, 0, none⟩) := hs.free 4 rfl
      obtain ⟨k0, k1⟩ := HA.out w hC
      refine ValWp.pure (v := .agg #[.string (mkS t), .string (mkS m)]) (fun K' hK' => ?_) ⟨rfl, hC, Later.refl _⟩
      simp only [ValWp, execOp, Act.eval, e4]
      go_simp
      all_goals exact hK'
    · -- 6: slot 46 := Op.call { value (Operand.func 11), args := #[t45], argTypes := #[23] }
      refine fun a w hC hs => .inl ⟨?_, ?_⟩
      · rfl
      have e45 : a.tmps.getD 45 undef = .agg #[.string (mkS t), .string (mkS m)] := hs.dep 5 _ rfl rfl
      refine ValWp.call #[.agg #[.string (mkS t), .string (mkS m)]] rfl rfl Try.func11 rfl rfl (by simp only [List.map_toArray, List.map_cons, List.map_nil, Act.eval, e45]) ?_
      refine (of_l _ _ w).mono ?_
      rintro e w' ⟨rfl, hb⟩
      exact ⟨_, rfl, rfl, Later.trans hC hb, hb⟩
    · -- 7: slot 47 := Op.load 23 t5
      refine fun a w hC hs => .inl ⟨?_, ?_⟩
      · rfl
      have e5 : a.tmps.getD 5 undef = .pointer (some ⟨W0.heap.size + 1, 0, none⟩) := hs.free 5 rfl
      obtain ⟨k0, k1⟩ := HB.out w hC
      refine ValWp.pure (v := .agg #[.string (mkS t2), .string (mkS m2)]) (fun K' hK' => ?_) ⟨rfl, hC, Later.refl _⟩
      simp only [ValWp, execOp, Act.eval, e5]
      go_simp
      all_goals exact hK'
    · -- 8: slot 48 := Op.call { value (Operand.func 11), args := #[t47], argTypes := #[23] }
      refine fun a w hC hs => .inl ⟨?_, ?_⟩
      · rfl
      have e47 : a.tmps.getD 47 undef = .agg #[.string (mkS t2), .string (mkS m2)] := hs.dep 7 _ rfl rfl
      refine ValWp.call #[.agg #[.string (mkS t2), .string (mkS m2)]] rfl rfl Try.func11 rfl rfl (by simp only [List.map_toArray, List.map_cons, List.map_nil, Act.eval, e47]) ?_
      refine (of_l _ _ w).mono ?_
      rintro e w' ⟨rfl, hb⟩
      exact ⟨_, rfl, rfl, Later.trans hC hb, hb⟩
    · -- 9: slot 49 := Op.call { value (Operand.func 13), args := #[t46, t48], argTypes := #[29, 29] }
      refine fun a w hC hs => .inl ⟨?_, ?_⟩
      · rfl
      have e46 : a.tmps.getD 46 undef = .agg #[.string (mkS t), .string (mkS m)] := hs.dep 6 _ rfl rfl
      have e48 : a.tmps.getD 48 undef = .agg #[.string (mkS t2), .string (mkS m2)] := hs.dep 8 _ rfl rfl
      refine ValWp.call #[.agg #[.string (mkS t), .string (mkS m)], .agg #[.string (mkS t2), .string (mkS m2)]] rfl rfl Try.func13 rfl rfl (by simp only [List.map_toArray, List.map_cons, List.map_nil, Act.eval, e46, e48]) ?_
      refine (HR.out w).mono ?_
      rintro e w' ⟨rfl, hb⟩
      exact ⟨_, rfl, rfl, Later.trans hC hb, hb⟩
    · -- 10: slot 50 := Op.binOp BinOp.eql 29 t44 t49 29
      refine fun a w hC hs => .inl ⟨?_, ?_⟩
      · rfl
      have e44 : a.tmps.getD 44 undef = .agg #[.string (mkS (ft Z)), .string (mkS (fm Z))] := hs.dep 4 _ rfl rfl
      have e49 : a.tmps.getD 49 undef = .agg #[.string (mkS (ft Z)), .string (mkS (fm Z))] := hs.dep 9 _ rfl rfl
      refine ValWp.pure (v := .bool true) (fun K' hK' => ?_) ⟨rfl, hC, Later.refl _⟩
      simp only [ValWp, execOp, Act.eval, e44, e49]
      go_simp
      all_goals exact hK'
    · -- 11: slot 51 := Op.move t50
      refine fun a w hC hs => .inl ⟨?_, ?_⟩
      · rfl
      have e50 : a.tmps.getD 50 undef = .bool true := hs.dep 10 _ rfl rfl
      exact ⟨e50, hC, Later.refl _⟩
    · -- 12: slot 52 := Op.move t2 guarded (11, 'true')
      refine fun a w hC hs => .inl ⟨?_, ?_⟩
      · exact (by unfold Region.wanted; dsimp only; rw [yielded_bool (d := 51) rfl (hs.dep 11 _ rfl rfl)]; rfl)
      have e2 : a.tmps.getD 2 undef = .string (mkS s) := hs.free 2 rfl
      exact ⟨e2, hC, Later.refl _⟩
    · -- 13: slot 53 := Op.move t3 guarded (11, 'true')
      refine fun a w hC hs => .inl ⟨?_, ?_⟩
      · exact (by unfold Region.wanted; dsimp only; rw [yielded_bool (d := 51) rfl (hs.dep 11 _ rfl rfl)]; rfl)
      have e3 : a.tmps.getD 3 undef = .int .u8 (c.toNat : Int) := hs.free 3 rfl
      exact ⟨e3, hC, Later.refl _⟩
    · -- 14: slot 54 := Op.call { value (Operand.func 14), args := #[t52, t53], argTypes := #[9, 5] } guarded (11, 'true')
      refine fun a w hC hs => .inl ⟨?_, ?_⟩
      · exact (by unfold Region.wanted; dsimp only; rw [yielded_bool (d := 51) rfl (hs.dep 11 _ rfl rfl)]; rfl)
      have e52 : a.tmps.getD 52 undef = .string (mkS s) := hs.dep 12 _ rfl rfl
      have e53 : a.tmps.getD 53 undef = .int .u8 (c.toNat : Int) := hs.dep 13 _ rfl rfl
      refine ValWp.call #[.string (mkS s), .int .u8 (c.toNat : Int)] rfl rfl Try.func14 rfl rfl (by simp only [List.map_toArray, List.map_cons, List.map_nil, Act.eval, e52, e53]) ?_
      refine (of_v s c w HSL.out).mono ?_
      rintro e w' ⟨rfl, hb⟩
      exact ⟨_, rfl, rfl, Later.trans hC hb, hb⟩
    · -- 15: slot 55 := Op.call { value (Operand.func 11), args := #[t54], argTypes := #[23] } guarded (11, 'true')
      refine fun a w hC hs => .inl ⟨?_, ?_⟩
      · exact (by unfold Region.wanted; dsimp only; rw [yielded_bool (d := 51) rfl (hs.dep 11 _ rfl rfl)]; rfl)
      have e54 : a.tmps.getD 54 undef = .agg #[.string (mkS s), .string (mkS (List.replicate s.length c))] := hs.dep 14 _ rfl rfl
      refine ValWp.call #[.agg #[.string (mkS s), .string (mkS (List.replicate s.length c))]] rfl rfl Try.func11 rfl rfl (by simp only [List.map_toArray, List.map_cons, List.map_nil, Act.eval, e54]) ?_
      refine (of_l _ _ w).mono ?_
      rintro e w' ⟨rfl, hb⟩
      exact ⟨_, rfl, rfl, Later.trans hC hb, hb⟩
    · -- 16: slot 56 := Op.move t2 guarded (11, 'true')
      refine fun a w hC hs => .inl ⟨?_, ?_⟩
      · exact (by unfold Region.wanted; dsimp only; rw [yielded_bool (d := 51) rfl (hs.dep 11 _ rfl rfl)]; rfl)
      have e2 : a.tmps.getD 2 undef = .string (mkS s) := hs.free 2 rfl
      exact ⟨e2, hC, Later.refl _⟩
    · -- 17: slot 57 := Op.move t3 guarded (11, 'true')
      refine fun a w hC hs => .inl ⟨?_, ?_⟩
      · exact (by unfold Region.wanted; dsimp only; rw [yielded_bool (d := 51) rfl (hs.dep 11 _ rfl rfl)]; rfl)
      have e3 : a.tmps.getD 3 undef = .int .u8 (c.toNat : Int) := hs.free 3 rfl
      exact ⟨e3, hC, Later.refl _⟩
    · -- 18: slot 58 := Op.call { value (Operand.func 15), args := #[t56, t57], argTypes := #[9, 5] } guarded (11, 'true')
      refine fun a w hC hs => .inl ⟨?_, ?_⟩
      · exact (by unfold Region.wanted; dsimp only; rw [yielded_bool (d := 51) rfl (hs.dep 11 _ rfl rfl)]; rfl)
      have e56 : a.tmps.getD 56 undef = .string (mkS s) := hs.dep 16 _ rfl rfl
      have e57 : a.tmps.getD 57 undef = .int .u8 (c.toNat : Int) := hs.dep 17 _ rfl rfl
      refine ValWp.call #[.string (mkS s), .int .u8 (c.toNat : Int)] rfl rfl Try.func15 rfl rfl (by simp only [List.map_toArray, List.map_cons, List.map_nil, Act.eval, e56, e57]) ?_
      refine (rof_v s c w HSL.out).mono ?_
      rintro e w' ⟨rfl, hb⟩
      exact ⟨_, rfl, rfl, Later.trans hC hb, hb⟩
    · -- 19: slot 59 := Op.binOp BinOp.eql 29 t55 t58 29 guarded (11, 'true')
      refine fun a w hC hs => .inl ⟨?_, ?_⟩
      · exact (by unfold Region.wanted; dsimp only; rw [yielded_bool (d := 51) rfl (hs.dep 11 _ rfl rfl)]; rfl)
      have e55 : a.tmps.getD 55 undef = .agg #[.string (mkS s), .string (mkS (List.replicate s.length c))] := hs.dep 15 _ rfl rfl
      have e58 : a.tmps.getD 58 undef = .agg #[.string (mkS s), .string (mkS (List.replicate s.length c))] := hs.dep 18 _ rfl rfl
      refine ValWp.pure (v := .bool true) (fun K' hK' => ?_) ⟨rfl, hC, Later.refl _⟩
      simp only [ValWp, execOp, Act.eval, e55, e58]
      go_simp
      all_goals exact hK'
    · -- 20: slot 60 := Op.pick t51 t59 (const (Value.bool false))
      refine fun a w hC hs => .inl ⟨?_, ?_⟩
      · rfl
      have e51 : a.tmps.getD 51 undef = .bool true := hs.dep 11 _ rfl rfl
      have e59 : a.tmps.getD 59 undef = .bool true := hs.dep 19 _ rfl rfl
      refine ValWp.pure (v := .bool true) (fun K' hK' => ?_) ⟨rfl, hC, Later.refl _⟩
      simp only [ValWp, execOp, Act.eval, e51, e59]
      go_simp
      all_goals exact hK'
    · -- 21: slot 61 := Op.move t60
      refine fun a w hC hs => .inl ⟨?_, ?_⟩
      · rfl
      have e60 : a.tmps.getD 60 undef = .bool true := hs.dep 20 _ rfl rfl
      exact ⟨e60, hC, Later.refl _⟩
    · -- 22: slot 62 := Op.load 23 t4 guarded (21, 'true')
      refine fun a w hC hs => .inl ⟨?_, ?_⟩
      · exact (by unfold Region.wanted; dsimp only; rw [yielded_bool (d := 61) rfl (hs.dep 21 _ rfl rfl)]; rfl)
      have e4 : a.tmps.getD 4 undef = .pointer (some ⟨W0.heap.size, 0, none⟩) := hs.free 4 rfl
      obtain ⟨k0, k1⟩ := HA.out w hC
      refine ValWp.pure (v := .agg #[.string (mkS t), .string (mkS m)]) (fun K' hK' => ?_) ⟨rfl, hC, Later.refl _⟩
      simp only [ValWp, execOp, Act.eval, e4]
      go_simp
      all_goals exact hK'
    · -- 23: slot 63 := Op.call { value (Operand.func 16), args := #[t62], argTypes := #[23] } guarded (21, 'true')
      refine fun a w hC hs => .inl ⟨?_, ?_⟩
      · exact (by unfold Region.wanted; dsimp only; rw [yielded_bool (d := 61) rfl (hs.dep 21 _ rfl rfl)]; rfl)
      have e62 : a.tmps.getD 62 undef = .agg #[.string (mkS t), .string (mkS m)] := hs.dep 22 _ rfl rfl
      refine ValWp.call #[.agg #[.string (mkS t), .string (mkS m)]] rfl rfl Try.func16 rfl rfl (by simp only [List.map_toArray, List.map_cons, List.map_nil, Act.eval, e62]) ?_
      refine (HBA.out w).mono ?_
      rintro e w' ⟨rfl, hb⟩
      exact ⟨_, rfl, rfl, Later.trans hC hb, hb⟩
    · -- 24: slot 64 := Op.load 23 t4 guarded (21, 'true')
      refine fun a w hC hs => .inl ⟨?_, ?_⟩
      · exact (by unfold Region.wanted; dsimp only; rw [yielded_bool (d := 61) rfl (hs.dep 21 _ rfl rfl)]; rfl)
      have e4 : a.tmps.getD 4 undef = .pointer (some ⟨W0.heap.size, 0, none⟩) := hs.free 4 rfl
      obtain ⟨k0, k1⟩ := HA.out w hC
      refine ValWp.pure (v := .agg #[.string (mkS t), .string (mkS m)]) (fun K' hK' => ?_) ⟨rfl, hC, Later.refl _⟩
      simp only [ValWp, execOp, Act.eval, e4]
      go_simp
      all_goals exact hK'
    · -- 25: slot 65 := Op.call { value (Operand.func 11), args := #[t64], argTypes := #[23] } guarded (21, 'true')
      refine fun a w hC hs => .inl ⟨?_, ?_⟩
      · exact (by unfold Region.wanted; dsimp only; rw [yielded_bool (d := 61) rfl (hs.dep 21 _ rfl rfl)]; rfl)
      have e64 : a.tmps.getD 64 undef = .agg #[.string (mkS t), .string (mkS m)] := hs.dep 24 _ rfl rfl
      refine ValWp.call #[.agg #[.string (mkS t), .string (mkS m)]] rfl rfl Try.func11 rfl rfl (by simp only [List.map_toArray, List.map_cons, List.map_nil, Act.eval, e64]) ?_
      refine (of_l _ _ w).mono ?_
      rintro e w' ⟨rfl, hb⟩
      exact ⟨_, rfl, rfl, Later.trans hC hb, hb⟩
    · -- 26: slot 66 := Op.call { value (Operand.func 17), args := #[t65], argTypes := #[29] } guarded (21, 'true')
      refine fun a w hC hs => .inl ⟨?_, ?_⟩
      · exact (by unfold Region.wanted; dsimp only; rw [yielded_bool (d := 61) rfl (hs.dep 21 _ rfl rfl)]; rfl)
      have e65 : a.tmps.getD 65 undef = .agg #[.string (mkS t), .string (mkS m)] := hs.dep 25 _ rfl rfl
      refine ValWp.call #[.agg #[.string (mkS t), .string (mkS m)]] rfl rfl Try.func17 rfl rfl (by simp only [List.map_toArray, List.map_cons, List.map_nil, Act.eval, e65]) ?_
      refine (HBR.out w).mono ?_
      rintro e w' ⟨rfl, hb⟩
      exact ⟨_, rfl, rfl, Later.trans hC hb, hb⟩
    · -- 27: slot 67 := Op.binOp BinOp.eql 9 t63 t66 9 guarded (21, 'true')
      refine fun a w hC hs => .inl ⟨?_, ?_⟩
      · exact (by unfold Region.wanted; dsimp only; rw [yielded_bool (d := 61) rfl (hs.dep 21 _ rfl rfl)]; rfl)
      have e63 : a.tmps.getD 63 undef = .string (mkS (bareL (t.zip m))) := hs.dep 23 _ rfl rfl
      have e66 : a.tmps.getD 66 undef = .string (mkS (bareL (t.zip m))) := hs.dep 26 _ rfl rfl
      refine ValWp.pure (v := .bool true) (fun K' hK' => ?_) ⟨rfl, hC, Later.refl _⟩
      simp only [ValWp, execOp, Act.eval, e63, e66]
      go_simp
      all_goals exact hK'
    · -- 28: slot 68 := Op.pick t61 t67 (const (Value.bool false))
      refine fun a w hC hs => .inl ⟨?_, ?_⟩
      · rfl
      have e61 : a.tmps.getD 61 undef = .bool true := hs.dep 21 _ rfl rfl
      have e67 : a.tmps.getD 67 undef = .bool true := hs.dep 27 _ rfl rfl
      refine ValWp.pure (v := .bool true) (fun K' hK' => ?_) ⟨rfl, hC, Later.refl _⟩
      simp only [ValWp, execOp, Act.eval, e61, e67]
      go_simp
      all_goals exact hK'
    · -- 29: slot 69 := Op.move t68
      refine fun a w hC hs => .inl ⟨?_, ?_⟩
      · rfl
      have e68 : a.tmps.getD 68 undef = .bool true := hs.dep 28 _ rfl rfl
      exact ⟨e68, hC, Later.refl _⟩
    · -- 30: slot 70 := Op.call { value (Operand.func 12), args := #[const (Value.slice none 0 0)], argTypes := #[25] } guarded (29, 'true')
      refine fun a w hC hs => .inl ⟨?_, ?_⟩
      · exact (by unfold Region.wanted; dsimp only; rw [yielded_bool (d := 69) rfl (hs.dep 29 _ rfl rfl)]; rfl)
      refine ValWp.call #[.slice none 0 0] rfl rfl Try.func12 rfl rfl (by simp only [List.map_toArray, List.map_cons, List.map_nil, Act.eval]) ?_
      refine (HJ0.out w).mono ?_
      rintro e w' ⟨rfl, hb⟩
      exact ⟨_, rfl, rfl, Later.trans hC hb, hb⟩
    · -- 31: slot 71 := Op.build 23 #[] guarded (29, 'true')
      refine fun a w hC hs => .inl ⟨?_, ?_⟩
      · exact (by unfold Region.wanted; dsimp only; rw [yielded_bool (d := 69) rfl (hs.dep 29 _ rfl rfl)]; rfl)
      refine ValWp.pure (v := .agg #[.string (mkS []), .string (mkS [])]) (fun K' hK' => ?_) ⟨rfl, hC, Later.refl _⟩
      simp only [ValWp, execOp, Act.eval, List.map_toArray, List.map_nil]
      go_simp
      all_goals exact hK'
    · -- 32: slot 72 := Op.binOp BinOp.eql 23 t70 t71 23 guarded (29, 'true')
      refine fun a w hC hs => .inl ⟨?_, ?_⟩
      · exact (by unfold Region.wanted; dsimp only; rw [yielded_bool (d := 69) rfl (hs.dep 29 _ rfl rfl)]; rfl)
      have e70 : a.tmps.getD 70 undef = .agg #[.string (mkS []), .string (mkS [])] := hs.dep 30 _ rfl rfl
      have e71 : a.tmps.getD 71 undef = .agg #[.string (mkS []), .string (mkS [])] := hs.dep 31 _ rfl rfl
      refine ValWp.pure (v := .bool true) (fun K' hK' => ?_) ⟨rfl, hC, Later.refl _⟩
      simp only [ValWp, execOp, Act.eval, e70, e71]
      go_simp
      all_goals exact hK'
    · -- 33: slot 73 := Op.pick t69 t72 (const (Value.bool false))
      refine fun a w hC hs => .inl ⟨?_, ?_⟩
      · rfl
      have e69 : a.tmps.getD 69 undef = .bool true := hs.dep 29 _ rfl rfl
      have e72 : a.tmps.getD 72 undef = .bool true := hs.dep 32 _ rfl rfl
      refine ValWp.pure (v := .bool true) (fun K' hK' => ?_) ⟨rfl, hC, Later.refl _⟩
      simp only [ValWp, execOp, Act.eval, e69, e72]
      go_simp
      all_goals exact hK'
    · -- 34: slot 8 := Op.assign t73
      refine fun a w hC hs => .inl ⟨?_, ?_⟩
      · rfl
      have e73 : a.tmps.getD 73 undef = .bool true := hs.dep 33 _ rfl rfl
      exact ⟨e73, hC, Later.refl _⟩
  · intro a W hC hd hsz hfree hs
    obtain ⟨u0, hu0⟩ : ∃ u, u = a.tmps.getD 0 undef := ⟨_, rfl⟩
    obtain ⟨u1, hu1⟩ : ∃ u, u = a.tmps.getD 1 undef := ⟨_, rfl⟩
    obtain ⟨u2, hu2⟩ : ∃ u, u = a.tmps.getD 2 undef := ⟨_, rfl⟩
    obtain ⟨u3, hu3⟩ : ∃ u, u = a.tmps.getD 3 undef := ⟨_, rfl⟩
    obtain ⟨u4, hu4⟩ : ∃ u, u = a.tmps.getD 4 undef := ⟨_, rfl⟩
    obtain ⟨u5, hu5⟩ : ∃ u, u = a.tmps.getD 5 undef := ⟨_, rfl⟩
    obtain ⟨u6, hu6⟩ : ∃ u, u = a.tmps.getD 6 undef := ⟨_, rfl⟩
    obtain ⟨u7, hu7⟩ : ∃ u, u = a.tmps.getD 7 undef := ⟨_, rfl⟩
    obtain ⟨u9, hu9⟩ : ∃ u, u = a.tmps.getD 9 undef := ⟨_, rfl⟩
    obtain ⟨u10, hu10⟩ : ∃ u, u = a.tmps.getD 10 undef := ⟨_, rfl⟩
    obtain ⟨u11, hu11⟩ : ∃ u, u = a.tmps.getD 11 undef := ⟨_, rfl⟩
    obtain ⟨u12, hu12⟩ : ∃ u, u = a.tmps.getD 12 undef := ⟨_, rfl⟩
    obtain ⟨u13, hu13⟩ : ∃ u, u = a.tmps.getD 13 undef := ⟨_, rfl⟩
    obtain ⟨u14, hu14⟩ : ∃ u, u = a.tmps.getD 14 undef := ⟨_, rfl⟩
    obtain ⟨u15, hu15⟩ : ∃ u, u = a.tmps.getD 15 undef := ⟨_, rfl⟩
    obtain ⟨u16, hu16⟩ : ∃ u, u = a.tmps.getD 16 undef := ⟨_, rfl⟩
    obtain ⟨u17, hu17⟩ : ∃ u, u = a.tmps.getD 17 undef := ⟨_, rfl⟩
    obtain ⟨u18, hu18⟩ : ∃ u, u = a.tmps.getD 18 undef := ⟨_, rfl⟩
    obtain ⟨u19, hu19⟩ : ∃ u, u = a.tmps.getD 19 undef := ⟨_, rfl⟩
    obtain ⟨u20, hu20⟩ : ∃ u, u = a.tmps.getD 20 undef := ⟨_, rfl⟩
    obtain ⟨u21, hu21⟩ : ∃ u, u = a.tmps.getD 21 undef := ⟨_, rfl⟩
    obtain ⟨u22, hu22⟩ : ∃ u, u = a.tmps.getD 22 undef := ⟨_, rfl⟩
    obtain ⟨u23, hu23⟩ : ∃ u, u = a.tmps.getD 23 undef := ⟨_, rfl⟩
    obtain ⟨u24, hu24⟩ : ∃ u, u = a.tmps.getD 24 undef := ⟨_, rfl⟩
    obtain ⟨u25, hu25⟩ : ∃ u, u = a.tmps.getD 25 undef := ⟨_, rfl⟩
    obtain ⟨u26, hu26⟩ : ∃ u, u = a.tmps.getD 26 undef := ⟨_, rfl⟩
    obtain ⟨u27, hu27⟩ : ∃ u, u = a.tmps.getD 27 undef := ⟨_, rfl⟩
    obtain ⟨u28, hu28⟩ : ∃ u, u = a.tmps.getD 28 undef := ⟨_, rfl⟩
    obtain ⟨u29, hu29⟩ : ∃ u, u = a.tmps.getD 29 undef := ⟨_, rfl⟩
    obtain ⟨u30, hu30⟩ : ∃ u, u = a.tmps.getD 30 undef := ⟨_, rfl⟩
    obtain ⟨u31, hu31⟩ : ∃ u, u = a.tmps.getD 31 undef := ⟨_, rfl⟩
    obtain ⟨u32, hu32⟩ : ∃ u, u = a.tmps.getD 32 undef := ⟨_, rfl⟩
    obtain ⟨u33, hu33⟩ : ∃ u, u = a.tmps.getD 33 undef := ⟨_, rfl⟩
    obtain ⟨u34, hu34⟩ : ∃ u, u = a.tmps.getD 34 undef := ⟨_, rfl⟩
    obtain ⟨u35, hu35⟩ : ∃ u, u = a.tmps.getD 35 undef := ⟨_, rfl⟩
    obtain ⟨u36, hu36⟩ : ∃ u, u = a.tmps.getD 36 undef := ⟨_, rfl⟩
    obtain ⟨u37, hu37⟩ : ∃ u, u = a.tmps.getD 37 undef := ⟨_, rfl⟩
    obtain ⟨u38, hu38⟩ : ∃ u, u = a.tmps.getD 38 undef := ⟨_, rfl⟩
    obtain ⟨u39, hu39⟩ : ∃ u, u = a.tmps.getD 39 undef := ⟨_, rfl⟩
    obtain ⟨u40, hu40⟩ : ∃ u, u = a.tmps.getD 40 undef := ⟨_, rfl⟩
    obtain ⟨u41, hu41⟩ : ∃ u, u = a.tmps.getD 41 undef := ⟨_, rfl⟩
    obtain ⟨u42, hu42⟩ : ∃ u, u = a.tmps.getD 42 undef := ⟨_, rfl⟩
    obtain ⟨u43, hu43⟩ : ∃ u, u = a.tmps.getD 43 undef := ⟨_, rfl⟩
    obtain ⟨u44, hu44⟩ : ∃ u, u = a.tmps.getD 44 undef := ⟨_, rfl⟩
    obtain ⟨u45, hu45⟩ : ∃ u, u = a.tmps.getD 45 undef := ⟨_, rfl⟩
    obtain ⟨u46, hu46⟩ : ∃ u, u = a.tmps.getD 46 undef := ⟨_, rfl⟩
    obtain ⟨u47, hu47⟩ : ∃ u, u = a.tmps.getD 47 undef := ⟨_, rfl⟩
    obtain ⟨u48, hu48⟩ : ∃ u, u = a.tmps.getD 48 undef := ⟨_, rfl⟩
    obtain ⟨u49, hu49⟩ : ∃ u, u = a.tmps.getD 49 undef := ⟨_, rfl⟩
    obtain ⟨u50, hu50⟩ : ∃ u, u = a.tmps.getD 50 undef := ⟨_, rfl⟩
    obtain ⟨u51, hu51⟩ : ∃ u, u = a.tmps.getD 51 undef := ⟨_, rfl⟩
    obtain ⟨u52, hu52⟩ : ∃ u, u = a.tmps.getD 52 undef := ⟨_, rfl⟩
    obtain ⟨u53, hu53⟩ : ∃ u, u = a.tmps.getD 53 undef := ⟨_, rfl⟩
    obtain ⟨u54, hu54⟩ : ∃ u, u = a.tmps.getD 54 undef := ⟨_, rfl⟩
    obtain ⟨u55, hu55⟩ : ∃ u, u = a.tmps.getD 55 undef := ⟨_, rfl⟩
    obtain ⟨u56, hu56⟩ : ∃ u, u = a.tmps.getD 56 undef := ⟨_, rfl⟩
    obtain ⟨u57, hu57⟩ : ∃ u, u = a.tmps.getD 57 undef := ⟨_, rfl⟩
    obtain ⟨u58, hu58⟩ : ∃ u, u = a.tmps.getD 58 undef := ⟨_, rfl⟩
    obtain ⟨u59, hu59⟩ : ∃ u, u = a.tmps.getD 59 undef := ⟨_, rfl⟩
    obtain ⟨u60, hu60⟩ : ∃ u, u = a.tmps.getD 60 undef := ⟨_, rfl⟩
    obtain ⟨u61, hu61⟩ : ∃ u, u = a.tmps.getD 61 undef := ⟨_, rfl⟩
    obtain ⟨u62, hu62⟩ : ∃ u, u = a.tmps.getD 62 undef := ⟨_, rfl⟩
    obtain ⟨u63, hu63⟩ : ∃ u, u = a.tmps.getD 63 undef := ⟨_, rfl⟩
    obtain ⟨u64, hu64⟩ : ∃ u, u = a.tmps.getD 64 undef := ⟨_, rfl⟩
    obtain ⟨u65, hu65⟩ : ∃ u, u = a.tmps.getD 65 undef := ⟨_, rfl⟩
    obtain ⟨u66, hu66⟩ : ∃ u, u = a.tmps.getD 66 undef := ⟨_, rfl⟩
    obtain ⟨u67, hu67⟩ : ∃ u, u = a.tmps.getD 67 undef := ⟨_, rfl⟩
    obtain ⟨u68, hu68⟩ : ∃ u, u = a.tmps.getD 68 undef := ⟨_, rfl⟩
    obtain ⟨u69, hu69⟩ : ∃ u, u = a.tmps.getD 69 undef := ⟨_, rfl⟩
    obtain ⟨u70, hu70⟩ : ∃ u, u = a.tmps.getD 70 undef := ⟨_, rfl⟩
    obtain ⟨u71, hu71⟩ : ∃ u, u = a.tmps.getD 71 undef := ⟨_, rfl⟩
    obtain ⟨u72, hu72⟩ : ∃ u, u = a.tmps.getD 72 undef := ⟨_, rfl⟩
    obtain ⟨u73, hu73⟩ : ∃ u, u = a.tmps.getD 73 undef := ⟨_, rfl⟩
    have hal : AllAt a 0 [u0, u1, u2, u3, u4, u5, u6, u7, .bool true, u9, u10, u11, u12, u13, u14, u15, u16, u17, u18, u19, u20, u21, u22, u23, u24, u25, u26, u27, u28, u29, u30, u31, u32, u33, u34, u35, u36, u37, u38, u39, u40, u41, u42, u43, u44, u45, u46, u47, u48, u49, u50, u51, u52, u53, u54, u55, u56, u57, u58, u59, u60, u61, u62, u63, u64, u65, u66, u67, u68, u69, u70, u71, u72, u73] := ⟨hu0.symm, hu1.symm, hu2.symm, hu3.symm, hu4.symm, hu5.symm, hu6.symm, hu7.symm, hs 34 _ rfl, hu9.symm, hu10.symm, hu11.symm, hu12.symm, hu13.symm, hu14.symm, hu15.symm, hu16.symm, hu17.symm, hu18.symm, hu19.symm, hu20.symm, hu21.symm, hu22.symm, hu23.symm, hu24.symm, hu25.symm, hu26.symm, hu27.symm, hu28.symm, hu29.symm, hu30.symm, hu31.symm, hu32.symm, hu33.symm, hu34.symm, hu35.symm, hu36.symm, hu37.symm, hu38.symm, hu39.symm, hu40.symm, hu41.symm, hu42.symm, hu43.symm, hu44.symm, hu45.symm, hu46.symm, hu47.symm, hu48.symm, hu49.symm, hu50.symm, hu51.symm, hu52.symm, hu53.symm, hu54.symm, hu55.symm, hu56.symm, hu57.symm, hu58.symm, hu59.symm, hu60.symm, hu61.symm, hu62.symm, hu63.symm, hu64.symm, hu65.symm, hu66.symm, hu67.symm, hu68.symm, hu69.symm, hu70.symm, hu71.symm, hu72.symm, hu73.symm, trivial⟩
    have hlit := fun h => act_lit hd h hal
    rw [hlit hsz]
    clear hlit hal hd hsz hfree hs hu0 hu1 hu2 hu3 hu4 hu5 hu6 hu7 hu9 hu10 hu11 hu12 hu13 hu14 hu15 hu16 hu17 hu18 hu19 hu20 hu21 hu22 hu23 hu24 hu25 hu26 hu27 hu28 hu29 hu30 hu31 hu32 hu33 hu34 hu35 hu36 hu37 hu38 hu39 hu40 hu41 hu42 hu43 hu44 hu45 hu46 hu47 hu48 hu49 hu50 hu51 hu52 hu53 hu54 hu55 hu56 hu57 hu58 hu59 hu60 hu61 hu62 hu63 hu64 hu65 hu66 hu67 hu68 hu69 hu70 hu71 hu72 hu73

    have HFIN := Lib.hid (HL1.out.trans hC)
    clear hC
    go_wp2
    go_ret
    exact ⟨rfl, HFIN.out⟩
theorem walk (w : World) (x0 : ByteArray) (h0 : x0.size ≤ maxLen) (x1 : ByteArray) (h1 : x1.size ≤ maxLen) (x2 : ByteArray) (h2 : x2.size ≤ maxLen) (x3 : ByteArray) (h3 : x3.size ≤ maxLen) (a : ByteArray) (h4 : a.size ≤ maxLen) (c : Int) (hc : (Lit.int .u8 c).wf = true) :
    Calls Try.prog 4 #[.agg #[.string x0, .string x1], .agg #[.string x2, .string x3], .string a, .int .u8 c] w fun e w' => e = .returned (.bool true) ∧ Below w.heap.size w w' := by
  obtain ⟨c0, c1⟩ := bounds_u8 hc
  have := walk_m w x0.data.toList x1.data.toList x2.data.toList x3.data.toList a.data.toList (UInt8.ofNat c.toNat) h0 h1 h2 h3 h4
  rw [mkS_of, mkS_of, mkS_of, mkS_of, mkS_of, show ((UInt8.ofNat c.toNat).toNat : Int) = c by simp; omega] at this
  exact this
end splitJoins
end Go.Proofs.Ytghdimcdkjlpcaa
