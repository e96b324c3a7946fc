/- THE WALK OF SplitTells: the fields of any row, with any separators, are the document's. No premises. -/
import Derived.Test.YtghdimcdkjlpcaaJaw
namespace Go.Proofs.Ytghdimcdkjlpcaa
open Go.RowKit Go.Maps
namespace Jo
theorem R_load {w : World} {g o : Nat} {t m : L} (c0 : w.cell? ⟨g, o, none⟩ = some (.string (mkS t))) (c1 : w.cell? ⟨g, o + 1, none⟩ = some (.string (mkS m))) : (Instr.loadAt 29 (.pointer (some ⟨g, o, none⟩))).run Try.prog w = .ok (.agg #[.string (mkS t), .string (mkS m)]) w := by
  refine run_loadAt_mid (P := Try.prog) w g o 29 [.string (mkS t), .string (mkS m)] _ (fun j v hv => ?_) Try.underlying29 rfl (by kernel_rfl)
  have hj : j < 2 := (List.getElem?_eq_some_iff.1 hv).1
  match j, hj with
  | 0, _ => cases hv; exact c0
  | 1, _ => cases hv; exact c1
end Jo
namespace splitTells
open Jo
set_option maxRecDepth 100000 in
set_option maxHeartbeats 6400000 in
theorem walk_m (w : World) (t m ifs : L) (h0 : t.length ≤ 9223372036854775807) (h1 : m.length ≤ 9223372036854775807) (h2 : ifs.length ≤ 9223372036854775807) :
    Calls Try.prog 3 #[.agg #[.string (mkS t), .string (mkS m)], .string (mkS ifs)] w fun e w' => e = .returned (.bool true) ∧ Later w w' := by
  have HAW := Lib.hid (fun W => awake_v W)
  have HLA := Lib.hid (Later.alloc w (.cells #[.string (mkS t), .string (mkS m)] 23))
  have HNA := Lib.hid (heap_alloc_new w (.cells #[.string (mkS t), .string (mkS m)] 23))
  have hst : ((mkS t).size : Int) = (t.length : Int) := by rw [mkS_size]
  have hsm : ((mkS m).size : Int) = (m.length : Int) := by rw [mkS_size]
  have hsi : ((mkS ifs).size : Int) = (ifs.length : Int) := by rw [mkS_size]
  have ARMA : True := trivial
  by_cases b0 : t.length > 200
  · have b0' : (200 : Int) < (t.length : Int) := by omega
    clear hsm hsi
    go_enter Try.func3, Try.ntmps3
    go_wp2_with (go_at_call 8; (with_reducible refine (HAW.out _).mono ?_); rintro e w1 ⟨rfl, hl1⟩; (have hb := later_cells hl1 HNA.out); (have c0 : w1.cell? ⟨w.heap.size, 0, none⟩ = some (.string (mkS t)) := (cell_row hb 0).1); (have c1 : w1.cell? ⟨w.heap.size, 1, none⟩ = some (.string (mkS m)) := (cell_row hb 1).1); (have HL1 := Lib.hid (HLA.out.trans hl1)); clear hl1 hb)
    go_ret
    exact ⟨rfl, HL1.out⟩
  have b0' : ¬ (200 : Int) < (t.length : Int) := by omega
  by_cases b1 : m.length > 200
  · have b1' : (200 : Int) < (m.length : Int) := by omega
    clear hsi
    go_enter Try.func3, Try.ntmps3
    go_wp2_with (go_at_call 8; (with_reducible refine (HAW.out _).mono ?_); rintro e w1 ⟨rfl, hl1⟩; (have hb := later_cells hl1 HNA.out); (have c0 : w1.cell? ⟨w.heap.size, 0, none⟩ = some (.string (mkS t)) := (cell_row hb 0).1); (have c1 : w1.cell? ⟨w.heap.size, 1, none⟩ = some (.string (mkS m)) := (cell_row hb 1).1); (have HL1 := Lib.hid (HLA.out.trans hl1)); clear hl1 hb)
    go_ret
    exact ⟨rfl, HL1.out⟩
  have b1' : ¬ (200 : Int) < (m.length : Int) := by omega
  by_cases b2 : ifs.length > 30
  · have b2' : (30 : Int) < (ifs.length : Int) := by omega
    go_enter Try.func3, Try.ntmps3
    go_wp2_with (go_at_call 8; (with_reducible refine (HAW.out _).mono ?_); rintro e w1 ⟨rfl, hl1⟩; (have hb := later_cells hl1 HNA.out); (have c0 : w1.cell? ⟨w.heap.size, 0, none⟩ = some (.string (mkS t)) := (cell_row hb 0).1); (have c1 : w1.cell? ⟨w.heap.size, 1, none⟩ = some (.string (mkS m)) := (cell_row hb 1).1); (have HL1 := Lib.hid (HLA.out.trans hl1)); clear hl1 hb)
    go_ret
    exact ⟨rfl, HL1.out⟩
  have b2' : ¬ (30 : Int) < (ifs.length : Int) := by omega
  have hzl : (t.zip m).length ≤ 200 := by rw [List.length_zip]; omega
  obtain ⟨F, hF⟩ : ∃ F, F = split ifs (t.zip m) := ⟨_, rfl⟩
  have HSP := Lib.hid (fun W => split_v t m ifs W h0 (by omega))
  have HRS := Lib.hid (fun W => rsplit_v t m ifs W (by omega) (by omega))
  rw [← hF] at HSP HRS
  have HFL := Lib.hid (show F.length ≤ 1000 by
    have h := run_len ifs (t.zip m) (t.zip m).length (Nat.le_refl _)
    rw [List.take_of_length_le (Nat.le_refl _)] at h
    rw [hF]; unfold split fin; split <;> simp <;> omega)
  have HOF := Lib.hid (fun W => of_l t m W)
  clear hF b0 b1 b2
  go_enter Try.func3, Try.ntmps3
  go_wp2_with (first
    | (go_at_call 8; (with_reducible refine (HAW.out _).mono ?_); rintro e w1 ⟨rfl, hl1⟩; (have hb := later_cells hl1 HNA.out); (have c0 : w1.cell? ⟨w.heap.size, 0, none⟩ = some (.string (mkS t)) := (cell_row hb 0).1); (have c1 : w1.cell? ⟨w.heap.size, 1, none⟩ = some (.string (mkS m)) := (cell_row hb 1).1); (have HB1 := Lib.hid hb); (have HL1 := Lib.hid (HLA.out.trans hl1)); clear hl1 hb)
    | (go_at_call 9; (with_reducible refine (HSP.out _).mono ?_); rintro e w2 ⟨v, rfl, hl2, ho2⟩; (have hr2 := RdR.of_own ho2); obtain ⟨A, c, hv, hcc⟩ := hr2.le; subst hv; (have hb := later_cells hl2 HB1.out); (have c20 : w2.cell? ⟨w.heap.size, 0, none⟩ = some (.string (mkS t)) := (cell_row hb 0).1); (have c21 : w2.cell? ⟨w.heap.size, 1, none⟩ = some (.string (mkS m)) := (cell_row hb 1).1); (have HR2 := Lib.hid hr2); (have HL2 := Lib.hid (HL1.out.trans hl2)); clear hl2 ho2 hr2 hb)
    | (go_at_call 11; (with_reducible refine (HOF.out _).mono ?_); rintro e w3 ⟨rfl, hl3⟩; (have HLX := Lib.hid hl3.size); (have HR3 := Lib.hid (HR2.out.keep (w' := w3) fun p hp => hl3.cell hp)); (have HL3 := Lib.hid (HL2.out.trans hl3)); clear hl3)
    | (go_at_call 10; (with_reducible refine (HRS.out _).mono ?_); rintro e w4 ⟨v4, rfl, hl4, ho4⟩; (have hr4 := RdR.of_own ho4); obtain ⟨A4, c4, hv4, hcc4⟩ := hr4.le; subst hv4; (have HR4 := Lib.hid hr4); (have HR5 := Lib.hid (HR3.out.keep (w' := w4) fun p hp => hl4.cell (Nat.lt_of_lt_of_le hp HLX.out))); (have HLX4 := Lib.hid (Nat.le_trans HLX.out hl4.size)); (have HL4 := Lib.hid (HL3.out.trans hl4)); clear hl4 ho4 hr4))
  go_loopw [8] (fun s8 wr => ∃ k : Nat, s8 = .int .i64 (k : Int) ∧ k ≤ F.length ∧ Later w4 wr) (fun i _ => F.length - (intOf i).toNat)
  case atStart => exact ⟨0, rfl, Nat.zero_le _, Later.refl _⟩
  case round =>
    obtain ⟨k, rfl, hk, hlw⟩ := hrel
    have HLW := Lib.hid hlw
    have hfl := HFL.out
    clear hlw
    have hk0 : (0 : Int) ≤ (k : Int) := by omega
    by_cases hlt : k < F.length
    · have hk1 : (k : Int) < (F.length : Int) := by omega
      obtain ⟨g, cg, e, hg, hcc1⟩ := HR5.out.at_ (by rw [List.length_map]; omega)
      obtain ⟨g4, cg4, e4, hg4, hcc2⟩ := HR4.out.at_ (by rw [List.length_map]; omega)
      injection e with e _ e2
      injection e4 with e4 _ e42
      subst e e2 e4 e42
      have hkm : k < (F.map pr).length := by rw [List.length_map]; exact hlt
      obtain ⟨x, hx⟩ : ∃ x, x = (F.map pr)[k] := ⟨_, rfl⟩
      have p1 := hcc1 k hkm
      have p2 := hcc2 k hkm
      rw [← hx] at p1 p2
      have ld1 : ∀ w9, Later wr w9 → (Instr.loadAt 23 (.pointer (some ⟨g, k * 2, none⟩))).run Try.prog w9 = .ok (.agg #[.string (mkS x.1), .string (mkS x.2)]) w9 := fun w9 hl => row_load ((hl.cell (p := ⟨g, k * 2, none⟩) (Nat.lt_of_lt_of_le hg (Nat.le_trans HLX4.out HLW.out.size))).trans ((HLW.out.cell (p := ⟨g, k * 2, none⟩) (Nat.lt_of_lt_of_le hg HLX4.out)).trans p1.1)) ((hl.cell (p := ⟨g, k * 2 + 1, none⟩) (Nat.lt_of_lt_of_le hg (Nat.le_trans HLX4.out HLW.out.size))).trans ((HLW.out.cell (p := ⟨g, k * 2 + 1, none⟩) (Nat.lt_of_lt_of_le hg HLX4.out)).trans p1.2))
      have ld2 : ∀ w9, Later wr w9 → (Instr.loadAt 29 (.pointer (some ⟨g4, k * 2, none⟩))).run Try.prog w9 = .ok (.agg #[.string (mkS x.1), .string (mkS x.2)]) w9 := fun w9 hl => R_load ((hl.cell (p := ⟨g4, k * 2, none⟩) (Nat.lt_of_lt_of_le hg4 HLW.out.size)).trans ((HLW.out.cell (p := ⟨g4, k * 2, none⟩) hg4).trans p2.1)) ((hl.cell (p := ⟨g4, k * 2 + 1, none⟩) (Nat.lt_of_lt_of_le hg4 HLW.out.size)).trans ((HLW.out.cell (p := ⟨g4, k * 2 + 1, none⟩) hg4).trans p2.2))
      obtain ⟨C0, hC0⟩ : ∃ C0 : Nat → Value → World → Prop, C0 = fun j _ w9 => (j = 0 ∧ w9 = wr.drew) ∨ (j = 1 ∧ Later wr w9) := ⟨_, rfl⟩
      have H0 := Lib.hid (show C0 0 undef wr.drew by rw [hC0]; exact .inl ⟨rfl, rfl⟩)
      have HCL : ∀ j u w9, C0 j u w9 → Later wr w9 := fun j u w9 hc => by
        rw [hC0] at hc
        rcases hc with ⟨_, rfl⟩ | ⟨_, h⟩
        · exact Later.drew wr
        · exact h
      have HLA1 := Lib.hid (show ∀ (j : Nat) (u : Value) (w9 : World), C0 j u w9 → (Instr.loadAt 23 (.pointer (some ⟨g, k * 2, none⟩))).run Try.prog w9 = .ok (.agg #[.string (mkS x.1), .string (mkS x.2)]) w9 from fun j u w9 hc => ld1 w9 (HCL j u w9 hc))
      have HLA2 := Lib.hid (show ∀ (j : Nat) (u : Value) (w9 : World), C0 j u w9 → (Instr.loadAt 29 (.pointer (some ⟨g4, k * 2, none⟩))).run Try.prog w9 = .ok (.agg #[.string (mkS x.1), .string (mkS x.2)]) w9 from fun j u w9 hc => ld2 w9 (HCL j u w9 hc))
      have HA0 := Lib.hid (show ∀ (u : Value) (w9 : World), C0 0 u w9 → Later wr w9 from fun u w9 hc => HCL 0 u w9 hc)
      have H1 := Lib.hid (show ∀ (w9 w' : World), Later wr w9 → Later w9 w' → ∀ u, C0 1 u w' from fun w9 w' h hl u => by rw [hC0]; exact .inr ⟨rfl, h.trans hl⟩)
      have HE := Lib.hid (show ∀ (u : Value) (w9 : World), C0 1 u w9 → Later wr w9 from fun u w9 hc => HCL 1 u w9 hc)
      have htl : ∀ l : L, (mkS l).toList = l := mkS_toList
      clear hC0 HCL ld1 ld2 hx p1 p2 hcc1 hcc2 hkm
      go_wp2
      refine wp_region_seq (by kernel_rfl) [4] (C0) [some (.slice (some ⟨g, 0, none⟩) F.length c), some (.int .i64 (k : Int)), some (.pointer (some ⟨g, k * 2, none⟩)), some (.agg #[.string (mkS x.1), .string (mkS x.2)]), some (.agg #[.string (mkS x.1), .string (mkS x.2)]), some (.slice (some ⟨g4, 0, none⟩) F.length c4), some (.int .i64 (k : Int)), some (.pointer (some ⟨g4, k * 2, none⟩)), some (.agg #[.string (mkS x.1), .string (mkS x.2)]), some (.bool false)] (by decide) (by decide) (by kernel_rfl) (by kernel_rfl) (H0.out) ?_ ?_
      · refine ⟨?_, ?_, ?_, ?_, ?_, ?_, ?_, ?_, ?_, ?_, trivial⟩
        · -- 0: slot 45 := Op.move t6
          refine OwesS.q rfl fun a w9 j u hC hb hs => ⟨rfl, ?_⟩
          have e6 : a.tmps.getD 6 undef = .slice (some ⟨g, 0, none⟩) F.length c := hs.free 6 rfl
          refine ValWp.pure (v := .slice (some ⟨g, 0, none⟩) F.length c) (fun K' hK' => ?_) ⟨rfl, rfl⟩
          simp only [ValWp, execOp, Act.eval, e6]
          go_simp
          all_goals exact hK'
        · -- 1: slot 46 := Op.move t8
          refine OwesS.q rfl fun a w9 j u hC hb hs => ⟨rfl, ?_⟩
          have e8 : a.tmps.getD 8 undef = .int .i64 (k : Int) := hs.free 8 rfl
          refine ValWp.pure (v := .int .i64 (k : Int)) (fun K' hK' => ?_) ⟨rfl, rfl⟩
          simp only [ValWp, execOp, Act.eval, e8]
          go_simp
          all_goals exact hK'
        · -- 2: slot 47 := Op.indexAddr 25 t45 t46
          refine OwesS.q rfl fun a w9 j u hC hb hs => ⟨rfl, ?_⟩
          have e45 : a.tmps.getD 45 undef = .slice (some ⟨g, 0, none⟩) F.length c := hs.dep 0 _ rfl rfl
          have e46 : a.tmps.getD 46 undef = .int .i64 (k : Int) := hs.dep 1 _ rfl rfl
          refine ValWp.pure (v := .pointer (some ⟨g, k * 2, none⟩)) (fun K' hK' => ?_) ⟨rfl, rfl⟩
          simp only [ValWp, execOp, Act.eval, e45, e46]
          go_simp
          all_goals exact hK'
        · -- 3: slot 48 := Op.load 23 t47
          refine OwesS.q rfl fun a w9 j u hC hb hs => ⟨rfl, ?_⟩
          have e47 : a.tmps.getD 47 undef = .pointer (some ⟨g, k * 2, none⟩) := hs.dep 2 _ rfl rfl
          exact ValWp.loadR rfl e47 (HLA1.out j u w9 hC) ⟨rfl, rfl⟩
        · -- 4: slot 49 := Op.call { value (Operand.func 11), args := #[t48], argTypes := #[23] }
          refine OwesS.w rfl fun a w9 u hC hl hs => ⟨rfl, fun K hK => ?_⟩
          have e48 : a.tmps.getD 48 undef = .agg #[.string (mkS x.1), .string (mkS x.2)] := hs.dep 3 _ rfl rfl
          have hw := HA0.out u w9 hC
          refine wp_of_val (ValWp.call #[.agg #[.string (mkS x.1), .string (mkS x.2)]] rfl rfl Try.func11 rfl rfl (by simp only [List.map_toArray, List.map_cons, List.map_nil, Act.eval, e48]) ?_)
          refine (of_l x.1 x.2 w9).mono ?_
          rintro e w' ⟨rfl, hl⟩
          exact ⟨_, rfl, hK _ _ rfl (H1.out w9 w' hw hl _)⟩
        · -- 5: slot 50 := Op.move t7
          refine OwesS.q rfl fun a w9 j u hC hb hs => ⟨rfl, ?_⟩
          have e7 : a.tmps.getD 7 undef = .slice (some ⟨g4, 0, none⟩) F.length c4 := hs.free 7 rfl
          refine ValWp.pure (v := .slice (some ⟨g4, 0, none⟩) F.length c4) (fun K' hK' => ?_) ⟨rfl, rfl⟩
          simp only [ValWp, execOp, Act.eval, e7]
          go_simp
          all_goals exact hK'
        · -- 6: slot 51 := Op.move t8
          refine OwesS.q rfl fun a w9 j u hC hb hs => ⟨rfl, ?_⟩
          have e8 : a.tmps.getD 8 undef = .int .i64 (k : Int) := hs.free 8 rfl
          refine ValWp.pure (v := .int .i64 (k : Int)) (fun K' hK' => ?_) ⟨rfl, rfl⟩
          simp only [ValWp, execOp, Act.eval, e8]
          go_simp
          all_goals exact hK'
        · -- 7: slot 52 := Op.indexAddr 27 t50 t51
          refine OwesS.q rfl fun a w9 j u hC hb hs => ⟨rfl, ?_⟩
          have e50 : a.tmps.getD 50 undef = .slice (some ⟨g4, 0, none⟩) F.length c4 := hs.dep 5 _ rfl rfl
          have e51 : a.tmps.getD 51 undef = .int .i64 (k : Int) := hs.dep 6 _ rfl rfl
          refine ValWp.pure (v := .pointer (some ⟨g4, k * 2, none⟩)) (fun K' hK' => ?_) ⟨rfl, rfl⟩
          simp only [ValWp, execOp, Act.eval, e50, e51]
          go_simp
          all_goals exact hK'
        · -- 8: slot 53 := Op.load 29 t52
          refine OwesS.q rfl fun a w9 j u hC hb hs => ⟨rfl, ?_⟩
          have e52 : a.tmps.getD 52 undef = .pointer (some ⟨g4, k * 2, none⟩) := hs.dep 7 _ rfl rfl
          exact ValWp.loadR rfl e52 (HLA2.out j u w9 hC) ⟨rfl, rfl⟩
        · -- 9: slot 54 := Op.binOp BinOp.neq 29 t49 t53 29
          refine OwesS.q rfl fun a w9 j u hC hb hs => ⟨rfl, ?_⟩
          have e49 : a.tmps.getD 49 undef = .agg #[.string (mkS x.1), .string (mkS x.2)] := hs.dep 4 _ rfl rfl
          have e53 : a.tmps.getD 53 undef = .agg #[.string (mkS x.1), .string (mkS x.2)] := hs.dep 8 _ rfl rfl
          refine ValWp.pure (v := .bool false) (fun K' hK' => ?_) ⟨rfl, rfl⟩
          simp only [ValWp, execOp, Act.eval, e49, e53]
          go_simp
          all_goals exact hK'
      · intro a w9 u hC hl hd hsz hfree hs
        obtain ⟨u45, hu45⟩ : ∃ u, u = a.tmps.getD 45 undef := ⟨_, rfl⟩
        obtain ⟨u46, hu46⟩ : ∃ u, u = a.tmps.getD 46 undef := ⟨_, rfl⟩
        obtain ⟨u47, hu47⟩ : ∃ u, u = a.tmps.getD 47 undef := ⟨_, rfl⟩
        obtain ⟨u48, hu48⟩ : ∃ u, u = a.tmps.getD 48 undef := ⟨_, rfl⟩
        obtain ⟨u49, hu49⟩ : ∃ u, u = a.tmps.getD 49 undef := ⟨_, rfl⟩
        obtain ⟨u50, hu50⟩ : ∃ u, u = a.tmps.getD 50 undef := ⟨_, rfl⟩
        obtain ⟨u51, hu51⟩ : ∃ u, u = a.tmps.getD 51 undef := ⟨_, rfl⟩
        obtain ⟨u52, hu52⟩ : ∃ u, u = a.tmps.getD 52 undef := ⟨_, rfl⟩
        obtain ⟨u53, hu53⟩ : ∃ u, u = a.tmps.getD 53 undef := ⟨_, rfl⟩
        have hal : AllAt a 0 [_, _, _, _, _, _, _, _, _, _, _, _, _, _, _, _, _, _, _, _, _, _, _, _, _, _, _, _, _, _, _, _, _, _, _, _, _, _, _, _, _, _, _, _, _, u45, u46, u47, u48, u49, u50, u51, u52, u53, .bool false] := ⟨hfree 0 rfl, hfree 1 rfl, hfree 2 rfl, hfree 3 rfl, hfree 4 rfl, hfree 5 rfl, hfree 6 rfl, hfree 7 rfl, hfree 8 rfl, hfree 9 rfl, hfree 10 rfl, hfree 11 rfl, hfree 12 rfl, hfree 13 rfl, hfree 14 rfl, hfree 15 rfl, hfree 16 rfl, hfree 17 rfl, hfree 18 rfl, hfree 19 rfl, hfree 20 rfl, hfree 21 rfl, hfree 22 rfl, hfree 23 rfl, hfree 24 rfl, hfree 25 rfl, hfree 26 rfl, hfree 27 rfl, hfree 28 rfl, hfree 29 rfl, hfree 30 rfl, hfree 31 rfl, hfree 32 rfl, hfree 33 rfl, hfree 34 rfl, hfree 35 rfl, hfree 36 rfl, hfree 37 rfl, hfree 38 rfl, hfree 39 rfl, hfree 40 rfl, hfree 41 rfl, hfree 42 rfl, hfree 43 rfl, hfree 44 rfl, hu45.symm, hu46.symm, hu47.symm, hu48.symm, hu49.symm, hu50.symm, hu51.symm, hu52.symm, hu53.symm, hs 9 _ rfl, trivial⟩
        have hlit := fun h => act_lit hd h hal
        rw [hlit hsz]
        simp only [Array.getD_eq_getD_getElem?, List.getElem?_toArray, List.getElem?_cons_zero, List.getElem?_cons_succ, Option.getD_some]
        clear hlit hal hd hsz hfree hs hu45 hu46 hu47 hu48 hu49 hu50 hu51 hu52 hu53
        have HFIN := Lib.hid (HE.out u w9 hC)
        clear hC hl
        go_wp2
        go_roundw
        case rel => exact ⟨k + 1, by go_num, by omega, HLW.out.trans HFIN.out⟩
        case measure => simp [intOf]; omega
    · go_wp2
      go_ret
      exact ⟨rfl, HL4.out.trans HLW.out⟩
theorem walk (w : World) (x0 : ByteArray) (h0 : x0.size ≤ maxLen) (x1 : ByteArray) (h1 : x1.size ≤ maxLen) (a : ByteArray) (h2 : a.size ≤ maxLen) :
    Calls Try.prog 3 #[.agg #[.string x0, .string x1], .string a] w fun e w' => e = .returned (.bool true) ∧ Below w.heap.size w w' := by
  have := walk_m w x0.data.toList x1.data.toList a.data.toList h0 h1 h2
  rw [mkS_of, mkS_of, mkS_of] at this
  exact this
end splitTells
end Go.Proofs.Ytghdimcdkjlpcaa
