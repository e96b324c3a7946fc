/- A reader is opened; what an expression comes to. No premises. -/
import Derived.Test.YtcidklbeafjmoaaGreatDoorAu
namespace Go.Proofs.YtcidklbeafjmoaaGreatDoor
open Go.RowKit Go.Maps
namespace Ar
/-- The program's two tables, as the call finds them. -/
structure Tb0 (W : World) : Prop where
  lg : ∀ i : Nat, i < 9 → W.cell? ⟨0, i, none⟩ = some (.string (mkS (longs.getD i [])))
  rw : ∃ (ad : Nat → Addr) (cp : Nat → Nat), ∀ i : Nat, i < 10 → W.cell? ⟨1, i, none⟩ = some (.slice (some (ad i)) (rows.getD i []).length (cp i)) ∧ ∀ j : Nat, j < (rows.getD i []).length → W.cell? ((ad i).add j) = some (.string (mkS ((rows.getD i []).getD j [])))
theorem cell_later {W W' : World} {p : Addr} {v : Value} (hl : Later W W') (h : W.cell? p = some v) : W'.cell? p = some v := cell_only (g := p.block + 1) (grown_of_later hl _) (by omega) h
theorem Tb0.later {W W' : World} (h : Tb0 W) (hl : Later W W') : Tb0 W' := by
  obtain ⟨h1, ad, cp, h2⟩ := h
  exact ⟨fun i hi => cell_later hl (h1 i hi), ad, cp, fun i hi => ⟨cell_later hl (h2 i hi).1, fun j hj => cell_later hl ((h2 i hi).2 j hj)⟩⟩
theorem Tb0.at_ {W : World} (h : Tb0 W) {g : Nat} (hg : W.heap.size ≤ g) : Tb W g := by
  obtain ⟨h1, ad, cp, h2⟩ := h
  have a0 := World.block_lt_of_cell? W _ (h1 0 (by omega))
  have a1 := World.block_lt_of_cell? W _ (h2 0 (by omega)).1
  refine ⟨by dsimp only at a0; omega, by dsimp only at a1; omega, h1, ad, cp, fun i hi => ⟨?_, h2 i hi⟩⟩
  have hl : 0 < (rows.getD i []).length := by
    have : ∀ i : Fin 10, 0 < (rows.getD i.1 []).length := by decide
    exact this ⟨i, hi⟩
  have := World.block_lt_of_cell? W _ ((h2 i hi).2 0 hl)
  rw [block_add] at this
  omega
/-- Variables in memory, as the call finds them. -/
def Vars0 (W : World) (v : Value) (vs : Vars) : Prop :=
  ((vs = [] ∧ v = .slice none 0 0) ∨ ∃ b, v = .slice (some ⟨b, 0, none⟩) vs.length vs.length ∧ W.heap[b]? = some (.cells (flat vs).toArray 25 (0, 0))) ∧ (∀ p ∈ vs, p.1.length ≤ 4000 ∧ p.2.length ≤ 4000) ∧ vs.length ≤ 4000
theorem Vars0.later {W W' : World} {v : Value} {vs : Vars} (h : Vars0 W v vs) (hl : Later W W') : Vars0 W' v vs := by
  refine ⟨?_, h.2⟩
  rcases h.1 with h | ⟨b, h1, h2⟩
  · exact .inl h
  · exact .inr ⟨b, h1, later_cells hl h2⟩
theorem Vars0.at_ {W : World} {v : Value} {vs : Vars} (h : Vars0 W v vs) {g : Nat} (hg : W.heap.size ≤ g) : VarsAt W g v vs := by
  rcases h.1 with h | ⟨b, h1, h2⟩
  · exact .inl h
  · exact .inr ⟨b, by have := lt_of_block h2; omega, h1, h2⟩
def st0 (l : L) : St := ⟨[], l, 0, 0, 0⟩
def row0 (l : L) (v : Value) (ma : Nat) : Array Value := #[.string ⟨#[]⟩, .string (mkS l), v, .int .i64 0, .int .i64 0, .int .i64 0, .int .i64 0, .map (some ma), .map none]
theorem opened {W w1 wa w2 : World} {v : Value} {vs : Vars} {l : L} (hT : Tb0 W) (hV : Vars0 W v vs) (hl : l.length ≤ 4000) (ht1 : TabS w1 W.heap.size 30 aheadT) (hl1 : Later W w1) (hwa : wa = w1.alloc (.cells (row0 l v W.heap.size) 44)) (ht2 : TabS w2 (wa.heap.size + 1) 30 (pairT wa.heap.size)) (hl2 : Later wa w2) (hb2 : w2.heap[wa.heap.size]? = some (.cells #[.pointer (some ⟨w1.heap.size, 0, none⟩)] 38 (0, 0))) :
    w2.cell? ⟨w1.heap.size, 8, none⟩ = some (.map none) ∧ w2.frozen? ⟨w1.heap.size, 8, none⟩ = false ∧ RM (w2.setCell ⟨w1.heap.size, 8, none⟩ (.map (some (wa.heap.size + 1)))) w1.heap.size ⟨W.heap.size, wa.heap.size + 1, wa.heap.size, v, vs⟩ (st0 l) ∧ Later W (w2.setCell ⟨w1.heap.size, 8, none⟩ (.map (some (wa.heap.size + 1)))) := by
  have hsz : wa.heap.size = w1.heap.size + 1 := by rw [hwa]; simp
  have hla : Later w1 wa := by rw [hwa]; exact Later.alloc _ _
  have hg0 : wa.heap[w1.heap.size]? = some (.cells (row0 l v W.heap.size) 44 (0, 0)) := by rw [hwa]; exact heap_alloc_new _ _
  have hg := later_cells hl2 hg0
  have hlt1 := ht1.lt
  have hss := set_only w2 w1.heap.size 8 (.map (some (wa.heap.size + 1)))
  have hne1 : some W.heap.size ≠ some w1.heap.size := fun e => by injection e with e; omega
  have hne2 : some (wa.heap.size + 1) ≠ some w1.heap.size := fun e => by injection e with e; omega
  have hLL := hl1.trans (hla.trans hl2)
  have hW1 := hl1.size
  refine ⟨(cell_row hg 8).1, (cell_row hg 8).2, ⟨?_, ⟨?_, ?_, by show W.heap.size ≠ _; omega, by show wa.heap.size + 1 ≠ _; omega, by show wa.heap.size ≠ _; omega, ?_, ?_, hV.2.1, hV.2.2, ?_⟩, Nat.zero_le _, by unfold m st0; simp; exact hl⟩, later_of_new hLL hss (by omega)⟩
  · rw [set_row hg]; rfl
  · exact (ht1.kept (grown_of_later (hla.trans hl2) none) (by simp)).kept hss hne1
  · exact ht2.kept hss hne2
  · exact (hss.block _ (lt_of_block hb2) (fun e => by injection e with e; omega)).trans hb2
  · exact ((hV.later hLL).at_ (g := w2.heap.size) (Nat.le_refl _) |> fun h => by
      rcases (hV.later hLL).1 with h0 | ⟨b, h1, h2⟩
      · exact .inl h0
      · rcases hV.1 with h0 | ⟨b', h1', h2'⟩
        · exact .inl h0
        · have hb := lt_of_block h2'
          have hbb : b' ≠ w1.heap.size := by omega
          exact .inr ⟨b', hbb, h1', (hss.block _ (by have := hLL.size; omega) (fun e => hbb (by injection e))).trans (later_cells hLL h2')⟩)
  · exact ((hT.at_ (g := w1.heap.size) hW1) |> fun h => by
      obtain ⟨n1, n2, _, ad, cp, h4⟩ := h
      have h0 := hT.later hLL
      have hk : Tb w2 w1.heap.size := by
        refine ⟨n1, n2, h0.lg, ad, cp, fun i hi => ⟨(h4 i hi).1, cell_later hLL (h4 i hi).2.1, fun j hj => cell_later hLL ((h4 i hi).2.2 j hj)⟩⟩
      exact hk.kept hss)
set_option maxHeartbeats 3200000 in
set_option maxRecDepth 100000 in
theorem open_v (W : World) (hT : Tb0 W) (v : Value) (vs : Vars) (hV : Vars0 W v vs) (l : L) (hl : l.length ≤ 4000) : Calls Tryz.prog 10 #[.string (mkS l), v] W fun e W' => ∃ g C, e = .returned (.pointer (some ⟨g, 0, none⟩)) ∧ RM W' g C (pass (st0 l)) ∧ C.vs = vs ∧ W.heap.size ≤ g ∧ Later W W' := by
  obtain ⟨A, n, c, rfl⟩ : ∃ A n c, v = .slice A n c := by
    rcases hV.1 with ⟨_, rfl⟩ | ⟨b, rfl, _⟩
    · exact ⟨_, _, _, rfl⟩
    · exact ⟨_, _, _, rfl⟩
  have HT := Lib.hid hT
  have HV := Lib.hid hV
  have HLL := Lib.hid hl
  clear hT hV hl
  go_enter Tryz.func10, Tryz.ntmps10
  go_wp2_with (first
    | (go_at_call 18; (with_reducible refine (alone_v _).mono ?_); rintro e w1 ⟨rfl, ht1, hl1⟩; have HT1 := Lib.hid ht1; have HL1 := Lib.hid hl1; clear ht1 hl1)
    | (go_at_call 19; obtain ⟨wa, hwa⟩ : ∃ wa, wa = w1.alloc (.cells (row0 l (.slice A n c) W.heap.size) 44) := ⟨_, rfl⟩; unfold row0 at hwa; rw [← hwa]; (with_reducible refine (both_v wa _).mono ?_); rintro e w2 ⟨rfl, ht2, hl2, hb2⟩; obtain ⟨q8, z8, h3, hl3⟩ := opened HT.out HV.out HLL.out HT1.out HL1.out hwa ht2 hl2 hb2; have H3 := Lib.hid h3; have HL3 := Lib.hid hl3; clear ht2 hl2 hb2 hwa h3 hl3)
    | (go_at_call 20; (with_reducible refine (pass_v H3.out).mono ?_); rintro e w4 ⟨rfl, h4, g4⟩; have H4 := Lib.hid h4; have G4 := Lib.hid g4; clear h4 g4))
  go_ret
  exact ⟨_, _, rfl, H4.out, rfl, HL1.out.size, later_of_new HL3.out G4.out HL1.out.size⟩
/-- What an expression comes to, and the error. -/
def CE (w0 : World) (ft : Nat) (j : Nat) (_u : Value) (w : World) : Prop := (j = 0 → w = w0.drew) ∧ (1 ≤ j → w = w0.drew.alloc (.cells #[.int .i64 0, .int .i64 (ft : Int)] 27)) ∧ (j = 3 → _u = .int .i64 (ft : Int))
theorem ce_at0 {w0 w : World} {ft : Nat} {u : Value} (h : CE w0 ft 0 u w) : w = w0.drew := h.1 rfl
theorem ce_at1 {w0 w : World} {ft : Nat} {u : Value} (h : CE w0 ft 1 u w) : w = w0.drew.alloc (.cells #[.int .i64 0, .int .i64 (ft : Int)] 27) := h.2.1 (by omega)
theorem ce_at2 {w0 w : World} {ft : Nat} {u : Value} (h : CE w0 ft 2 u w) : w = w0.drew.alloc (.cells #[.int .i64 0, .int .i64 (ft : Int)] 27) := h.2.1 (by omega)
theorem ce_at3 {w0 w : World} {ft : Nat} {u : Value} (h : CE w0 ft 3 u w) : w = w0.drew.alloc (.cells #[.int .i64 0, .int .i64 (ft : Int)] 27) ∧ u = .int .i64 (ft : Int) := ⟨h.2.1 (by omega), h.2.2 rfl⟩
set_option maxHeartbeats 3200000 in
set_option maxRecDepth 100000 in
theorem eval_v (W : World) (hT : Tb0 W) (v : Value) (vs : Vars) (hV : Vars0 W v vs) (l : L) (hl : l.length ≤ 4000) {k : Nat} {n : Int} {t : St} (he : Ex vs k (pass (st0 l)) n t) (ht : t.tok = []) : Calls Tryz.prog 8 #[.string (mkS l), v] W fun e W' => e = .returned (.tuple #[.int .i64 (if t.ft = 0 then n else 0), .int .i64 (t.ft : Int)]) ∧ Later W W' := by
  have HO := Lib.hid (open_v W hT v vs hV l hl)
  have HX := Lib.hid (fun w1 g C (hr : RM w1 g C (pass (st0 l))) (hc : C.vs = vs) => (all_ok k).1 w1 g C _ n t hr (by rw [hc]; exact he))
  have htk := tok_is t.tok [] true (by rw [ht]; rfl)
  obtain ⟨res, hres⟩ : ∃ r, r = (if t.ft = 0 then n else 0) := ⟨_, rfl⟩
  rw [← hres]
  have HRES := Lib.hid hres
  clear hT hV hl he ht hres
  go_enter Tryz.func8, Tryz.ntmps8
  go_wp2_with (first
    | (go_at_call 10; (with_reducible refine HO.out.mono ?_); rintro e w1 ⟨g, C, rfl, h1, hc, hg, hl1⟩; have H1 := Lib.hid h1; have HC := Lib.hid hc; have HG := Lib.hid hg; have HL1 := Lib.hid hl1; clear h1 hc hg hl1)
    | (go_at_call 11; (with_reducible refine (HX.out _ _ _ H1.out HC.out).mono ?_); rintro e w3 ⟨rfl, h3, g3⟩; obtain ⟨⟨c0, c1, c2, c3, c4, c5, c6, c7, c8⟩, hz⟩ := h3.facts; have H3 := Lib.hid h3; have HL3 := Lib.hid (later_of_new HL1.out g3 HG.out); clear h3 g3))
  have H0 := Lib.hid (show CE w3 (t.ft : Nat) 0 undef w3.drew from ⟨fun _ => rfl, fun e => by omega, fun e => by omega⟩)
  have HQ := Lib.hid (show ∀ j u w, CE w3 (t.ft : Nat) j u w → w.cell? ⟨g, 5, none⟩ = some (.int .i64 0) ∧ w.cell? ⟨g, 6, none⟩ = some (.int .i64 (t.ft : Int)) from fun j u w hC => by
    have hl : Later w3 w := by
      rcases Nat.eq_zero_or_pos j with h | h
      · rw [hC.1 h]; exact Later.drew _
      · rw [hC.2.1 h]; exact (Later.drew _).trans (Later.alloc _ _)
    exact ⟨cell_later hl c5, cell_later hl c6⟩)
  have HOR := Lib.hid (show Calls Tryz.prog 13 #[.slice (some ⟨w3.drew.heap.size, 0, none⟩) 2 2] (w3.drew.alloc (.cells #[.int .i64 0, .int .i64 (t.ft : Int)] 27)) (fun e W' => e = .returned (.int .i64 (t.ft : Int)) ∧ W' = w3.drew.alloc (.cells #[.int .i64 0, .int .i64 (t.ft : Int)] 27)) from or_v _ w3.drew.heap.size 0 t.ft (two_cells _ _ _ _ _ rfl).1 (two_cells _ _ _ _ _ rfl).2)
  refine wp_region_seq (by kernel_rfl) [8, 9, 10] (CE w3 (t.ft : Nat)) [some (.pointer (some ⟨g, 0, none⟩)), some (.pointer (some ⟨g, 0, none⟩)), some (.pointer (some ⟨g, 5, none⟩)), some (.int .i64 0), some (.pointer (some ⟨g, 0, none⟩)), some (.pointer (some ⟨g, 0, none⟩)), some (.pointer (some ⟨g, 6, none⟩)), some (.int .i64 (t.ft : Int)), some (.slice (some ⟨w3.drew.heap.size, 0, none⟩) 2 2), some (.int .i64 (t.ft : Int)), none] (by decide) (by decide) (by kernel_rfl) (by kernel_rfl) (H0.out) ?_ ?_
  · refine ⟨?_, ?_, ?_, ?_, ?_, ?_, ?_, ?_, ?_, ?_, ?_, trivial⟩
    · -- 0: slot 21 := Op.move t6
      refine OwesS.q rfl fun a w j u hC hb hs => ⟨rfl, ?_⟩
      have e6 : a.tmps.getD 6 undef = .pointer (some ⟨g, 0, none⟩) := hs.free 6 rfl
      refine ValWp.pure (v := .pointer (some ⟨g, 0, none⟩)) (fun K' hK' => ?_) ⟨rfl, rfl⟩
      simp only [ValWp, execOp, Act.eval, e6]
      go_simp
      all_goals exact hK'
    · -- 1: slot 22 := Op.nilCheck t21
      refine OwesS.q rfl fun a w j u hC hb hs => ⟨rfl, ?_⟩
      have e21 : a.tmps.getD 21 undef = .pointer (some ⟨g, 0, none⟩) := hs.dep 0 _ rfl rfl
      refine ValWp.pure (v := .pointer (some ⟨g, 0, none⟩)) (fun K' hK' => ?_) ⟨rfl, rfl⟩
      simp only [ValWp, execOp, Act.eval, e21]
      go_simp
      all_goals exact hK'
    · -- 2: slot 23 := Op.fieldAddr 44 t22 5
      refine OwesS.q rfl fun a w j u hC hb hs => ⟨rfl, ?_⟩
      have e22 : a.tmps.getD 22 undef = .pointer (some ⟨g, 0, none⟩) := hs.dep 1 _ rfl rfl
      refine ValWp.pure (v := .pointer (some ⟨g, 5, none⟩)) (fun K' hK' => ?_) ⟨rfl, rfl⟩
      simp only [ValWp, execOp, Act.eval, e22]
      go_simp
      all_goals exact hK'
    · -- 3: slot 24 := Op.load 27 t23
      refine OwesS.q rfl fun a w j u hC hb hs => ⟨rfl, ?_⟩
      have e23 : a.tmps.getD 23 undef = .pointer (some ⟨g, 5, none⟩) := hs.dep 2 _ rfl rfl
      have q := HQ.out j u w hC
      obtain ⟨q5, q6⟩ := q
      refine ValWp.pure (v := .int .i64 0) (fun K' hK' => ?_) ⟨rfl, rfl⟩
      simp only [ValWp, execOp, Act.eval, e23]
      go_simp
      all_goals exact hK'
    · -- 4: slot 25 := Op.move t6
      refine OwesS.q rfl fun a w j u hC hb hs => ⟨rfl, ?_⟩
      have e6 : a.tmps.getD 6 undef = .pointer (some ⟨g, 0, none⟩) := hs.free 6 rfl
      refine ValWp.pure (v := .pointer (some ⟨g, 0, none⟩)) (fun K' hK' => ?_) ⟨rfl, rfl⟩
      simp only [ValWp, execOp, Act.eval, e6]
      go_simp
      all_goals exact hK'
    · -- 5: slot 26 := Op.nilCheck t25
      refine OwesS.q rfl fun a w j u hC hb hs => ⟨rfl, ?_⟩
      have e25 : a.tmps.getD 25 undef = .pointer (some ⟨g, 0, none⟩) := hs.dep 4 _ rfl rfl
      refine ValWp.pure (v := .pointer (some ⟨g, 0, none⟩)) (fun K' hK' => ?_) ⟨rfl, rfl⟩
      simp only [ValWp, execOp, Act.eval, e25]
      go_simp
      all_goals exact hK'
    · -- 6: slot 27 := Op.fieldAddr 44 t26 6
      refine OwesS.q rfl fun a w j u hC hb hs => ⟨rfl, ?_⟩
      have e26 : a.tmps.getD 26 undef = .pointer (some ⟨g, 0, none⟩) := hs.dep 5 _ rfl rfl
      refine ValWp.pure (v := .pointer (some ⟨g, 6, none⟩)) (fun K' hK' => ?_) ⟨rfl, rfl⟩
      simp only [ValWp, execOp, Act.eval, e26]
      go_simp
      all_goals exact hK'
    · -- 7: slot 28 := Op.load 27 t27
      refine OwesS.q rfl fun a w j u hC hb hs => ⟨rfl, ?_⟩
      have e27 : a.tmps.getD 27 undef = .pointer (some ⟨g, 6, none⟩) := hs.dep 6 _ rfl rfl
      have q := HQ.out j u w hC
      obtain ⟨q5, q6⟩ := q
      refine ValWp.pure (v := .int .i64 (t.ft : Int)) (fun K' hK' => ?_) ⟨rfl, rfl⟩
      simp only [ValWp, execOp, Act.eval, e27]
      go_simp
      all_goals exact hK'
    · -- 8: slot 29 := Op.buildSlice 55 2 #[(0, t24), (1, t28)]
      refine OwesS.w rfl fun a w u hC hl hs => ⟨rfl, fun K hK => ?_⟩
      have e24 : a.tmps.getD 24 undef = .int .i64 0 := hs.dep 3 _ rfl rfl
      have e28 : a.tmps.getD 28 undef = .int .i64 (t.ft : Int) := hs.dep 7 _ rfl rfl
      have hw := ce_at0 hC
      subst hw
      refine wp_of_val ?_
      refine ValWp.pure (v := .slice (some ⟨w3.drew.heap.size, 0, none⟩) 2 2) (w' := w3.drew.alloc (.cells #[.int .i64 0, .int .i64 (t.ft : Int)] 27)) (fun K' hK' => ?_) (hK _ _ rfl ⟨fun e => absurd e (by decide), fun _ => rfl, fun e => absurd e (by decide)⟩)
      simp only [ValWp, execOp, Act.eval, List.map_toArray, List.map_cons, List.map_nil, e24, e28]
      go_simp
      all_goals exact hK'
    · -- 9: slot 30 := Op.call { value (Operand.func 13), args := #[t29], argTypes := #[55] }
      refine OwesS.w rfl fun a w u hC hl hs => ⟨rfl, fun K hK => ?_⟩
      have e29 : a.tmps.getD 29 undef = .slice (some ⟨w3.drew.heap.size, 0, none⟩) 2 2 := hs.dep 8 _ rfl rfl
      have hw := ce_at1 hC
      subst hw
      refine wp_of_val ?_
      refine ValWp.call #[.slice (some ⟨w3.drew.heap.size, 0, none⟩) 2 2] rfl rfl Tryz.func13 rfl rfl (by simp only [List.map_toArray, List.map_cons, List.map_nil, Act.eval, e29]) ?_
      refine (HOR.out).mono ?_
      rintro e w' ⟨rfl, rfl⟩
      exact ⟨_, rfl, hK _ _ rfl ⟨fun e => absurd e (by decide), fun _ => rfl, fun e => absurd e (by decide)⟩⟩
    · -- 10: slot 8 := Op.assign t30
      refine OwesS.w rfl fun a w u hC hl hs => ⟨rfl, fun K hK => ?_⟩
      have e30 : a.tmps.getD 30 undef = .int .i64 (t.ft : Int) := hs.dep 9 _ rfl rfl
      have hw := ce_at2 hC
      subst hw
      refine wp_of_val ?_
      refine ValWp.pure (v := .int .i64 (t.ft : Int)) (w' := w3.drew.alloc (.cells #[.int .i64 0, .int .i64 (t.ft : Int)] 27)) (fun K' hK' => ?_) (hK _ _ trivial ⟨fun e => absurd e (by decide), fun _ => rfl, fun _ => rfl⟩)
      simp only [ValWp, execOp, Act.eval, e30]
      go_simp
      all_goals exact hK'
  · intro a w u hC hl hd hsz hfree hs
    obtain ⟨u0, hu0⟩ : ∃ u, u = a.tmps.getD 0 undef := ⟨_, rfl⟩
    obtain ⟨u1, hu1⟩ : ∃ u, u = a.tmps.getD 1 undef := ⟨_, rfl⟩
    obtain ⟨u2, hu2⟩ : ∃ u, u = a.tmps.getD 2 undef := ⟨_, rfl⟩
    obtain ⟨u3, hu3⟩ : ∃ u, u = a.tmps.getD 3 undef := ⟨_, rfl⟩
    obtain ⟨u9, hu9⟩ : ∃ u, u = a.tmps.getD 9 undef := ⟨_, rfl⟩
    obtain ⟨u10, hu10⟩ : ∃ u, u = a.tmps.getD 10 undef := ⟨_, rfl⟩
    obtain ⟨u11, hu11⟩ : ∃ u, u = a.tmps.getD 11 undef := ⟨_, rfl⟩
    obtain ⟨u12, hu12⟩ : ∃ u, u = a.tmps.getD 12 undef := ⟨_, rfl⟩
    obtain ⟨u13, hu13⟩ : ∃ u, u = a.tmps.getD 13 undef := ⟨_, rfl⟩
    obtain ⟨u14, hu14⟩ : ∃ u, u = a.tmps.getD 14 undef := ⟨_, rfl⟩
    obtain ⟨u15, hu15⟩ : ∃ u, u = a.tmps.getD 15 undef := ⟨_, rfl⟩
    obtain ⟨u16, hu16⟩ : ∃ u, u = a.tmps.getD 16 undef := ⟨_, rfl⟩
    obtain ⟨u17, hu17⟩ : ∃ u, u = a.tmps.getD 17 undef := ⟨_, rfl⟩
    obtain ⟨u18, hu18⟩ : ∃ u, u = a.tmps.getD 18 undef := ⟨_, rfl⟩
    obtain ⟨u19, hu19⟩ : ∃ u, u = a.tmps.getD 19 undef := ⟨_, rfl⟩
    obtain ⟨u20, hu20⟩ : ∃ u, u = a.tmps.getD 20 undef := ⟨_, rfl⟩
    obtain ⟨u21, hu21⟩ : ∃ u, u = a.tmps.getD 21 undef := ⟨_, rfl⟩
    obtain ⟨u22, hu22⟩ : ∃ u, u = a.tmps.getD 22 undef := ⟨_, rfl⟩
    obtain ⟨u23, hu23⟩ : ∃ u, u = a.tmps.getD 23 undef := ⟨_, rfl⟩
    obtain ⟨u24, hu24⟩ : ∃ u, u = a.tmps.getD 24 undef := ⟨_, rfl⟩
    obtain ⟨u25, hu25⟩ : ∃ u, u = a.tmps.getD 25 undef := ⟨_, rfl⟩
    obtain ⟨u26, hu26⟩ : ∃ u, u = a.tmps.getD 26 undef := ⟨_, rfl⟩
    obtain ⟨u27, hu27⟩ : ∃ u, u = a.tmps.getD 27 undef := ⟨_, rfl⟩
    obtain ⟨u28, hu28⟩ : ∃ u, u = a.tmps.getD 28 undef := ⟨_, rfl⟩
    obtain ⟨u29, hu29⟩ : ∃ u, u = a.tmps.getD 29 undef := ⟨_, rfl⟩
    obtain ⟨u30, hu30⟩ : ∃ u, u = a.tmps.getD 30 undef := ⟨_, rfl⟩
    obtain ⟨u31, hu31⟩ : ∃ u, u = a.tmps.getD 31 undef := ⟨_, rfl⟩
    obtain ⟨u32, hu32⟩ : ∃ u, u = a.tmps.getD 32 undef := ⟨_, rfl⟩
    obtain ⟨u33, hu33⟩ : ∃ u, u = a.tmps.getD 33 undef := ⟨_, rfl⟩
    obtain ⟨u34, hu34⟩ : ∃ u, u = a.tmps.getD 34 undef := ⟨_, rfl⟩
    have hal : AllAt a 0 [u0, u1, u2, u3, .int .i64 0, .int .i64 0, .pointer (some ⟨g, 0, none⟩), .int .i64 n, u, u9, u10, u11, u12, u13, u14, u15, u16, u17, u18, u19, u20, u21, u22, u23, u24, u25, u26, u27, u28, u29, u30, u31, u32, u33, u34] := ⟨hu0.symm, hu1.symm, hu2.symm, hu3.symm, hfree 4 rfl, hfree 5 rfl, hfree 6 rfl, hfree 7 rfl, hl, hu9.symm, hu10.symm, hu11.symm, hu12.symm, hu13.symm, hu14.symm, hu15.symm, hu16.symm, hu17.symm, hu18.symm, hu19.symm, hu20.symm, hu21.symm, hu22.symm, hu23.symm, hu24.symm, hu25.symm, hu26.symm, hu27.symm, hu28.symm, hu29.symm, hu30.symm, hu31.symm, hu32.symm, hu33.symm, hu34.symm, trivial⟩
    have hlit := fun h => act_lit hd h hal
    rw [hlit hsz]
    clear hlit hal hd hsz hfree hs hu0 hu1 hu2 hu3 hu9 hu10 hu11 hu12 hu13 hu14 hu15 hu16 hu17 hu18 hu19 hu20 hu21 hu22 hu23 hu24 hu25 hu26 hu27 hu28 hu29 hu30 hu31 hu32 hu33 hu34
    obtain ⟨hw, hu⟩ := ce_at3 hC
    subst hw hu
    clear hl hC
    by_cases hf : t.ft = 0
    · have HR2 := Lib.hid (HRES.out.trans (if_pos hf))
      have hf2 : ((t.ft : Int) != 0) = false := by rw [hf]; rfl
      have HF := Lib.hid hf
      clear hf
      go_wp2
      go_ret2
      rw [HF.out, HR2.out]
      exact ⟨rfl, HL3.out.trans ((Later.alloc _ _).trans (Later.drew _))⟩
    · have HR2 := Lib.hid (HRES.out.trans (if_neg hf))
      have hf2 : ((t.ft : Int) != 0) = true := by simp; omega
      clear hf
      go_wp2
      go_ret2
      rw [HR2.out]
      exact ⟨rfl, HL3.out.trans ((Later.alloc _ _).trans (Later.drew _))⟩
end Ar
end Go.Proofs.YtcidklbeafjmoaaGreatDoor
