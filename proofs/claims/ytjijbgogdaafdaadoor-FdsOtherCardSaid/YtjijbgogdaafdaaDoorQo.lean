/- Show. Behind the powers of ten. -/
import Derived.Test.YtjijbgogdaafdaaDoorQn
namespace Go.Proofs.YtjijbgogdaafdaaDoor
open Go.RowKit Go.Maps
namespace Fd
set_option maxRecDepth 100000
abbrev Tb (w : World) : Prop := Lib.TabIs Tryd.prog w "internal/strconv.uint64pow10" .u64 Lib.pow10Tab
theorem Tb.later {w w' : World} (h : Tb w) (hb : Later w w') : Tb w' := by
  have hg : Tryd.prog.globalNamed "internal/strconv.uint64pow10" = some 0 := by kernel_rfl
  unfold Tb Lib.TabIs World.var? at h ⊢
  rw [hg] at h ⊢
  simp only [Option.bind_some] at h ⊢
  have hlt : 0 < w.heap.size := by
    rcases Nat.lt_or_ge 0 w.heap.size with h' | h'
    · exact h'
    · rw [Array.getElem?_eq_none h'] at h; cases h
  rw [hb.block _ hlt]
  exact h
theorem later_grow (w : World) (k : Nat) (os : Array Obj) : Later w (Sort.grow (w.drewN k) os) :=
  ⟨rfl, rfl, rfl, by simp [Sort.grow, World.drewN], fun i hi => by
    show (w.heap ++ os)[i]? = w.heap[i]?
    exact Array.getElem?_append_left hi⟩
theorem itoa_v (x : Int) (h : In x) (w : World) (ht : Tb w) : Calls Tryd.prog 22 #[.int .i64 x] w fun e w' => e = .returned (.string (mkS (Lib.itoa x))) ∧ Later w w' := by
  refine (Tryd.strconv_Itoa x h.1 h.2 w ht).mono ?_
  rintro e w1 ⟨rfl, k, os, rfl⟩
  exact ⟨rfl, later_grow w k os⟩
theorem fmt_v (x : Int) (h : In x) (w : World) (ht : Tb w) : Calls Tryd.prog 23 #[.int .i64 x, .int .i64 10] w fun e w' => e = .returned (.string (mkS (Lib.itoa x))) ∧ Later w w' := by
  refine (Tryd.strconv_FormatInt_10 x h.1 h.2 w ht).mono ?_
  rintro e w1 ⟨rfl, k, os, rfl⟩
  exact ⟨rfl, later_grow w k os⟩
theorem info_str : (Tryd.prog.info? 9).map (fun i => (i.zero, i.size, i.bytes)) = some (some (.string ⟨#[]⟩), 1, 16) := by kernel_rfl
/-- Texts that are made, one by one. -/
def tx (l : Ps) (i : Nat) : List Value := ((l.take i).map fun p => .string (mkS (one p))) ++ List.replicate (l.length - i) (.string ⟨#[]⟩)
theorem tx_len (l : Ps) {i : Nat} (h : i ≤ l.length) : (tx l i).length = l.length := by unfold tx; rw [List.length_append, List.length_map, List.length_take, List.length_replicate]; omega
theorem tx_step {l : Ps} {i : Nat} (h : i < l.length) : (tx l i).set i (.string (mkS (one l[i]))) = tx l (i + 1) := by
  have h1 : ((l.take i).map fun p => Value.string (mkS (one p))).length = i := by rw [List.length_map, List.length_take]; omega
  unfold tx
  rw [List.set_append_right _ _ (by omega), h1, Nat.sub_self, List.take_succ_eq_append_getElem h, List.map_append, List.append_assoc]
  have : l.length - i = (l.length - (i + 1)) + 1 := by omega
  rw [this, List.replicate_succ, List.set_cons_zero]
  rfl
theorem tx_some {l : Ps} {i : Nat} (h : i < l.length) : ∃ s, (tx l i)[i]? = some (.string s) := by
  have h1 : ((l.take i).map fun p => Value.string (mkS (one p))).length = i := by rw [List.length_map, List.length_take]; omega
  unfold tx
  rw [List.getElem?_append_right (by omega), h1, Nat.sub_self, List.getElem?_replicate, if_pos (by omega)]
  exact ⟨_, rfl⟩
def TxB (w : World) (g : Nat) (l : Ps) (i : Nat) : Prop := w.heap[g]? = some (.cells (tx l i).toArray 9 (0, 0))
theorem TxB.put {w : World} {g : Nat} {l : Ps} {i : Nat} (h : TxB w g l i) (hi : i < l.length) : TxB (w.setCell ⟨g, i, none⟩ (.string (mkS (one l[i])))) g l (i + 1) := by
  unfold TxB
  rw [set_row h, ← tx_step hi]
  simp
set_option maxHeartbeats 12800000 in
theorem show_v (v : Value) (l : Ps) (W : World) (hp : RdP W W.heap.size v l) (ho : Ok l) (hn : l.length ≤ 100000) (hT : Tb W) : Calls Tryd.prog 13 #[v] W fun e W' => e = .returned (.string (mkS (text l))) ∧ Later W W' := by
  have HP := Lib.hid (And.intro hp ho)
  have HTB := Lib.hid hT
  obtain ⟨A, c, rfl, hc1, hc2, _⟩ := hp.le
  obtain ⟨n, hnn⟩ : ∃ n, n = l.length := ⟨_, rfl⟩
  rw [← hnn] at hc1 hn ⊢
  have HN := Lib.hid hnn
  obtain ⟨i0, hif, hz0, hz1, hz2⟩ := info_parts info_str
  obtain ⟨W2, hW2⟩ : ∃ W2, W2 = W.alloc (.cells (madeCells (Value.string ⟨#[]⟩).cells (n * 1)) 9) := ⟨_, rfl⟩
  have hmk : (Instr.makeSlice 53 (.int .i64 (n : Int)) (.int .i64 (n : Int))).run Tryd.prog W = .ok (.slice (some ⟨W.heap.size, 0, none⟩) n n) W2 := by
    have := run_make (P := Tryd.prog) W 53 9 i0 _ Tryd.underlying53 hif hz0 .i64 .i64 (n : Int) (n : Int) (by omega) (by omega) (by rw [hz2]; omega) (by omega)
    rw [hz1] at this
    simpa [hW2] using this
  have hpr : TxB W2 W.heap.size l 0 := by
    unfold TxB
    rw [hW2, heap_alloc_new W]
    congr 2
    apply Array.ext'
    unfold tx
    rw [List.take_zero, List.map_nil, List.nil_append, Nat.sub_zero, ← hnn]
    apply List.ext_getElem?
    intro j
    show (madeCells (Value.string ⟨#[]⟩).cells (n * 1)).toList[j]? = (List.replicate n (Value.string ⟨#[]⟩))[j]?
    rw [Array.getElem?_toList, List.getElem?_replicate]
    by_cases hj : j < n
    · rw [Array.getElem?_eq_getElem (by rw [size_madeCells]; omega), if_pos hj]
      simp [madeCells, Value.cells, Nat.mod_one]
    · rw [Array.getElem?_eq_none (by rw [size_madeCells]; omega), if_neg hj]
  have HPR := Lib.hid hpr
  have HLA := Lib.hid (show Later W W2 by rw [hW2]; exact Later.alloc _ _)
  clear hp hnn ho hT hpr hW2
  go_enter Tryd.func13, Tryd.ntmps13
  go_wp2_with fail
  clear hmk
  go_loopw [11] (fun s11 wr => ∃ i : Nat, s11 = .int .i64 (i : Int) ∧ i ≤ n ∧ Hid (TxB wr W.heap.size l i ∧ Later W wr)) (fun i _ => n - (intOf i).toNat)
  case atStart => exact ⟨0, rfl, Nat.zero_le _, Lib.hid ⟨HPR.out, HLA.out⟩⟩
  case round =>
    obtain ⟨i, rfl, hi, HL⟩ := hrel
    have hi0 : (0 : Int) ≤ (i : Int) := by omega
    by_cases hlt : i < n
    · have hlt1 : (i : Int) < (n : Int) := by omega
      have hml : i < l.length := by rw [← HN.out]; exact hlt
      obtain ⟨g, o, c', e1, hg, hcc⟩ := HP.out.1.at_ (by omega)
      injection e1 with e1 _ e2
      subst e1 e2
      obtain ⟨p, hp⟩ : ∃ p, p = l[i] := ⟨_, rfl⟩
      obtain ⟨p1, hp1⟩ : ∃ p1, p1 = p.1 := ⟨_, rfl⟩
      obtain ⟨p2, hp2⟩ : ∃ p2, p2 = p.2 := ⟨_, rfl⟩
      have q1 := (HL.out.2.cell (p := ⟨g, o + i * 2, none⟩) hg).trans (hcc i hml).1
      have q2 := (HL.out.2.cell (p := ⟨g, o + i * 2 + 1, none⟩) hg).trans (hcc i hml).2
      rw [← hp, ← hp1] at q1
      rw [← hp, ← hp2] at q2
      have HLD := Lib.hid (load_pair 44 _ Tryd.underlying44 (by kernel_rfl) q1 q2)
      have hok := HP.out.2 l[i] (List.getElem_mem hml)
      rw [← hp, ← hp1, ← hp2] at hok
      obtain ⟨ia, hia⟩ : ∃ ia, ia = Lib.itoa p1 := ⟨_, rfl⟩
      obtain ⟨ib, hib⟩ : ∃ ib, ib = Lib.itoa p2 := ⟨_, rfl⟩
      have hla := itoa_len hok.1
      have hlb := itoa_len hok.2
      obtain ⟨i1, hi1⟩ : ∃ i1, i1 = ia ++ [61] := ⟨_, rfl⟩
      obtain ⟨i2, hi2⟩ : ∃ i2, i2 = i1 ++ ib := ⟨_, rfl⟩
      have HONE := Lib.hid (show one l[i] = i2 by unfold one; rw [hi2, hi1, hia, hib, hp1, hp2, hp]; simp)
      rw [← hia] at hla
      rw [← hib] at hlb
      have hl1 : i1.length ≤ 21 := by rw [hi1, List.length_append]; simp; omega
      have HZ1 := Lib.hid (show (¬ 9223372036854775807 < (mkS ia).size + 1) ∧ mkS ia ++ (⟨#[61]⟩ : ByteArray) = mkS i1 from ⟨by rw [mkS_size]; omega, by rw [hi1]; exact mkS_add ia [61]⟩)
      have HZ2 := Lib.hid (show (¬ 9223372036854775807 < (mkS i1).size + (mkS ib).size) ∧ mkS i1 ++ mkS ib = mkS i2 from ⟨by rw [mkS_size, mkS_size]; omega, by rw [hi2]; exact mkS_add i1 ib⟩)
      have HOK := Lib.hid hok
      have HIA := Lib.hid (And.intro hia hib)
      have HML := Lib.hid hml
      have HO1 := Lib.hid (show (#[Value.int .i64 p1, Value.int .i64 p2] : Array Value).all (·.oneCell') = true by simp [Value.oneCell'])
      have HI2 := Lib.hid (show (Tryd.prog.info? 44).map (·.size) = some (#[Value.int .i64 p1, Value.int .i64 p2] : Array Value).size from (show (Tryd.prog.info? 44).map (·.size) = some 2 by kernel_rfl))
      clear hcc hp hp1 hp2 hok hia hib hla hlb hg q1 q2 hi1 hi2 hl1 hif hz0 hz1 hz2
      go_wp2_with (first
        | (refine wpList_loadRun rfl 44 (.tmp 14) rfl _ _ rfl HLD.out ?_)
        | (refine wpList_allocO 5 rfl rfl 44 rfl #[.int .i64 0, .int .i64 0] 2 (by kernel_rfl) ?_; intro w2 hb2 hl2 hz2; (have HB2 := Lib.hid hb2); (have HL2 := Lib.hid hl2); clear hb2 hl2 hz2)
        | (refine wpList_storeO rfl 44 (.tmp 5) (.tmp 15) rfl wr.heap.size _ #[.int .i64 p1, .int .i64 p2] rfl rfl HB2.out HI2.out rfl HO1.out ?_; intro w3 hb3 hg3 hz3; (have HB3 := Lib.hid hb3); (have HL3 := Lib.hid (later_of_new HL2.out hg3 (Nat.le_refl _))); clear hb3 hg3 hz3))
      have HG := Lib.hid (lt_of_block HL.out.1)
      obtain ⟨C0, hC0⟩ : ∃ C0 : Nat → Value → World → Prop, C0 = fun j _ w => (j ≤ 2 ∧ Later w3 w) ∨ (j = 3 ∧ ∃ w1, Later w3 w1 ∧ w = w1.setCell ⟨W.heap.size, i, none⟩ (.string (mkS i2))) := ⟨_, rfl⟩
      have HC0 := Lib.hid (show C0 0 undef w3.drew by rw [hC0]; exact .inl ⟨by omega, Later.drew w3⟩)
      have HC1 := Lib.hid (show ∀ j u w, C0 j u w → j ≤ 2 → Later w3 w from fun j u w hc hj => by
        rw [hC0] at hc
        rcases hc with ⟨_, h⟩ | ⟨h, _⟩
        · exact h
        · omega)
      have HC2 := Lib.hid (show ∀ j u w, j ≤ 2 → Later w3 w → C0 j u w from fun j u w hj h => by rw [hC0]; exact .inl ⟨hj, h⟩)
      have HTX := Lib.hid (show ∀ w, Later w3 w → TxB w W.heap.size l i from fun w h => later_cells (HL3.out.trans h) HL.out.1)
      have HC3 := Lib.hid (show ∀ u w, C0 2 u w → (∃ xv, w.cell? ⟨W.heap.size, i, none⟩ = some (.string xv)) ∧ Later w3 w from fun u w hc => by
        have h := HC1.out 2 u w hc (Nat.le_refl _)
        refine ⟨?_, h⟩
        obtain ⟨s, hs⟩ := tx_some HML.out
        exact ⟨s, by rw [(cell_row (HTX.out w h) _).1]; simpa using hs⟩)
      have HC4 := Lib.hid (show ∀ w, Later w3 w → w.frozen? ⟨W.heap.size, i, none⟩ = false from fun w h => (cell_row (HTX.out w h) _).2)
      have HC5 := Lib.hid (show ∀ u w, Later w3 w → C0 3 u (w.setCell ⟨W.heap.size, i, none⟩ (.string (mkS i2))) from fun u w h => by rw [hC0]; exact .inr ⟨rfl, w, h, rfl⟩)
      have HC6 := Lib.hid (show ∀ u w, C0 3 u w → TxB w W.heap.size l (i + 1) ∧ Later W w from fun u w hc => by
        rw [hC0] at hc
        rcases hc with ⟨h, _⟩ | ⟨_, w1, h, rfl⟩
        · omega
        · have h1 := (HTX.out w1 h).put HML.out
          rw [HONE.out] at h1
          exact ⟨h1, later_of_new (HL.out.2.trans (HL3.out.trans h)) (set_only _ _ _ _) (Nat.le_refl _)⟩)
      have HBX := Lib.hid (show ∀ w, Later w3 w → w.cell? ⟨wr.heap.size, 0, none⟩ = some (.int .i64 p1) ∧ w.cell? ⟨wr.heap.size, 1, none⟩ = some (.int .i64 p2) from fun w h => ⟨(cell_row (later_cells h HB3.out) 0).1, (cell_row (later_cells h HB3.out) 1).1⟩)
      have HNA := Lib.hid (show ∀ w, Later w3 w → Calls Tryd.prog 22 #[.int .i64 p1] w fun e w' => e = .returned (.string (mkS ia)) ∧ Later w w' from fun w h => by rw [HIA.out.1]; exact itoa_v p1 HOK.out.1 w (HTB.out.later (HL.out.2.trans (HL3.out.trans h))))
      have HNB := Lib.hid (show ∀ w, Later w3 w → Calls Tryd.prog 23 #[.int .i64 p2, .int .i64 10] w fun e w' => e = .returned (.string (mkS ib)) ∧ Later w w' from fun w h => by rw [HIA.out.2]; exact fmt_v p2 HOK.out.2 w (HTB.out.later (HL.out.2.trans (HL3.out.trans h))))
      clear hC0
      refine wp_region_seq (by kernel_rfl) [4, 8, 11] (C0) [some (.slice (some ⟨W.heap.size, 0, none⟩) n n), some (.int .i64 (i : Int)), some (.pointer (some ⟨wr.heap.size, 0, none⟩)), some (.int .i64 p1), some (.string (mkS ia)), some (.string (mkS i1)), some (.pointer (some ⟨wr.heap.size, 1, none⟩)), some (.int .i64 p2), some (.string (mkS ib)), some (.string (mkS i2)), some (.pointer (some ⟨W.heap.size, i, none⟩)), none] (by decide) (by decide) (by kernel_rfl) (by kernel_rfl) (HC0.out) ?_ ?_
      · refine ⟨?_, ?_, ?_, ?_, ?_, ?_, ?_, ?_, ?_, ?_, ?_, ?_, trivial⟩
        · -- 0: slot 16 := Op.move t3
          refine OwesS.q rfl fun a w j u hC hb hs => ⟨rfl, ?_⟩
          have e3 : a.tmps.getD 3 undef = .slice (some ⟨W.heap.size, 0, none⟩) n n := hs.free 3 rfl
          refine ValWp.pure (v := .slice (some ⟨W.heap.size, 0, none⟩) n n) (fun K' hK' => ?_) ⟨rfl, rfl⟩
          simp only [ValWp, execOp, Act.eval, e3]
          go_simp
          all_goals exact hK'
        · -- 1: slot 17 := Op.move t4
          refine OwesS.q rfl fun a w j u hC hb hs => ⟨rfl, ?_⟩
          have e4 : a.tmps.getD 4 undef = .int .i64 (i : Int) := hs.free 4 rfl
          refine ValWp.pure (v := .int .i64 (i : Int)) (fun K' hK' => ?_) ⟨rfl, rfl⟩
          simp only [ValWp, execOp, Act.eval, e4]
          go_simp
          all_goals exact hK'
        · -- 2: slot 18 := Op.fieldAddr 44 t5 0
          refine OwesS.q rfl fun a w j u hC hb hs => ⟨rfl, ?_⟩
          have e5 : a.tmps.getD 5 undef = .pointer (some ⟨wr.heap.size, 0, none⟩) := hs.free 5 rfl
          refine ValWp.pure (v := .pointer (some ⟨wr.heap.size, 0, none⟩)) (fun K' hK' => ?_) ⟨rfl, rfl⟩
          simp only [ValWp, execOp, Act.eval, e5]
          go_simp
          all_goals exact hK'
        · -- 3: slot 19 := Op.load 3 t18
          refine OwesS.q rfl fun a w j u hC hb hs => ⟨rfl, ?_⟩
          have e18 : a.tmps.getD 18 undef = .pointer (some ⟨wr.heap.size, 0, none⟩) := hs.dep 2 _ rfl rfl
          have hj := hb 0 4 rfl rfl
          have q0 := (HBX.out w (HC1.out j u w hC (by omega))).1
          refine ValWp.pure (v := .int .i64 p1) (fun K' hK' => ?_) ⟨rfl, rfl⟩
          simp only [ValWp, execOp, Act.eval, e18]
          go_simp
          all_goals exact hK'
        · -- 4: slot 20 := Op.call { value (Operand.func 22), args := #[t19], argTypes := #[3] }
          refine OwesS.w rfl fun a w u hC hl hs => ⟨rfl, fun K hK => ?_⟩
          have e19 : a.tmps.getD 19 undef = .int .i64 p1 := hs.dep 3 _ rfl rfl
          have hl0 := HC1.out _ u w hC (by decide)
          refine wp_of_val ?_
          refine ValWp.call #[.int .i64 p1] rfl rfl Tryd.func22 rfl rfl (by simp only [List.map_toArray, List.map_cons, List.map_nil, Act.eval, e19]) ?_
          refine (HNA.out w hl0).mono ?_
          rintro e w' ⟨rfl, hb⟩
          exact ⟨_, rfl, hK _ _ rfl (HC2.out 1 _ w' (by omega) (Later.trans hl0 hb))⟩
        · -- 5: slot 21 := Op.binOp BinOp.add 9 t20 (const (Value.string { data := #[61] })) 9
          refine OwesS.q rfl fun a w j u hC hb hs => ⟨rfl, ?_⟩
          have e20 : a.tmps.getD 20 undef = .string (mkS ia) := hs.dep 4 _ rfl rfl
          have hz := HZ1.out.1
          have hq := HZ1.out.2
          refine ValWp.pure (v := .string (mkS i1)) (fun K' hK' => ?_) ⟨rfl, rfl⟩
          simp only [ValWp, execOp, Act.eval, e20]
          go_simp
          all_goals exact hK'
        · -- 6: slot 22 := Op.fieldAddr 44 t5 1
          refine OwesS.q rfl fun a w j u hC hb hs => ⟨rfl, ?_⟩
          have e5 : a.tmps.getD 5 undef = .pointer (some ⟨wr.heap.size, 0, none⟩) := hs.free 5 rfl
          refine ValWp.pure (v := .pointer (some ⟨wr.heap.size, 1, none⟩)) (fun K' hK' => ?_) ⟨rfl, rfl⟩
          simp only [ValWp, execOp, Act.eval, e5]
          go_simp
          all_goals exact hK'
        · -- 7: slot 23 := Op.load 2 t22
          refine OwesS.q rfl fun a w j u hC hb hs => ⟨rfl, ?_⟩
          have e22 : a.tmps.getD 22 undef = .pointer (some ⟨wr.heap.size, 1, none⟩) := hs.dep 6 _ rfl rfl
          have hj := hb 1 8 rfl rfl
          have q0 := (HBX.out w (HC1.out j u w hC (by omega))).2
          refine ValWp.pure (v := .int .i64 p2) (fun K' hK' => ?_) ⟨rfl, rfl⟩
          simp only [ValWp, execOp, Act.eval, e22]
          go_simp
          all_goals exact hK'
        · -- 8: slot 24 := Op.call { value (Operand.func 23), args := #[t23, const (10:i64)], argTypes := #[2, 3] }
          refine OwesS.w rfl fun a w u hC hl hs => ⟨rfl, fun K hK => ?_⟩
          have e23 : a.tmps.getD 23 undef = .int .i64 p2 := hs.dep 7 _ rfl rfl
          have hl0 := HC1.out _ u w hC (by decide)
          refine wp_of_val ?_
          refine ValWp.call #[.int .i64 p2, .int .i64 10] rfl rfl Tryd.func23 rfl rfl (by simp only [List.map_toArray, List.map_cons, List.map_nil, Act.eval, e23]) ?_
          refine (HNB.out w hl0).mono ?_
          rintro e w' ⟨rfl, hb⟩
          exact ⟨_, rfl, hK _ _ rfl (HC2.out 2 _ w' (by omega) (Later.trans hl0 hb))⟩
        · -- 9: slot 25 := Op.binOp BinOp.add 9 t21 t24 9
          refine OwesS.q rfl fun a w j u hC hb hs => ⟨rfl, ?_⟩
          have e21 : a.tmps.getD 21 undef = .string (mkS i1) := hs.dep 5 _ rfl rfl
          have e24 : a.tmps.getD 24 undef = .string (mkS ib) := hs.dep 8 _ rfl rfl
          have hz := HZ2.out.1
          have hq := HZ2.out.2
          refine ValWp.pure (v := .string (mkS i2)) (fun K' hK' => ?_) ⟨rfl, rfl⟩
          simp only [ValWp, execOp, Act.eval, e21, e24]
          go_simp
          all_goals exact hK'
        · -- 10: slot 26 := Op.indexAddr 53 t16 t17
          refine OwesS.q rfl fun a w j u hC hb hs => ⟨rfl, ?_⟩
          have e16 : a.tmps.getD 16 undef = .slice (some ⟨W.heap.size, 0, none⟩) n n := hs.dep 0 _ rfl rfl
          have e17 : a.tmps.getD 17 undef = .int .i64 (i : Int) := hs.dep 1 _ rfl rfl
          refine ValWp.pure (v := .pointer (some ⟨W.heap.size, i, none⟩)) (fun K' hK' => ?_) ⟨rfl, rfl⟩
          simp only [ValWp, execOp, Act.eval, e16, e17]
          go_simp
          all_goals exact hK'
        · -- 11: slot None := Op.store 9 t26 t25
          refine OwesS.w rfl fun a w u hC hl hs => ⟨rfl, fun K hK => ?_⟩
          have e26 : a.tmps.getD 26 undef = .pointer (some ⟨W.heap.size, i, none⟩) := hs.dep 10 _ rfl rfl
          have e25 : a.tmps.getD 25 undef = .string (mkS i2) := hs.dep 9 _ rfl rfl
          obtain ⟨hx, hl0⟩ := HC3.out u w hC
          obtain ⟨xv, hxv⟩ := hx
          have hfz := HC4.out w hl0
          refine wp_of_val ?_
          refine ValWp.pure (v := undef) (w' := w.setCell ⟨W.heap.size, i, none⟩ (.string (mkS i2))) (fun K' hK' => ?_) (hK _ _ trivial (HC5.out _ w hl0))
          simp only [ValWp, execOp, Act.eval, e26, e25]
          go_simp
          all_goals exact hK'
      · intro a w u hC hl hd hsz hfree hs
        obtain ⟨u16, hu16⟩ : ∃ u, u = a.tmps.getD 16 undef := ⟨_, rfl⟩
        obtain ⟨u17, hu17⟩ : ∃ u, u = a.tmps.getD 17 undef := ⟨_, rfl⟩
        obtain ⟨u18, hu18⟩ : ∃ u, u = a.tmps.getD 18 undef := ⟨_, rfl⟩
        obtain ⟨u19, hu19⟩ : ∃ u, u = a.tmps.getD 19 undef := ⟨_, rfl⟩
        obtain ⟨u20, hu20⟩ : ∃ u, u = a.tmps.getD 20 undef := ⟨_, rfl⟩
        obtain ⟨u21, hu21⟩ : ∃ u, u = a.tmps.getD 21 undef := ⟨_, rfl⟩
        obtain ⟨u22, hu22⟩ : ∃ u, u = a.tmps.getD 22 undef := ⟨_, rfl⟩
        obtain ⟨u23, hu23⟩ : ∃ u, u = a.tmps.getD 23 undef := ⟨_, rfl⟩
        obtain ⟨u24, hu24⟩ : ∃ u, u = a.tmps.getD 24 undef := ⟨_, rfl⟩
        obtain ⟨u25, hu25⟩ : ∃ u, u = a.tmps.getD 25 undef := ⟨_, rfl⟩
        obtain ⟨u26, hu26⟩ : ∃ u, u = a.tmps.getD 26 undef := ⟨_, rfl⟩
        have hal : AllAt a 0 [_, _, _, _, _, _, _, _, _, _, _, _, _, _, _, _, u16, u17, u18, u19, u20, u21, u22, u23, u24, u25, u26, _, _, _] := ⟨hfree 0 rfl, hfree 1 rfl, hfree 2 rfl, hfree 3 rfl, hfree 4 rfl, hfree 5 rfl, hfree 6 rfl, hfree 7 rfl, hfree 8 rfl, hfree 9 rfl, hfree 10 rfl, hfree 11 rfl, hfree 12 rfl, hfree 13 rfl, hfree 14 rfl, hfree 15 rfl, hu16.symm, hu17.symm, hu18.symm, hu19.symm, hu20.symm, hu21.symm, hu22.symm, hu23.symm, hu24.symm, hu25.symm, hu26.symm, hfree 27 rfl, hfree 28 rfl, hfree 29 rfl, trivial⟩
        have hlit := fun h => act_lit hd h hal
        rw [hlit hsz]
        simp only [Array.getD_eq_getD_getElem?, List.getElem?_toArray, List.getElem?_cons_zero, List.getElem?_cons_succ, Option.getD_some]
        clear hlit hal hd hsz hfree hs hu16 hu17 hu18 hu19 hu20 hu21 hu22 hu23 hu24 hu25 hu26
        go_wp2
        go_roundw
        case rel => exact ⟨i + 1, by go_num, by omega, Lib.hid (HC6.out _ _ hC)⟩
        case measure => simp [intOf]; omega
    · have hlt2 : ¬ (i : Int) < (n : Int) := by omega
      have hin : i = n := by omega
      rcases Nat.eq_zero_or_pos n with h0 | h0
      · have e0 : l = [] := List.length_eq_zero_iff.1 (by rw [← HN.out]; exact h0)
        have HJ := Lib.hid (Tryd.strings_Join_none (some ⟨W.heap.size, 0, none⟩) 0 ⟨#[32]⟩ wr)
        subst h0
        clear hin hif hz0 hz1 hz2
        go_wp2_with (go_at_call 24; (with_reducible refine HJ.out.mono ?_); rintro e w5 ⟨rfl, hw5⟩; subst hw5)
        go_ret
        exact ⟨by rw [e0]; rfl, HL.out.2⟩
      · have htx : tx l n = l.map fun p => Value.string (mkS (one p)) := by
          unfold tx
          rw [HN.out, Nat.sub_self, List.take_length]
          simp
        have hb := HL.out.1
        unfold TxB at hb
        rw [hin, htx] at hb
        have hxl : ((l.map one).map mkS).length = n := by rw [List.length_map, List.length_map, HN.out]
        have hj := Tryd.strings_Join W.heap.size 0 n ((l.map one).map mkS) ⟨#[32]⟩ wr (fun j x hx => by
          rw [Nat.zero_add, (cell_row hb j).1]
          simp only [List.getElem?_toArray, List.getElem?_map] at hx ⊢
          cases hlj : l[j]? with
          | none => rw [hlj] at hx; cases hx
          | some p => rw [hlj] at hx; simp at hx ⊢; exact hx) (lt_of_block hb) (by rw [hxl]; omega) (by rw [hxl]; exact Nat.le_refl _) (by
          have h1 : ((l.map one).map mkS).map (·.data.toList) = l.map one := by rw [List.map_map]; simp [Function.comp_def, mkS_list]
          rw [h1]
          have := text_len HP.out.2
          show (text l).length ≤ _
          have := HN.out
          omega)
        have h1 : ((l.map one).map mkS).map (·.data.toList) = l.map one := by rw [List.map_map]; simp [Function.comp_def, mkS_list]
        rw [h1, hxl] at hj
        have HJ := Lib.hid hj
        clear hin htx hb hxl hj h1 hif hz0 hz1 hz2
        go_wp2_with (go_at_call 24; (with_reducible refine HJ.out.mono ?_); rintro e w5 ⟨rfl, hw5⟩; (have HL5 := Lib.hid hw5); clear hw5)
        go_ret
        exact ⟨rfl, HL.out.2.trans HL5.out⟩
end Fd
end Go.Proofs.YtjijbgogdaafdaaDoor
