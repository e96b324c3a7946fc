/- The tables are made, a reader is opened. No premises. -/
import Derived.Test.YtcidklbeafjmoaaGreatDoorAt
namespace Go.Proofs.YtcidklbeafjmoaaGreatDoor
open Go.RowKit Go.Maps
namespace Ar
theorem all_ok (k : Nat) : ExOk k ∧ BtOk k ∧ SgOk k := by
  induction k using Nat.strongRecOn with
  | ind k ih => exact ⟨expression_v fun j hj => ⟨(ih j hj).1, (ih j hj).2.1⟩, between_v fun j hj => (ih j hj).2, single_v fun j hj => ⟨(ih j hj).1, (ih j hj).2.2⟩⟩
theorem TabS.made (W : World) : TabS (W.alloc (.map #[] 0)) W.heap.size 0 fun _ => none :=
  ⟨.map [], 0, World.ownsMap_made W _ _ _, by omega, fun c => ⟨rfl, fun z => rfl⟩⟩
theorem TabS.congr {W : World} {m k : Nat} {f f' : L → Option Value} (h : TabS W m k f) (he : ∀ c, f c = f' c) : TabS W m k f' := by
  obtain ⟨D, n, h1, h2, h3⟩ := h
  exact ⟨D, n, h1, h2, fun c => by rw [← he c]; exact h3 c⟩
theorem TabS.more {W : World} {m k k' : Nat} {f : L → Option Value} (h : TabS W m k f) (hk : k ≤ k') : TabS W m k' f := by
  obtain ⟨D, n, h1, h2, h3⟩ := h
  exact ⟨D, n, h1, by omega, h3⟩
def putS (f : L → Option Value) (c : L) (v : Value) : L → Option Value := fun x => if x = c then some v else f x
theorem str_ne {a b : L} (h : a ≠ b) : (Lit.string a) ≠ .string b := by
  intro e
  injection e with e
  exact h e
theorem TabS.put1 {W : World} {m k : Nat} {f : L → Option Value} (h : TabS W m k f) (hk : k ≤ 29) (c : L) (hc : c.length ≤ 5000) (v : Value) : ∃ W', (Instr.mapUpdate 41 (.map (some m)) (sv c) v).run Tryz.prog W = .ok () W' ∧ TabS W' m (k + 1) (putS f c v) ∧ W.grownBy W' (some m) := by
  obtain ⟨D, n, h1, h2, h3⟩ := h
  obtain ⟨W', hr, h4, h5⟩ := h1.update str_keyed Tryz.underlying41 (by unfold maxLen; omega) (keyOf_str c hc) (val := v) (d := .held v) (ps := []) rfl
  refine ⟨W', hr, ⟨_, n + 1, h4, by omega, fun x => ?_⟩, h5⟩
  unfold putS
  by_cases hx : x = c
  · subst hx
    rw [if_pos rfl]
    exact ⟨has_put_same h1.isMap (show WideAt.IsKeyLit (.string x) from trivial) _, fun z => atKey_put_same h1.isMap (show WideAt.IsKeyLit (.string x) from trivial) _ _⟩
  · rw [if_neg hx, has_put_other (str_ne hx)]
    exact ⟨(h3 x).1, fun z => by rw [atKey_put_other (str_ne hx)]; exact (h3 x).2 z⟩
theorem wpList_ins1 {ops : Array Oper} {rest : List Oper} {o : Oper} {a : Act} {Q : Exit → Act → World → Prop} (w : World) (hgd : o.guard = none) (mo xo vo : Operand) (hop : o.op = .insert 41 mo xo vo) (m k : Nat) (f : L → Option Value) (c : L) (hc : c.length ≤ 5000) (v : Value) (hm : a.eval mo = .map (some m)) (hx : a.eval xo = sv c) (hv : a.eval vo = v)
    (h : TabS w m k f) (hk : k ≤ 29) (hK : ∀ w', TabS w' m (k + 1) (putS f c v) → w.grownBy w' (some m) → wpList Tryz.prog ops Q rest (a.put o.dst undef) w') : wpList Tryz.prog ops Q (o :: rest) a w := by
  refine wpList_plain hgd fun K' hK' => ?_
  obtain ⟨w', hrun, r1, r2⟩ := h.put1 hk c hc v
  unfold Oper.wp
  simp [execOp, hop, hm, hx, hv, hrun, Result.andThen]
  exact hK' _ _ (hK w' r1 r2)
theorem TabS.put2 {W : World} {m k : Nat} {f : L → Option Value} (h : TabS W m k f) (hk : k ≤ 29) (c : L) (hc : c.length ≤ 5000) (v : Value) : ∃ W', (Instr.mapUpdate 42 (.map (some m)) (sv c) v).run Tryz.prog W = .ok () W' ∧ TabS W' m (k + 1) (putS f c v) ∧ W.grownBy W' (some m) := by
  obtain ⟨D, n, h1, h2, h3⟩ := h
  obtain ⟨W', hr, h4, h5⟩ := h1.update str_keyed Tryz.underlying42 (by unfold maxLen; omega) (keyOf_str c hc) (val := v) (d := .held v) (ps := []) rfl
  refine ⟨W', hr, ⟨_, n + 1, h4, by omega, fun x => ?_⟩, h5⟩
  unfold putS
  by_cases hx : x = c
  · subst hx
    rw [if_pos rfl]
    exact ⟨has_put_same h1.isMap (show WideAt.IsKeyLit (.string x) from trivial) _, fun z => atKey_put_same h1.isMap (show WideAt.IsKeyLit (.string x) from trivial) _ _⟩
  · rw [if_neg hx, has_put_other (str_ne hx)]
    exact ⟨(h3 x).1, fun z => by rw [atKey_put_other (str_ne hx)]; exact (h3 x).2 z⟩
theorem wpList_ins2 {ops : Array Oper} {rest : List Oper} {o : Oper} {a : Act} {Q : Exit → Act → World → Prop} (w : World) (hgd : o.guard = none) (mo xo vo : Operand) (hop : o.op = .insert 42 mo xo vo) (m k : Nat) (f : L → Option Value) (c : L) (hc : c.length ≤ 5000) (v : Value) (hm : a.eval mo = .map (some m)) (hx : a.eval xo = sv c) (hv : a.eval vo = v)
    (h : TabS w m k f) (hk : k ≤ 29) (hK : ∀ w', TabS w' m (k + 1) (putS f c v) → w.grownBy w' (some m) → wpList Tryz.prog ops Q rest (a.put o.dst undef) w') : wpList Tryz.prog ops Q (o :: rest) a w := by
  refine wpList_plain hgd fun K' hK' => ?_
  obtain ⟨w', hrun, r1, r2⟩ := h.put2 hk c hc v
  unfold Oper.wp
  simp [execOp, hop, hm, hx, hv, hrun, Result.andThen]
  exact hK' _ _ (hK w' r1 r2)
theorem alone_eq (c : L) : putS (putS (putS (putS ((fun _ => none)) [33] (fn0 38)) [126] (fn0 40)) [43] (fn0 41)) [45] (fn0 42) c = aheadT c := by
  simp only [putS, aheadT]
  by_cases h0 : c = [33]
  · subst h0; rfl
  by_cases h1 : c = [126]
  · subst h1; rfl
  by_cases h2 : c = [43]
  · subst h2; rfl
  by_cases h3 : c = [45]
  · subst h3; rfl
  simp [h0, h1, h2, h3]
theorem both_eq (b : Nat) (c : L) : putS (putS (putS (putS (putS (putS (putS (putS (putS (putS (putS (putS (putS (putS (putS (putS (putS (putS ((fun _ => none)) [124, 124] (fn0 43)) [38, 38] (fn0 44)) [124] (fn0 45)) [94] (fn0 46)) [38] (fn0 47)) [61, 61] (fn0 48)) [33, 61] (fn0 49)) [60] (fn0 50)) [60, 61] (fn0 51)) [62] (fn0 52)) [62, 61] (fn0 53)) [60, 60] (fn0 54)) [62, 62] (fn0 55)) [43] (fn0 56)) [45] (fn0 57)) [42] (fn0 58)) [47] (fnB 59 b)) [37] (fnB 61 b) c = pairT b c := by
  simp only [putS, pairT]
  by_cases h0 : c = [124, 124]
  · subst h0; rfl
  by_cases h1 : c = [38, 38]
  · subst h1; rfl
  by_cases h2 : c = [124]
  · subst h2; rfl
  by_cases h3 : c = [94]
  · subst h3; rfl
  by_cases h4 : c = [38]
  · subst h4; rfl
  by_cases h5 : c = [61, 61]
  · subst h5; rfl
  by_cases h6 : c = [33, 61]
  · subst h6; rfl
  by_cases h7 : c = [60]
  · subst h7; rfl
  by_cases h8 : c = [60, 61]
  · subst h8; rfl
  by_cases h9 : c = [62]
  · subst h9; rfl
  by_cases h10 : c = [62, 61]
  · subst h10; rfl
  by_cases h11 : c = [60, 60]
  · subst h11; rfl
  by_cases h12 : c = [62, 62]
  · subst h12; rfl
  by_cases h13 : c = [43]
  · subst h13; rfl
  by_cases h14 : c = [45]
  · subst h14; rfl
  by_cases h15 : c = [42]
  · subst h15; rfl
  by_cases h16 : c = [47]
  · subst h16; rfl
  by_cases h17 : c = [37]
  · subst h17; rfl
  simp [h0, h1, h2, h3, h4, h5, h6, h7, h8, h9, h10, h11, h12, h13, h14, h15, h16, h17]
set_option maxHeartbeats 1600000 in
set_option maxRecDepth 100000 in
theorem alone_v (W : World) : Calls Tryz.prog 18 #[] W fun e W' => e = .returned (.map (some W.heap.size)) ∧ TabS W' W.heap.size 30 aheadT ∧ Later W W' := by
  have hmm := @run_makeMap Tryz.prog
  have HT0 := Lib.hid (TabS.made W)
  have HL0 := Lib.hid (Later.alloc W (.map #[] 0))
  go_enter Tryz.func18, Tryz.ntmps18
  go_wp2_with (first
    | (refine wpList_ins1 _ rfl (.tmp 1) (.const (.string ⟨#[33]⟩)) (.func 38) rfl W.heap.size 0 _ [33] (by simp) (fn0 38) rfl rfl rfl HT0.out (by omega) ?_; intro w1 ht hg; have HT1 := Lib.hid ht; have HL1 := Lib.hid (later_of_new HL0.out hg (Nat.le_refl _)); clear ht hg)
    | (refine wpList_ins1 _ rfl (.tmp 1) (.const (.string ⟨#[126]⟩)) (.func 40) rfl W.heap.size 1 _ [126] (by simp) (fn0 40) rfl rfl rfl HT1.out (by omega) ?_; intro w2 ht hg; have HT2 := Lib.hid ht; have HL2 := Lib.hid (later_of_new HL1.out hg (Nat.le_refl _)); clear ht hg)
    | (refine wpList_ins1 _ rfl (.tmp 1) (.const (.string ⟨#[43]⟩)) (.func 41) rfl W.heap.size 2 _ [43] (by simp) (fn0 41) rfl rfl rfl HT2.out (by omega) ?_; intro w3 ht hg; have HT3 := Lib.hid ht; have HL3 := Lib.hid (later_of_new HL2.out hg (Nat.le_refl _)); clear ht hg)
    | (refine wpList_ins1 _ rfl (.tmp 1) (.const (.string ⟨#[45]⟩)) (.func 42) rfl W.heap.size 3 _ [45] (by simp) (fn0 42) rfl rfl rfl HT3.out (by omega) ?_; intro w4 ht hg; have HT4 := Lib.hid ht; have HL4 := Lib.hid (later_of_new HL3.out hg (Nat.le_refl _)); clear ht hg))
  go_ret
  exact ⟨rfl, (HT4.out.congr alone_eq).more (by omega), HL4.out⟩
set_option maxHeartbeats 3200000 in
set_option maxRecDepth 100000 in
theorem both_v (W : World) (g : Nat) : Calls Tryz.prog 19 #[.pointer (some ⟨g, 0, none⟩)] W fun e W' => e = .returned (.map (some (W.heap.size + 1))) ∧ TabS W' (W.heap.size + 1) 30 (pairT W.heap.size) ∧ Later W W' ∧ W'.heap[W.heap.size]? = some (.cells #[.pointer (some ⟨g, 0, none⟩)] 38 (0, 0)) := by
  have hmm := @run_makeMap Tryz.prog
  obtain ⟨wb, hwb⟩ : ∃ wb, wb = W.alloc (.cells #[.pointer (some ⟨g, 0, none⟩)] 38) := ⟨_, rfl⟩
  have hsz : wb.heap.size = W.heap.size + 1 := by rw [hwb]; simp
  have ht0 := TabS.made wb
  rw [hsz] at ht0
  have HT0 := Lib.hid (show TabS ((W.alloc (.cells #[.pointer (some ⟨g, 0, none⟩)] 38)).alloc (.map #[] 0)) (W.heap.size + 1) 0 fun _ => none by rw [← hwb]; exact ht0)
  have HL0 := Lib.hid (show Later wb ((W.alloc (.cells #[.pointer (some ⟨g, 0, none⟩)] 38)).alloc (.map #[] 0)) by rw [hwb]; exact Later.alloc _ _)
  have HB := Lib.hid (show wb.heap[W.heap.size]? = some (.cells #[.pointer (some ⟨g, 0, none⟩)] 38 (0, 0)) by rw [hwb]; exact heap_alloc_new W _)
  have HLW := Lib.hid (show Later W wb by rw [hwb]; exact Later.alloc _ _)
  have HSZ := Lib.hid hsz
  clear hwb hsz ht0
  go_enter Tryz.func19, Tryz.ntmps19
  go_wp2_with (first
    | (refine wpList_ins2 _ rfl (.tmp 3) (.const (.string ⟨#[124, 124]⟩)) (.func 43) rfl (W.heap.size + 1) 0 _ [124, 124] (by simp) (fn0 43) rfl rfl rfl HT0.out (by omega) ?_; intro w1 ht hg; have HT1 := Lib.hid ht; have HL1 := Lib.hid (later_of_new HL0.out hg (by rw [HSZ.out]; exact Nat.le_refl _)); clear ht hg)
    | (refine wpList_ins2 _ rfl (.tmp 3) (.const (.string ⟨#[38, 38]⟩)) (.func 44) rfl (W.heap.size + 1) 1 _ [38, 38] (by simp) (fn0 44) rfl rfl rfl HT1.out (by omega) ?_; intro w2 ht hg; have HT2 := Lib.hid ht; have HL2 := Lib.hid (later_of_new HL1.out hg (by rw [HSZ.out]; exact Nat.le_refl _)); clear ht hg)
    | (refine wpList_ins2 _ rfl (.tmp 3) (.const (.string ⟨#[124]⟩)) (.func 45) rfl (W.heap.size + 1) 2 _ [124] (by simp) (fn0 45) rfl rfl rfl HT2.out (by omega) ?_; intro w3 ht hg; have HT3 := Lib.hid ht; have HL3 := Lib.hid (later_of_new HL2.out hg (by rw [HSZ.out]; exact Nat.le_refl _)); clear ht hg)
    | (refine wpList_ins2 _ rfl (.tmp 3) (.const (.string ⟨#[94]⟩)) (.func 46) rfl (W.heap.size + 1) 3 _ [94] (by simp) (fn0 46) rfl rfl rfl HT3.out (by omega) ?_; intro w4 ht hg; have HT4 := Lib.hid ht; have HL4 := Lib.hid (later_of_new HL3.out hg (by rw [HSZ.out]; exact Nat.le_refl _)); clear ht hg)
    | (refine wpList_ins2 _ rfl (.tmp 3) (.const (.string ⟨#[38]⟩)) (.func 47) rfl (W.heap.size + 1) 4 _ [38] (by simp) (fn0 47) rfl rfl rfl HT4.out (by omega) ?_; intro w5 ht hg; have HT5 := Lib.hid ht; have HL5 := Lib.hid (later_of_new HL4.out hg (by rw [HSZ.out]; exact Nat.le_refl _)); clear ht hg)
    | (refine wpList_ins2 _ rfl (.tmp 3) (.const (.string ⟨#[61, 61]⟩)) (.func 48) rfl (W.heap.size + 1) 5 _ [61, 61] (by simp) (fn0 48) rfl rfl rfl HT5.out (by omega) ?_; intro w6 ht hg; have HT6 := Lib.hid ht; have HL6 := Lib.hid (later_of_new HL5.out hg (by rw [HSZ.out]; exact Nat.le_refl _)); clear ht hg)
    | (refine wpList_ins2 _ rfl (.tmp 3) (.const (.string ⟨#[33, 61]⟩)) (.func 49) rfl (W.heap.size + 1) 6 _ [33, 61] (by simp) (fn0 49) rfl rfl rfl HT6.out (by omega) ?_; intro w7 ht hg; have HT7 := Lib.hid ht; have HL7 := Lib.hid (later_of_new HL6.out hg (by rw [HSZ.out]; exact Nat.le_refl _)); clear ht hg)
    | (refine wpList_ins2 _ rfl (.tmp 3) (.const (.string ⟨#[60]⟩)) (.func 50) rfl (W.heap.size + 1) 7 _ [60] (by simp) (fn0 50) rfl rfl rfl HT7.out (by omega) ?_; intro w8 ht hg; have HT8 := Lib.hid ht; have HL8 := Lib.hid (later_of_new HL7.out hg (by rw [HSZ.out]; exact Nat.le_refl _)); clear ht hg)
    | (refine wpList_ins2 _ rfl (.tmp 3) (.const (.string ⟨#[60, 61]⟩)) (.func 51) rfl (W.heap.size + 1) 8 _ [60, 61] (by simp) (fn0 51) rfl rfl rfl HT8.out (by omega) ?_; intro w9 ht hg; have HT9 := Lib.hid ht; have HL9 := Lib.hid (later_of_new HL8.out hg (by rw [HSZ.out]; exact Nat.le_refl _)); clear ht hg)
    | (refine wpList_ins2 _ rfl (.tmp 3) (.const (.string ⟨#[62]⟩)) (.func 52) rfl (W.heap.size + 1) 9 _ [62] (by simp) (fn0 52) rfl rfl rfl HT9.out (by omega) ?_; intro w10 ht hg; have HT10 := Lib.hid ht; have HL10 := Lib.hid (later_of_new HL9.out hg (by rw [HSZ.out]; exact Nat.le_refl _)); clear ht hg)
    | (refine wpList_ins2 _ rfl (.tmp 3) (.const (.string ⟨#[62, 61]⟩)) (.func 53) rfl (W.heap.size + 1) 10 _ [62, 61] (by simp) (fn0 53) rfl rfl rfl HT10.out (by omega) ?_; intro w11 ht hg; have HT11 := Lib.hid ht; have HL11 := Lib.hid (later_of_new HL10.out hg (by rw [HSZ.out]; exact Nat.le_refl _)); clear ht hg)
    | (refine wpList_ins2 _ rfl (.tmp 3) (.const (.string ⟨#[60, 60]⟩)) (.func 54) rfl (W.heap.size + 1) 11 _ [60, 60] (by simp) (fn0 54) rfl rfl rfl HT11.out (by omega) ?_; intro w12 ht hg; have HT12 := Lib.hid ht; have HL12 := Lib.hid (later_of_new HL11.out hg (by rw [HSZ.out]; exact Nat.le_refl _)); clear ht hg)
    | (refine wpList_ins2 _ rfl (.tmp 3) (.const (.string ⟨#[62, 62]⟩)) (.func 55) rfl (W.heap.size + 1) 12 _ [62, 62] (by simp) (fn0 55) rfl rfl rfl HT12.out (by omega) ?_; intro w13 ht hg; have HT13 := Lib.hid ht; have HL13 := Lib.hid (later_of_new HL12.out hg (by rw [HSZ.out]; exact Nat.le_refl _)); clear ht hg)
    | (refine wpList_ins2 _ rfl (.tmp 3) (.const (.string ⟨#[43]⟩)) (.func 56) rfl (W.heap.size + 1) 13 _ [43] (by simp) (fn0 56) rfl rfl rfl HT13.out (by omega) ?_; intro w14 ht hg; have HT14 := Lib.hid ht; have HL14 := Lib.hid (later_of_new HL13.out hg (by rw [HSZ.out]; exact Nat.le_refl _)); clear ht hg)
    | (refine wpList_ins2 _ rfl (.tmp 3) (.const (.string ⟨#[45]⟩)) (.func 57) rfl (W.heap.size + 1) 14 _ [45] (by simp) (fn0 57) rfl rfl rfl HT14.out (by omega) ?_; intro w15 ht hg; have HT15 := Lib.hid ht; have HL15 := Lib.hid (later_of_new HL14.out hg (by rw [HSZ.out]; exact Nat.le_refl _)); clear ht hg)
    | (refine wpList_ins2 _ rfl (.tmp 3) (.const (.string ⟨#[42]⟩)) (.func 58) rfl (W.heap.size + 1) 15 _ [42] (by simp) (fn0 58) rfl rfl rfl HT15.out (by omega) ?_; intro w16 ht hg; have HT16 := Lib.hid ht; have HL16 := Lib.hid (later_of_new HL15.out hg (by rw [HSZ.out]; exact Nat.le_refl _)); clear ht hg)
    | (refine wpList_ins2 _ rfl (.tmp 3) (.const (.string ⟨#[47]⟩)) (.tmp 4) rfl (W.heap.size + 1) 16 _ [47] (by simp) (fnB 59 W.heap.size) rfl rfl rfl HT16.out (by omega) ?_; intro w17 ht hg; have HT17 := Lib.hid ht; have HL17 := Lib.hid (later_of_new HL16.out hg (by rw [HSZ.out]; exact Nat.le_refl _)); clear ht hg)
    | (refine wpList_ins2 _ rfl (.tmp 3) (.const (.string ⟨#[37]⟩)) (.tmp 5) rfl (W.heap.size + 1) 17 _ [37] (by simp) (fnB 61 W.heap.size) rfl rfl rfl HT17.out (by omega) ?_; intro w18 ht hg; have HT18 := Lib.hid ht; have HL18 := Lib.hid (later_of_new HL17.out hg (by rw [HSZ.out]; exact Nat.le_refl _)); clear ht hg)
    | (refine wpList_mkC _ rfl 59 (.tmp 1) rfl W.heap.size rfl ?_)
    | (refine wpList_mkC _ rfl 61 (.tmp 1) rfl W.heap.size rfl ?_))
  go_ret
  exact ⟨rfl, (HT18.out.congr (both_eq _)).more (by omega), HLW.out.trans HL18.out, later_cells HL18.out HB.out⟩
end Ar
end Go.Proofs.YtcidklbeafjmoaaGreatDoor
