/- The document's Decide: of three, of four, of any. No premises. -/
import Derived.Test.YtjidclefpmcgoaaDoorYt
import Derived.Test.YtjidclefpmcgoaaDoorYv
namespace Go.Proofs.YtjidclefpmcgoaaDoor
open Go.RowKit Go.Maps
namespace Ar
/-- What holds all along: the result's block is as it was made. -/
def B6 (W w : World) : Prop := Later W w ∧ w.heap[W.heap.size]? = some (.cells #[.int .i64 0, .bool false, .bool false, .string ⟨#[]⟩, .string ⟨#[]⟩] 29 (0, 0))
theorem B6.later {W w w' : World} (h : B6 W w) (hl : Later w w') : B6 W w' := ⟨h.1.trans hl, later_cells hl h.2⟩
/-- Between the writers: a call, a block that is made, a store into it. -/
def C6 (W : World) (fin : Array Value) (bits : List Bool) (u : Value) (w : World) : Prop := bits.length = 3 ∧ B6 W w ∧ (bits[1]? = some true → ∃ b, u = .pointer (some ⟨b, 0, none⟩) ∧ W.heap.size < b ∧ w.heap[b]? = some (.cells (if bits[2]? = some true then fin else #[.int .i64 0, .bool false, .bool false, .string ⟨#[]⟩, .string ⟨#[]⟩]) 29 (0, 0)))
theorem C6.call {W w w' : World} {fin : Array Value} {bits : List Bool} {u : Value} (h : C6 W fin bits u w) (hl : Later w w') : C6 W fin (bits.set 0 true) u w' := by
  refine ⟨by rw [List.length_set]; exact h.1, h.2.1.later hl, fun h1 => ?_⟩
  rw [List.getElem?_set_ne (by omega)] at h1
  obtain ⟨b, h2, h3, h4⟩ := h.2.2 h1
  refine ⟨b, h2, h3, ?_⟩
  rw [List.getElem?_set_ne (by omega)]
  exact later_cells hl h4
theorem C6.made {W w : World} {fin : Array Value} {bits : List Bool} {u : Value} (h : C6 W fin bits u w) (h2 : bits[2]? = some false) : C6 W fin (bits.set 1 true) (.pointer (some ⟨w.heap.size, 0, none⟩)) (w.alloc (.cells #[.int .i64 0, .bool false, .bool false, .string ⟨#[]⟩, .string ⟨#[]⟩] 29)) := by
  refine ⟨by rw [List.length_set]; exact h.1, h.2.1.later (Later.alloc _ _), fun _ => ⟨_, rfl, lt_of_block h.2.1.2, ?_⟩⟩
  rw [List.getElem?_set_ne (by omega), h2, if_neg (by simp)]
  exact heap_alloc_new w _
theorem C6.stored {W w : World} {d : D} {bits : List Bool} {u : Value} {b : Nat} (h : C6 W (refC d) bits u w) (hu : u = .pointer (some ⟨b, 0, none⟩)) (hn : W.heap.size < b) (hb : w.heap[b]? = some (.cells #[.int .i64 0, .bool false, .bool false, .string ⟨#[]⟩, .string ⟨#[]⟩] 29 (0, 0))) : C6 W (refC d) (bits.set 2 true) u (w.setRow b (refC d)) := by
  refine ⟨by rw [List.length_set]; exact h.1, ⟨later_of_new h.2.1.1 (x := b) ⟨rfl, rfl, rfl, by simp, fun k _ hk => setRow_other w b k _ (fun e => hk (by rw [e]))⟩ (Nat.le_of_lt hn), (setRow_other w b _ _ (Nat.ne_of_lt hn)).trans h.2.1.2⟩, fun _ => ⟨b, hu, hn, ?_⟩⟩
  rw [List.getElem?_set_self (by rw [h.1]; omega), if_pos rfl]
  exact setRow_heap w b _ _ _ _ hb
theorem refload_v {w : World} {b : Nat} {d : D} (hb : w.heap[b]? = some (.cells (refC d) 29 (0, 0))) : (Instr.loadAt 29 (.pointer (some ⟨b, 0, none⟩))).run Tryd.prog w = .ok (refV d) w := by
  simp only [Instr.loadAt, Instr.sureAddr, Sem.run_bind, Sem.run_pure, Result.andThen]
  exact run_loadVar_row w b 29 29 (refC d) (0, 0) _ hb Tryd.underlying29 rfl (by show _ = some 5; kernel_rfl)
theorem ValWp.storeQ {w w' : World} {o : Oper} {ρ : Operand → Value} {K : Value → World → Prop} {b : Nat} {c : Array Value} {d : D} {x y : Operand} (ho : o.op = .store 29 x y) (hx : ρ x = .pointer (some ⟨b, 0, none⟩)) (hy : ρ y = .agg (refC d)) (hb : w.heap[b]? = some (.cells c 29 (0, 0))) (hs : c.size = 5) (hw : w' = w.setRow b (refC d)) (hk : K undef w') : ValWp Tryd.prog o ρ w K := by
  have h1 : (Instr.storeAt 29 (.pointer (some ⟨b, 0, none⟩)) (.agg (refC d))).run Tryd.prog w = .ok () (w.setRow b (refC d)) := by
    simp only [Instr.storeAt, Instr.sureAddr, Sem.run_bind, Sem.run_pure, Result.andThen]
    exact run_storeVar_row _ _ 29 29 c (refC d) hb (by show _ = some 5; kernel_rfl) hs (refC_one d)
  subst hw
  exact ValWp.storeR ho hx hy h1 hk
set_option maxRecDepth 100000 in
set_option maxHeartbeats 3200000 in
theorem rdec_3m (ad : Addr) (c : Nat) (x y z : L) (r : Int) (hs : Short [x, y, z]) (hm : mid y x z = some r) (W : World) (h : Cs W ad [x, y, z]) : RDec (.slice (some ad) 3 c) W [x, y, z] := by
  have htl : ∀ l, (mkS l).toList = l := toList_mkS
  have HBL := Lib.hid (heap_alloc_new W (.cells #[.int .i64 0, .bool false, .bool false, .string ⟨#[]⟩, .string ⟨#[]⟩] 29))
  have hl0 := Later.alloc W (.cells #[.int .i64 0, .bool false, .bool false, .string ⟨#[]⟩, .string ⟨#[]⟩] 29)
  have HL0 := Lib.hid hl0
  have hc0 := (h.later (hl0.trans (Later.drew _))).c0
  have hc1 := (h.later (hl0.trans (Later.drew _))).c1
  have hc2 := (h.later (hl0.trans (Later.drew _))).c2
  have HK := Lib.hid (fun w (hl : Later W w) => And.intro (h.later hl).c0 (And.intro (h.later hl).c1 (h.later hl).c2))
  have HTH := Lib.hid (show ∀ w, Calls Tryd.prog 17 #[.string (mkS x), .string (mkS y), .string (mkS z)] w fun e W' => e = .returned (.tuple #[.agg #[.int .i64 r, .bool false, .bool false, .string ⟨#[]⟩, .string ⟨#[]⟩], .bool true]) ∧ Later w W' from fun w => by
    have := three_v y x z (hs x (by simp)) (hs z (by simp)) w
    unfold ThrC at this
    rw [show thr y x z = (val0 r, true) by unfold thr; rw [hm]] at this
    exact this)
  have HC0 := Lib.hid (show ∀ u, C6 W (refC (val0 r)) [false, false, false] u (W.alloc (.cells #[.int .i64 0, .bool false, .bool false, .string ⟨#[]⟩, .string ⟨#[]⟩] 29)).drew from fun u => ⟨rfl, ⟨hl0.trans (Later.drew _), later_cells (Later.drew _) (heap_alloc_new W (.cells #[.int .i64 0, .bool false, .bool false, .string ⟨#[]⟩, .string ⟨#[]⟩] 29))⟩, fun h => by simp at h⟩)
  have hdd : dec [x, y, z] = val0 r := by unfold dec; rw [hm]
  unfold RDec
  rw [hdd]
  clear hdd
  clear h hl0 hs hm
  go_enter Tryd.func9, Tryd.ntmps9
  go_wp2_with fail
  refine wp_region_slot (by kernel_rfl) [9, 13, 14] 3 (C6 W (refC (val0 r))) [some (.slice (some ad) 3 c), some (.pointer (some ad)), some (.string (mkS x)), some (.slice (some ad) 3 c), some (.pointer (some ⟨ad.block, ad.off + 1, none⟩)), some (.string (mkS y)), some (.slice (some ad) 3 c), some (.pointer (some ⟨ad.block, ad.off + 2, none⟩)), some (.string (mkS z)), some (.tuple #[.agg #[.int .i64 r, .bool false, .bool false, .string ⟨#[]⟩, .string ⟨#[]⟩], .bool true]), some (.tuple #[.agg #[.int .i64 r, .bool false, .bool false, .string ⟨#[]⟩, .string ⟨#[]⟩], .bool true]), some (.agg #[.int .i64 r, .bool false, .bool false, .string ⟨#[]⟩, .string ⟨#[]⟩]), some (.bool true), none, none, some (.bool true)] (by decide) (by decide) (by kernel_rfl) (HC0.out _) ?_ ?_
  · refine ⟨?_, ?_, ?_, ?_, ?_, ?_, ?_, ?_, ?_, ?_, ?_, ?_, ?_, ?_, ?_, ?_, trivial⟩
    · -- 0: slot 21 := Op.move t0
      refine OwesU.q rfl (by decide) fun a w bits u hC hs => ⟨rfl, ?_⟩
      have e0 : a.tmps.getD 0 undef = .slice (some ad) 3 c := hs.free 0 rfl
      refine ValWp.pure (v := .slice (some ad) 3 c) (fun K' hK' => ?_) ⟨rfl, rfl⟩
      simp only [ValWp, execOp, Act.eval, e0]
      go_simp
      all_goals exact hK'
    · -- 1: slot 22 := Op.indexAddr 22 t21 (const (0:i64))
      refine OwesU.q rfl (by decide) fun a w bits u hC hs => ⟨rfl, ?_⟩
      have e21 : a.tmps.getD 21 undef = .slice (some ad) 3 c := hs.dep 0 _ rfl rfl
      refine ValWp.pure (v := .pointer (some ad)) (fun K' hK' => ?_) ⟨rfl, rfl⟩
      simp only [ValWp, execOp, Act.eval, e21]
      go_simp
      all_goals exact hK'
    · -- 2: slot 23 := Op.load 9 t22
      refine OwesU.q rfl (by decide) fun a w bits u hC hs => ⟨rfl, ?_⟩
      have e22 : a.tmps.getD 22 undef = .pointer (some ad) := hs.dep 1 _ rfl rfl
      have hq := (HK.out w hC.2.1.1).1
      refine ValWp.pure (v := .string (mkS x)) (fun K' hK' => ?_) ⟨rfl, rfl⟩
      simp only [ValWp, execOp, Act.eval, e22]
      go_simp
      all_goals exact hK'
    · -- 3: slot 24 := Op.move t0
      refine OwesU.q rfl (by decide) fun a w bits u hC hs => ⟨rfl, ?_⟩
      have e0 : a.tmps.getD 0 undef = .slice (some ad) 3 c := hs.free 0 rfl
      refine ValWp.pure (v := .slice (some ad) 3 c) (fun K' hK' => ?_) ⟨rfl, rfl⟩
      simp only [ValWp, execOp, Act.eval, e0]
      go_simp
      all_goals exact hK'
    · -- 4: slot 25 := Op.indexAddr 22 t24 (const (1:i64))
      refine OwesU.q rfl (by decide) fun a w bits u hC hs => ⟨rfl, ?_⟩
      have e24 : a.tmps.getD 24 undef = .slice (some ad) 3 c := hs.dep 3 _ rfl rfl
      refine ValWp.pure (v := .pointer (some ⟨ad.block, ad.off + 1, none⟩)) (fun K' hK' => ?_) ⟨rfl, rfl⟩
      simp only [ValWp, execOp, Act.eval, e24]
      go_simp
      all_goals exact hK'
    · -- 5: slot 26 := Op.load 9 t25
      refine OwesU.q rfl (by decide) fun a w bits u hC hs => ⟨rfl, ?_⟩
      have e25 : a.tmps.getD 25 undef = .pointer (some ⟨ad.block, ad.off + 1, none⟩) := hs.dep 4 _ rfl rfl
      have hq := (HK.out w hC.2.1.1).2.1
      refine ValWp.pure (v := .string (mkS y)) (fun K' hK' => ?_) ⟨rfl, rfl⟩
      simp only [ValWp, execOp, Act.eval, e25]
      go_simp
      all_goals exact hK'
    · -- 6: slot 27 := Op.move t0
      refine OwesU.q rfl (by decide) fun a w bits u hC hs => ⟨rfl, ?_⟩
      have e0 : a.tmps.getD 0 undef = .slice (some ad) 3 c := hs.free 0 rfl
      refine ValWp.pure (v := .slice (some ad) 3 c) (fun K' hK' => ?_) ⟨rfl, rfl⟩
      simp only [ValWp, execOp, Act.eval, e0]
      go_simp
      all_goals exact hK'
    · -- 7: slot 28 := Op.indexAddr 22 t27 (const (2:i64))
      refine OwesU.q rfl (by decide) fun a w bits u hC hs => ⟨rfl, ?_⟩
      have e27 : a.tmps.getD 27 undef = .slice (some ad) 3 c := hs.dep 6 _ rfl rfl
      refine ValWp.pure (v := .pointer (some ⟨ad.block, ad.off + 2, none⟩)) (fun K' hK' => ?_) ⟨rfl, rfl⟩
      simp only [ValWp, execOp, Act.eval, e27]
      go_simp
      all_goals exact hK'
    · -- 8: slot 29 := Op.load 9 t28
      refine OwesU.q rfl (by decide) fun a w bits u hC hs => ⟨rfl, ?_⟩
      have e28 : a.tmps.getD 28 undef = .pointer (some ⟨ad.block, ad.off + 2, none⟩) := hs.dep 7 _ rfl rfl
      have hq := (HK.out w hC.2.1.1).2.2
      refine ValWp.pure (v := .string (mkS z)) (fun K' hK' => ?_) ⟨rfl, rfl⟩
      simp only [ValWp, execOp, Act.eval, e28]
      go_simp
      all_goals exact hK'
    · -- 9: slot 30 := Op.call { value (Operand.func 17), args := #[t23, t26, t29], argTypes := #[9, 9, 9] }
      refine fun a w bits hC hdn hun hs => ⟨rfl, fun K hK => ?_⟩
      have e23 : a.tmps.getD 23 undef = .string (mkS x) := hs.dep 2 _ rfl rfl
      have e26 : a.tmps.getD 26 undef = .string (mkS y) := hs.dep 5 _ rfl rfl
      have e29 : a.tmps.getD 29 undef = .string (mkS z) := hs.dep 8 _ rfl rfl
      refine wp_of_val ?_
      refine ValWp.call #[.string (mkS x), .string (mkS y), .string (mkS z)] rfl rfl Tryd.func17 rfl rfl (by simp only [List.map_toArray, List.map_cons, List.map_nil, Act.eval, e23, e26, e29]) ?_
      refine (HTH.out w).mono ?_
      rintro e w' ⟨rfl, hl2⟩
      exact ⟨_, rfl, hK _ _ rfl (hC.call hl2)⟩
    · -- 10: slot 20 := Op.move t30
      refine OwesU.q rfl (by decide) fun a w bits u hC hs => ⟨rfl, ?_⟩
      have e30 : a.tmps.getD 30 undef = .tuple #[.agg #[.int .i64 r, .bool false, .bool false, .string ⟨#[]⟩, .string ⟨#[]⟩], .bool true] := hs.dep 9 _ rfl rfl
      refine ValWp.pure (v := .tuple #[.agg #[.int .i64 r, .bool false, .bool false, .string ⟨#[]⟩, .string ⟨#[]⟩], .bool true]) (fun K' hK' => ?_) ⟨rfl, rfl⟩
      simp only [ValWp, execOp, Act.eval, e30]
      go_simp
      all_goals exact hK'
    · -- 11: slot 31 := Op.extract t20 0
      refine OwesU.q rfl (by decide) fun a w bits u hC hs => ⟨rfl, ?_⟩
      have e20 : a.tmps.getD 20 undef = .tuple #[.agg #[.int .i64 r, .bool false, .bool false, .string ⟨#[]⟩, .string ⟨#[]⟩], .bool true] := hs.dep 10 _ rfl rfl
      refine ValWp.pure (v := .agg #[.int .i64 r, .bool false, .bool false, .string ⟨#[]⟩, .string ⟨#[]⟩]) (fun K' hK' => ?_) ⟨rfl, rfl⟩
      simp only [ValWp, execOp, Act.eval, e20]
      go_simp
      all_goals exact hK'
    · -- 12: slot 32 := Op.extract t20 1
      refine OwesU.q rfl (by decide) fun a w bits u hC hs => ⟨rfl, ?_⟩
      have e20 : a.tmps.getD 20 undef = .tuple #[.agg #[.int .i64 r, .bool false, .bool false, .string ⟨#[]⟩, .string ⟨#[]⟩], .bool true] := hs.dep 10 _ rfl rfl
      refine ValWp.pure (v := .bool true) (fun K' hK' => ?_) ⟨rfl, rfl⟩
      simp only [ValWp, execOp, Act.eval, e20]
      go_simp
      all_goals exact hK'
    · -- 13: slot 3 := Op.alloc 29
      refine fun a w bits hC hdn hun hs => ⟨rfl, fun K hK => ?_⟩
      refine wp_of_val ?_
      refine ValWp.pure (v := .pointer (some ⟨w.heap.size, 0, none⟩)) (w' := w.alloc (.cells #[.int .i64 0, .bool false, .bool false, .string ⟨#[]⟩, .string ⟨#[]⟩] 29)) (fun K' hK' => ?_) (hK _ _ trivial (hC.made (hun 2 14 rfl (.inr (by kernel_rfl)))))
      simp only [ValWp, execOp]
      go_simp
      all_goals exact hK'
    · -- 14: slot None := Op.store 29 t3 t31
      refine fun a w bits hC hdn hun hs => ⟨rfl, fun K hK => ?_⟩
      have e31 : a.tmps.getD 31 undef = .agg #[.int .i64 r, .bool false, .bool false, .string ⟨#[]⟩, .string ⟨#[]⟩] := hs.dep 11 _ rfl rfl
      obtain ⟨b, e3, hbn, hbb⟩ := hC.2.2 (hdn 1 13 rfl (by kernel_rfl))
      rw [hun 2 14 rfl (.inl rfl), if_neg (by simp)] at hbb
      exact wp_of_val (ValWp.storeQ (d := val0 r) rfl e3 e31 hbb rfl rfl (hK _ _ trivial (hC.stored e3 hbn hbb)))
    · -- 15: slot 4 := Op.assign t32
      refine OwesU.q rfl (by decide) fun a w bits u hC hs => ⟨rfl, ?_⟩
      have e32 : a.tmps.getD 32 undef = .bool true := hs.dep 12 _ rfl rfl
      refine ValWp.pure (v := .bool true) (fun K' hK' => ?_) ⟨rfl, rfl⟩
      simp only [ValWp, execOp, Act.eval, e32]
      go_simp
      all_goals exact hK'
  · intro a w hC hd hsz hfree hs
    obtain ⟨_, hB, hbx⟩ := hC
    obtain ⟨b, h3, _, hbk⟩ := hbx rfl
    replace hbk : w.heap[b]? = some (.cells (refC (val0 r)) 29 (0, 0)) := hbk
    have HB6 := Lib.hid hB
    have HLW := Lib.hid hB.1
    have hc0 := (HK.out w hB.1).1
    clear hB hbx
    obtain ⟨u20, hu20⟩ : ∃ u, u = a.tmps.getD 20 undef := ⟨_, rfl⟩
    obtain ⟨u21, hu21⟩ : ∃ u, u = a.tmps.getD 21 undef := ⟨_, rfl⟩
    obtain ⟨u22, hu22⟩ : ∃ u, u = a.tmps.getD 22 undef := ⟨_, rfl⟩
    obtain ⟨u23, hu23⟩ : ∃ u, u = a.tmps.getD 23 undef := ⟨_, rfl⟩
    obtain ⟨u24, hu24⟩ : ∃ u, u = a.tmps.getD 24 undef := ⟨_, rfl⟩
    obtain ⟨u25, hu25⟩ : ∃ u, u = a.tmps.getD 25 undef := ⟨_, rfl⟩
    obtain ⟨u26, hu26⟩ : ∃ u, u = a.tmps.getD 26 undef := ⟨_, rfl⟩
    obtain ⟨u27, hu27⟩ : ∃ u, u = a.tmps.getD 27 undef := ⟨_, rfl⟩
    obtain ⟨u28, hu28⟩ : ∃ u, u = a.tmps.getD 28 undef := ⟨_, rfl⟩
    obtain ⟨u29, hu29⟩ : ∃ u, u = a.tmps.getD 29 undef := ⟨_, rfl⟩
    obtain ⟨u30, hu30⟩ : ∃ u, u = a.tmps.getD 30 undef := ⟨_, rfl⟩
    obtain ⟨u31, hu31⟩ : ∃ u, u = a.tmps.getD 31 undef := ⟨_, rfl⟩
    obtain ⟨u32, hu32⟩ : ∃ u, u = a.tmps.getD 32 undef := ⟨_, rfl⟩
    have hal : AllAt a 0 [_, _, _, .pointer (some ⟨b, 0, none⟩), .bool true, _, _, _, _, _, _, _, _, _, _, _, _, _, _, _, u20, u21, u22, u23, u24, u25, u26, u27, u28, u29, u30, u31, u32, _, _, _, _, _, _, _, _, _, _, _, _, _, _, _, _, _, _, _, _, _, _, _, _, _, _, _, _, _, _, _, _, _, _, _, _, _, _, _, _, _, _, _, _, _, _, _] := ⟨hfree 0 rfl, hfree 1 rfl, hfree 2 rfl, h3, hs 15 _ rfl, hfree 5 rfl, hfree 6 rfl, hfree 7 rfl, hfree 8 rfl, hfree 9 rfl, hfree 10 rfl, hfree 11 rfl, hfree 12 rfl, hfree 13 rfl, hfree 14 rfl, hfree 15 rfl, hfree 16 rfl, hfree 17 rfl, hfree 18 rfl, hfree 19 rfl, hu20.symm, hu21.symm, hu22.symm, hu23.symm, hu24.symm, hu25.symm, hu26.symm, hu27.symm, hu28.symm, hu29.symm, hu30.symm, hu31.symm, hu32.symm, hfree 33 rfl, hfree 34 rfl, hfree 35 rfl, hfree 36 rfl, hfree 37 rfl, hfree 38 rfl, hfree 39 rfl, hfree 40 rfl, hfree 41 rfl, hfree 42 rfl, hfree 43 rfl, hfree 44 rfl, hfree 45 rfl, hfree 46 rfl, hfree 47 rfl, hfree 48 rfl, hfree 49 rfl, hfree 50 rfl, hfree 51 rfl, hfree 52 rfl, hfree 53 rfl, hfree 54 rfl, hfree 55 rfl, hfree 56 rfl, hfree 57 rfl, hfree 58 rfl, hfree 59 rfl, hfree 60 rfl, hfree 61 rfl, hfree 62 rfl, hfree 63 rfl, hfree 64 rfl, hfree 65 rfl, hfree 66 rfl, hfree 67 rfl, hfree 68 rfl, hfree 69 rfl, hfree 70 rfl, hfree 71 rfl, hfree 72 rfl, hfree 73 rfl, hfree 74 rfl, hfree 75 rfl, hfree 76 rfl, hfree 77 rfl, hfree 78 rfl, hfree 79 rfl, trivial⟩
    have hlit := fun h => act_lit hd h hal
    rw [hlit hsz]
    simp only [Array.getD_eq_getD_getElem?, List.getElem?_toArray, List.getElem?_cons_zero, List.getElem?_cons_succ, Option.getD_some]
    clear hlit hal hd hsz hfree hs hu20 hu21 hu22 hu23 hu24 hu25 hu26 hu27 hu28 hu29 hu30 hu31 hu32
    have HST := Lib.hid (And.intro HB6.out.2 (show (#[.int .i64 0, .bool false, .bool false, .string ⟨#[]⟩, .string ⟨#[]⟩] : Array Value).size = 5 from rfl))
    have q0 : w.cell? ⟨b, 0, none⟩ = some (.int .i64 r) := (cell_row hbk 0).1
    have q1 : w.cell? ⟨b, 1, none⟩ = some (.bool false) := (cell_row hbk 1).1
    have q2 : w.cell? ⟨b, 2, none⟩ = some (.bool false) := (cell_row hbk 2).1
    have q3 : w.cell? ⟨b, 3, none⟩ = some (.string ⟨#[]⟩) := (cell_row hbk 3).1
    have q4 : w.cell? ⟨b, 4, none⟩ = some (.string ⟨#[]⟩) := (cell_row hbk 4).1
    go_wp2_with (refine wpList_storeR (d := val0 r) rfl (.tmp 2) (.tmp 34) rfl W.heap.size _ rfl rfl HST ?_; intro w4 hb4 hg4; have HB4 := Lib.hid hb4; have HL4 := Lib.hid (later_of_new HB6.out.1 hg4 (Nat.le_refl _)); clear hb4 hg4)
    refine bodyPost_ret (results_A rfl _ _ W.heap.size _ rfl HB4.out rfl) rfl ?_
    exact ⟨rfl, HL4.out⟩
set_option maxRecDepth 100000 in
set_option maxHeartbeats 3200000 in
theorem rdec_3o (ad : Addr) (c : Nat) (x y z : L) (hs : Short [x, y, z]) (hm : mid y x z = none) (hx : x ≠ [33]) (W : World) (h : Cs W ad [x, y, z]) : RDec (.slice (some ad) 3 c) W [x, y, z] := by
  have htl : ∀ l, (mkS l).toList = l := toList_mkS
  have HBL := Lib.hid (heap_alloc_new W (.cells #[.int .i64 0, .bool false, .bool false, .string ⟨#[]⟩, .string ⟨#[]⟩] 29))
  have hl0 := Later.alloc W (.cells #[.int .i64 0, .bool false, .bool false, .string ⟨#[]⟩, .string ⟨#[]⟩] 29)
  have HL0 := Lib.hid hl0
  have hc0 := (h.later (hl0.trans (Later.drew _))).c0
  have hc1 := (h.later (hl0.trans (Later.drew _))).c1
  have hc2 := (h.later (hl0.trans (Later.drew _))).c2
  have HK := Lib.hid (fun w (hl : Later W w) => And.intro (h.later hl).c0 (And.intro (h.later hl).c1 (h.later hl).c2))
  have HTH := Lib.hid (show ∀ w, Calls Tryd.prog 17 #[.string (mkS x), .string (mkS y), .string (mkS z)] w fun e W' => e = .returned (.tuple #[.agg #[.int .i64 0, .bool false, .bool false, .string ⟨#[]⟩, .string ⟨#[]⟩], .bool false]) ∧ Later w W' from fun w => by
    have := three_v y x z (hs x (by simp)) (hs z (by simp)) w
    unfold ThrC at this
    rw [show thr y x z = (val0 0, false) by unfold thr; rw [hm]] at this
    exact this)
  have HC0 := Lib.hid (show ∀ u, C6 W (refC (val0 0)) [false, false, false] u (W.alloc (.cells #[.int .i64 0, .bool false, .bool false, .string ⟨#[]⟩, .string ⟨#[]⟩] 29)).drew from fun u => ⟨rfl, ⟨hl0.trans (Later.drew _), later_cells (Later.drew _) (heap_alloc_new W (.cells #[.int .i64 0, .bool false, .bool false, .string ⟨#[]⟩, .string ⟨#[]⟩] 29))⟩, fun h => by simp at h⟩)
  have hdd : dec [x, y, z] = val0 2 := by unfold dec; rw [hm]; simp [hx]
  have q33 : (x == [33]) = false := beq_eq_false_iff_ne.2 hx
  unfold RDec
  rw [hdd]
  clear hdd
  clear h hl0 hs hm hx
  go_enter Tryd.func9, Tryd.ntmps9
  go_wp2_with fail
  refine wp_region_slot (by kernel_rfl) [9, 13, 14] 3 (C6 W (refC (val0 0))) [some (.slice (some ad) 3 c), some (.pointer (some ad)), some (.string (mkS x)), some (.slice (some ad) 3 c), some (.pointer (some ⟨ad.block, ad.off + 1, none⟩)), some (.string (mkS y)), some (.slice (some ad) 3 c), some (.pointer (some ⟨ad.block, ad.off + 2, none⟩)), some (.string (mkS z)), some (.tuple #[.agg #[.int .i64 0, .bool false, .bool false, .string ⟨#[]⟩, .string ⟨#[]⟩], .bool false]), some (.tuple #[.agg #[.int .i64 0, .bool false, .bool false, .string ⟨#[]⟩, .string ⟨#[]⟩], .bool false]), some (.agg #[.int .i64 0, .bool false, .bool false, .string ⟨#[]⟩, .string ⟨#[]⟩]), some (.bool false), none, none, some (.bool false)] (by decide) (by decide) (by kernel_rfl) (HC0.out _) ?_ ?_
  · refine ⟨?_, ?_, ?_, ?_, ?_, ?_, ?_, ?_, ?_, ?_, ?_, ?_, ?_, ?_, ?_, ?_, trivial⟩
    · -- 0: slot 21 := Op.move t0
      refine OwesU.q rfl (by decide) fun a w bits u hC hs => ⟨rfl, ?_⟩
      have e0 : a.tmps.getD 0 undef = .slice (some ad) 3 c := hs.free 0 rfl
      refine ValWp.pure (v := .slice (some ad) 3 c) (fun K' hK' => ?_) ⟨rfl, rfl⟩
      simp only [ValWp, execOp, Act.eval, e0]
      go_simp
      all_goals exact hK'
    · -- 1: slot 22 := Op.indexAddr 22 t21 (const (0:i64))
      refine OwesU.q rfl (by decide) fun a w bits u hC hs => ⟨rfl, ?_⟩
      have e21 : a.tmps.getD 21 undef = .slice (some ad) 3 c := hs.dep 0 _ rfl rfl
      refine ValWp.pure (v := .pointer (some ad)) (fun K' hK' => ?_) ⟨rfl, rfl⟩
      simp only [ValWp, execOp, Act.eval, e21]
      go_simp
      all_goals exact hK'
    · -- 2: slot 23 := Op.load 9 t22
      refine OwesU.q rfl (by decide) fun a w bits u hC hs => ⟨rfl, ?_⟩
      have e22 : a.tmps.getD 22 undef = .pointer (some ad) := hs.dep 1 _ rfl rfl
      have hq := (HK.out w hC.2.1.1).1
      refine ValWp.pure (v := .string (mkS x)) (fun K' hK' => ?_) ⟨rfl, rfl⟩
      simp only [ValWp, execOp, Act.eval, e22]
      go_simp
      all_goals exact hK'
    · -- 3: slot 24 := Op.move t0
      refine OwesU.q rfl (by decide) fun a w bits u hC hs => ⟨rfl, ?_⟩
      have e0 : a.tmps.getD 0 undef = .slice (some ad) 3 c := hs.free 0 rfl
      refine ValWp.pure (v := .slice (some ad) 3 c) (fun K' hK' => ?_) ⟨rfl, rfl⟩
      simp only [ValWp, execOp, Act.eval, e0]
      go_simp
      all_goals exact hK'
    · -- 4: slot 25 := Op.indexAddr 22 t24 (const (1:i64))
      refine OwesU.q rfl (by decide) fun a w bits u hC hs => ⟨rfl, ?_⟩
      have e24 : a.tmps.getD 24 undef = .slice (some ad) 3 c := hs.dep 3 _ rfl rfl
      refine ValWp.pure (v := .pointer (some ⟨ad.block, ad.off + 1, none⟩)) (fun K' hK' => ?_) ⟨rfl, rfl⟩
      simp only [ValWp, execOp, Act.eval, e24]
      go_simp
      all_goals exact hK'
    · -- 5: slot 26 := Op.load 9 t25
      refine OwesU.q rfl (by decide) fun a w bits u hC hs => ⟨rfl, ?_⟩
      have e25 : a.tmps.getD 25 undef = .pointer (some ⟨ad.block, ad.off + 1, none⟩) := hs.dep 4 _ rfl rfl
      have hq := (HK.out w hC.2.1.1).2.1
      refine ValWp.pure (v := .string (mkS y)) (fun K' hK' => ?_) ⟨rfl, rfl⟩
      simp only [ValWp, execOp, Act.eval, e25]
      go_simp
      all_goals exact hK'
    · -- 6: slot 27 := Op.move t0
      refine OwesU.q rfl (by decide) fun a w bits u hC hs => ⟨rfl, ?_⟩
      have e0 : a.tmps.getD 0 undef = .slice (some ad) 3 c := hs.free 0 rfl
      refine ValWp.pure (v := .slice (some ad) 3 c) (fun K' hK' => ?_) ⟨rfl, rfl⟩
      simp only [ValWp, execOp, Act.eval, e0]
      go_simp
      all_goals exact hK'
    · -- 7: slot 28 := Op.indexAddr 22 t27 (const (2:i64))
      refine OwesU.q rfl (by decide) fun a w bits u hC hs => ⟨rfl, ?_⟩
      have e27 : a.tmps.getD 27 undef = .slice (some ad) 3 c := hs.dep 6 _ rfl rfl
      refine ValWp.pure (v := .pointer (some ⟨ad.block, ad.off + 2, none⟩)) (fun K' hK' => ?_) ⟨rfl, rfl⟩
      simp only [ValWp, execOp, Act.eval, e27]
      go_simp
      all_goals exact hK'
    · -- 8: slot 29 := Op.load 9 t28
      refine OwesU.q rfl (by decide) fun a w bits u hC hs => ⟨rfl, ?_⟩
      have e28 : a.tmps.getD 28 undef = .pointer (some ⟨ad.block, ad.off + 2, none⟩) := hs.dep 7 _ rfl rfl
      have hq := (HK.out w hC.2.1.1).2.2
      refine ValWp.pure (v := .string (mkS z)) (fun K' hK' => ?_) ⟨rfl, rfl⟩
      simp only [ValWp, execOp, Act.eval, e28]
      go_simp
      all_goals exact hK'
    · -- 9: slot 30 := Op.call { value (Operand.func 17), args := #[t23, t26, t29], argTypes := #[9, 9, 9] }
      refine fun a w bits hC hdn hun hs => ⟨rfl, fun K hK => ?_⟩
      have e23 : a.tmps.getD 23 undef = .string (mkS x) := hs.dep 2 _ rfl rfl
      have e26 : a.tmps.getD 26 undef = .string (mkS y) := hs.dep 5 _ rfl rfl
      have e29 : a.tmps.getD 29 undef = .string (mkS z) := hs.dep 8 _ rfl rfl
      refine wp_of_val ?_
      refine ValWp.call #[.string (mkS x), .string (mkS y), .string (mkS z)] rfl rfl Tryd.func17 rfl rfl (by simp only [List.map_toArray, List.map_cons, List.map_nil, Act.eval, e23, e26, e29]) ?_
      refine (HTH.out w).mono ?_
      rintro e w' ⟨rfl, hl2⟩
      exact ⟨_, rfl, hK _ _ rfl (hC.call hl2)⟩
    · -- 10: slot 20 := Op.move t30
      refine OwesU.q rfl (by decide) fun a w bits u hC hs => ⟨rfl, ?_⟩
      have e30 : a.tmps.getD 30 undef = .tuple #[.agg #[.int .i64 0, .bool false, .bool false, .string ⟨#[]⟩, .string ⟨#[]⟩], .bool false] := hs.dep 9 _ rfl rfl
      refine ValWp.pure (v := .tuple #[.agg #[.int .i64 0, .bool false, .bool false, .string ⟨#[]⟩, .string ⟨#[]⟩], .bool false]) (fun K' hK' => ?_) ⟨rfl, rfl⟩
      simp only [ValWp, execOp, Act.eval, e30]
      go_simp
      all_goals exact hK'
    · -- 11: slot 31 := Op.extract t20 0
      refine OwesU.q rfl (by decide) fun a w bits u hC hs => ⟨rfl, ?_⟩
      have e20 : a.tmps.getD 20 undef = .tuple #[.agg #[.int .i64 0, .bool false, .bool false, .string ⟨#[]⟩, .string ⟨#[]⟩], .bool false] := hs.dep 10 _ rfl rfl
      refine ValWp.pure (v := .agg #[.int .i64 0, .bool false, .bool false, .string ⟨#[]⟩, .string ⟨#[]⟩]) (fun K' hK' => ?_) ⟨rfl, rfl⟩
      simp only [ValWp, execOp, Act.eval, e20]
      go_simp
      all_goals exact hK'
    · -- 12: slot 32 := Op.extract t20 1
      refine OwesU.q rfl (by decide) fun a w bits u hC hs => ⟨rfl, ?_⟩
      have e20 : a.tmps.getD 20 undef = .tuple #[.agg #[.int .i64 0, .bool false, .bool false, .string ⟨#[]⟩, .string ⟨#[]⟩], .bool false] := hs.dep 10 _ rfl rfl
      refine ValWp.pure (v := .bool false) (fun K' hK' => ?_) ⟨rfl, rfl⟩
      simp only [ValWp, execOp, Act.eval, e20]
      go_simp
      all_goals exact hK'
    · -- 13: slot 3 := Op.alloc 29
      refine fun a w bits hC hdn hun hs => ⟨rfl, fun K hK => ?_⟩
      refine wp_of_val ?_
      refine ValWp.pure (v := .pointer (some ⟨w.heap.size, 0, none⟩)) (w' := w.alloc (.cells #[.int .i64 0, .bool false, .bool false, .string ⟨#[]⟩, .string ⟨#[]⟩] 29)) (fun K' hK' => ?_) (hK _ _ trivial (hC.made (hun 2 14 rfl (.inr (by kernel_rfl)))))
      simp only [ValWp, execOp]
      go_simp
      all_goals exact hK'
    · -- 14: slot None := Op.store 29 t3 t31
      refine fun a w bits hC hdn hun hs => ⟨rfl, fun K hK => ?_⟩
      have e31 : a.tmps.getD 31 undef = .agg #[.int .i64 0, .bool false, .bool false, .string ⟨#[]⟩, .string ⟨#[]⟩] := hs.dep 11 _ rfl rfl
      obtain ⟨b, e3, hbn, hbb⟩ := hC.2.2 (hdn 1 13 rfl (by kernel_rfl))
      rw [hun 2 14 rfl (.inl rfl), if_neg (by simp)] at hbb
      exact wp_of_val (ValWp.storeQ (d := val0 0) rfl e3 e31 hbb rfl rfl (hK _ _ trivial (hC.stored e3 hbn hbb)))
    · -- 15: slot 4 := Op.assign t32
      refine OwesU.q rfl (by decide) fun a w bits u hC hs => ⟨rfl, ?_⟩
      have e32 : a.tmps.getD 32 undef = .bool false := hs.dep 12 _ rfl rfl
      refine ValWp.pure (v := .bool false) (fun K' hK' => ?_) ⟨rfl, rfl⟩
      simp only [ValWp, execOp, Act.eval, e32]
      go_simp
      all_goals exact hK'
  · intro a w hC hd hsz hfree hs
    obtain ⟨_, hB, hbx⟩ := hC
    obtain ⟨b, h3, _, hbk⟩ := hbx rfl
    replace hbk : w.heap[b]? = some (.cells (refC (val0 0)) 29 (0, 0)) := hbk
    have HB6 := Lib.hid hB
    have HLW := Lib.hid hB.1
    have hc0 := (HK.out w hB.1).1
    clear hB hbx
    obtain ⟨u20, hu20⟩ : ∃ u, u = a.tmps.getD 20 undef := ⟨_, rfl⟩
    obtain ⟨u21, hu21⟩ : ∃ u, u = a.tmps.getD 21 undef := ⟨_, rfl⟩
    obtain ⟨u22, hu22⟩ : ∃ u, u = a.tmps.getD 22 undef := ⟨_, rfl⟩
    obtain ⟨u23, hu23⟩ : ∃ u, u = a.tmps.getD 23 undef := ⟨_, rfl⟩
    obtain ⟨u24, hu24⟩ : ∃ u, u = a.tmps.getD 24 undef := ⟨_, rfl⟩
    obtain ⟨u25, hu25⟩ : ∃ u, u = a.tmps.getD 25 undef := ⟨_, rfl⟩
    obtain ⟨u26, hu26⟩ : ∃ u, u = a.tmps.getD 26 undef := ⟨_, rfl⟩
    obtain ⟨u27, hu27⟩ : ∃ u, u = a.tmps.getD 27 undef := ⟨_, rfl⟩
    obtain ⟨u28, hu28⟩ : ∃ u, u = a.tmps.getD 28 undef := ⟨_, rfl⟩
    obtain ⟨u29, hu29⟩ : ∃ u, u = a.tmps.getD 29 undef := ⟨_, rfl⟩
    obtain ⟨u30, hu30⟩ : ∃ u, u = a.tmps.getD 30 undef := ⟨_, rfl⟩
    obtain ⟨u31, hu31⟩ : ∃ u, u = a.tmps.getD 31 undef := ⟨_, rfl⟩
    obtain ⟨u32, hu32⟩ : ∃ u, u = a.tmps.getD 32 undef := ⟨_, rfl⟩
    have hal : AllAt a 0 [_, _, _, .pointer (some ⟨b, 0, none⟩), .bool false, _, _, _, _, _, _, _, _, _, _, _, _, _, _, _, u20, u21, u22, u23, u24, u25, u26, u27, u28, u29, u30, u31, u32, _, _, _, _, _, _, _, _, _, _, _, _, _, _, _, _, _, _, _, _, _, _, _, _, _, _, _, _, _, _, _, _, _, _, _, _, _, _, _, _, _, _, _, _, _, _, _] := ⟨hfree 0 rfl, hfree 1 rfl, hfree 2 rfl, h3, hs 15 _ rfl, hfree 5 rfl, hfree 6 rfl, hfree 7 rfl, hfree 8 rfl, hfree 9 rfl, hfree 10 rfl, hfree 11 rfl, hfree 12 rfl, hfree 13 rfl, hfree 14 rfl, hfree 15 rfl, hfree 16 rfl, hfree 17 rfl, hfree 18 rfl, hfree 19 rfl, hu20.symm, hu21.symm, hu22.symm, hu23.symm, hu24.symm, hu25.symm, hu26.symm, hu27.symm, hu28.symm, hu29.symm, hu30.symm, hu31.symm, hu32.symm, hfree 33 rfl, hfree 34 rfl, hfree 35 rfl, hfree 36 rfl, hfree 37 rfl, hfree 38 rfl, hfree 39 rfl, hfree 40 rfl, hfree 41 rfl, hfree 42 rfl, hfree 43 rfl, hfree 44 rfl, hfree 45 rfl, hfree 46 rfl, hfree 47 rfl, hfree 48 rfl, hfree 49 rfl, hfree 50 rfl, hfree 51 rfl, hfree 52 rfl, hfree 53 rfl, hfree 54 rfl, hfree 55 rfl, hfree 56 rfl, hfree 57 rfl, hfree 58 rfl, hfree 59 rfl, hfree 60 rfl, hfree 61 rfl, hfree 62 rfl, hfree 63 rfl, hfree 64 rfl, hfree 65 rfl, hfree 66 rfl, hfree 67 rfl, hfree 68 rfl, hfree 69 rfl, hfree 70 rfl, hfree 71 rfl, hfree 72 rfl, hfree 73 rfl, hfree 74 rfl, hfree 75 rfl, hfree 76 rfl, hfree 77 rfl, hfree 78 rfl, hfree 79 rfl, trivial⟩
    have hlit := fun h => act_lit hd h hal
    rw [hlit hsz]
    simp only [Array.getD_eq_getD_getElem?, List.getElem?_toArray, List.getElem?_cons_zero, List.getElem?_cons_succ, Option.getD_some]
    clear hlit hal hd hsz hfree hs hu20 hu21 hu22 hu23 hu24 hu25 hu26 hu27 hu28 hu29 hu30 hu31 hu32
    have HST := Lib.hid (And.intro HB6.out.2 (show (#[.int .i64 0, .bool false, .bool false, .string ⟨#[]⟩, .string ⟨#[]⟩] : Array Value).size = 5 from rfl))
    go_wp2_with (refine wpList_storeR (d := val0 2) rfl (.tmp 2) (.tmp 79) rfl W.heap.size _ rfl rfl HST ?_; intro w4 hb4 hg4; have HB4 := Lib.hid hb4; have HL4 := Lib.hid (later_of_new HB6.out.1 hg4 (Nat.le_refl _)); clear hb4 hg4)
    refine bodyPost_ret (results_A rfl _ _ W.heap.size _ rfl HB4.out rfl) rfl ?_
    exact ⟨rfl, HL4.out⟩
set_option maxRecDepth 100000 in
set_option maxHeartbeats 3200000 in
theorem rdec_3n (ad : Addr) (c : Nat) (hc : 3 ≤ c) (y z : L) (hs : Short [[33], y, z]) (hm : mid y [33] z = none) (W : World) (h : Cs W ad [[33], y, z]) : RDec (.slice (some ad) 3 c) W [[33], y, z] := by
  have htl : ∀ l, (mkS l).toList = l := toList_mkS
  have HBL := Lib.hid (heap_alloc_new W (.cells #[.int .i64 0, .bool false, .bool false, .string ⟨#[]⟩, .string ⟨#[]⟩] 29))
  have hl0 := Later.alloc W (.cells #[.int .i64 0, .bool false, .bool false, .string ⟨#[]⟩, .string ⟨#[]⟩] 29)
  have HL0 := Lib.hid hl0
  have hc0 := (h.later (hl0.trans (Later.drew _))).c0
  have hc1 := (h.later (hl0.trans (Later.drew _))).c1
  have hc2 := (h.later (hl0.trans (Later.drew _))).c2
  have HK := Lib.hid (fun w (hl : Later W w) => And.intro (h.later hl).c0 (And.intro (h.later hl).c1 (h.later hl).c2))
  have HTH := Lib.hid (show ∀ w, Calls Tryd.prog 17 #[.string (mkS [33]), .string (mkS y), .string (mkS z)] w fun e W' => e = .returned (.tuple #[.agg #[.int .i64 0, .bool false, .bool false, .string ⟨#[]⟩, .string ⟨#[]⟩], .bool false]) ∧ Later w W' from fun w => by
    have := three_v y [33] z (hs [33] (by simp)) (hs z (by simp)) w
    unfold ThrC at this
    rw [show thr y [33] z = (val0 0, false) by unfold thr; rw [hm]] at this
    exact this)
  have HC0 := Lib.hid (show ∀ u, C6 W (refC (val0 0)) [false, false, false] u (W.alloc (.cells #[.int .i64 0, .bool false, .bool false, .string ⟨#[]⟩, .string ⟨#[]⟩] 29)).drew from fun u => ⟨rfl, ⟨hl0.trans (Later.drew _), later_cells (Later.drew _) (heap_alloc_new W (.cells #[.int .i64 0, .bool false, .bool false, .string ⟨#[]⟩, .string ⟨#[]⟩] 29))⟩, fun h => by simp at h⟩)
  obtain ⟨d1, hd1⟩ : ∃ d1, d1 = dec [y, z] := ⟨_, rfl⟩
  obtain ⟨f, hf⟩ : ∃ f, f = turn d1 := ⟨_, rfl⟩
  have HD := Lib.hid (show ∀ w, Later W w → Calls Tryd.prog 9 #[.slice (some ⟨ad.block, ad.off + 1, none⟩) 2 (c - 1)] w fun e W' => e = .returned (refV d1) ∧ Later w W' from fun w hl => by rw [hd1]; exact rdec_2 _ _ (by omega) y z _ (h.later hl).tail)
  have HTU := Lib.hid (show ∀ W, Calls Tryd.prog 18 #[refV d1] W fun e W' => e = .returned (refV f) ∧ Later W W' from fun W => by rw [hf]; exact turn_v d1 (by rw [hd1]; exact ok_dec _) W)
  have hdd : dec [[33], y, z] = f := by rw [hf, hd1]; unfold dec; rw [hm]; rfl
  unfold RDec
  rw [hdd]
  have hcn : ¬ c = 1 := by omega
  clear hdd hf hd1
  clear h hl0 hs hm
  go_enter Tryd.func9, Tryd.ntmps9
  go_wp2_with fail
  refine wp_region_slot (by kernel_rfl) [9, 13, 14] 3 (C6 W (refC (val0 0))) [some (.slice (some ad) 3 c), some (.pointer (some ad)), some (.string (mkS [33])), some (.slice (some ad) 3 c), some (.pointer (some ⟨ad.block, ad.off + 1, none⟩)), some (.string (mkS y)), some (.slice (some ad) 3 c), some (.pointer (some ⟨ad.block, ad.off + 2, none⟩)), some (.string (mkS z)), some (.tuple #[.agg #[.int .i64 0, .bool false, .bool false, .string ⟨#[]⟩, .string ⟨#[]⟩], .bool false]), some (.tuple #[.agg #[.int .i64 0, .bool false, .bool false, .string ⟨#[]⟩, .string ⟨#[]⟩], .bool false]), some (.agg #[.int .i64 0, .bool false, .bool false, .string ⟨#[]⟩, .string ⟨#[]⟩]), some (.bool false), none, none, some (.bool false)] (by decide) (by decide) (by kernel_rfl) (HC0.out _) ?_ ?_
  · refine ⟨?_, ?_, ?_, ?_, ?_, ?_, ?_, ?_, ?_, ?_, ?_, ?_, ?_, ?_, ?_, ?_, trivial⟩
    · -- 0: slot 21 := Op.move t0
      refine OwesU.q rfl (by decide) fun a w bits u hC hs => ⟨rfl, ?_⟩
      have e0 : a.tmps.getD 0 undef = .slice (some ad) 3 c := hs.free 0 rfl
      refine ValWp.pure (v := .slice (some ad) 3 c) (fun K' hK' => ?_) ⟨rfl, rfl⟩
      simp only [ValWp, execOp, Act.eval, e0]
      go_simp
      all_goals exact hK'
    · -- 1: slot 22 := Op.indexAddr 22 t21 (const (0:i64))
      refine OwesU.q rfl (by decide) fun a w bits u hC hs => ⟨rfl, ?_⟩
      have e21 : a.tmps.getD 21 undef = .slice (some ad) 3 c := hs.dep 0 _ rfl rfl
      refine ValWp.pure (v := .pointer (some ad)) (fun K' hK' => ?_) ⟨rfl, rfl⟩
      simp only [ValWp, execOp, Act.eval, e21]
      go_simp
      all_goals exact hK'
    · -- 2: slot 23 := Op.load 9 t22
      refine OwesU.q rfl (by decide) fun a w bits u hC hs => ⟨rfl, ?_⟩
      have e22 : a.tmps.getD 22 undef = .pointer (some ad) := hs.dep 1 _ rfl rfl
      have hq := (HK.out w hC.2.1.1).1
      refine ValWp.pure (v := .string (mkS [33])) (fun K' hK' => ?_) ⟨rfl, rfl⟩
      simp only [ValWp, execOp, Act.eval, e22]
      go_simp
      all_goals exact hK'
    · -- 3: slot 24 := Op.move t0
      refine OwesU.q rfl (by decide) fun a w bits u hC hs => ⟨rfl, ?_⟩
      have e0 : a.tmps.getD 0 undef = .slice (some ad) 3 c := hs.free 0 rfl
      refine ValWp.pure (v := .slice (some ad) 3 c) (fun K' hK' => ?_) ⟨rfl, rfl⟩
      simp only [ValWp, execOp, Act.eval, e0]
      go_simp
      all_goals exact hK'
    · -- 4: slot 25 := Op.indexAddr 22 t24 (const (1:i64))
      refine OwesU.q rfl (by decide) fun a w bits u hC hs => ⟨rfl, ?_⟩
      have e24 : a.tmps.getD 24 undef = .slice (some ad) 3 c := hs.dep 3 _ rfl rfl
      refine ValWp.pure (v := .pointer (some ⟨ad.block, ad.off + 1, none⟩)) (fun K' hK' => ?_) ⟨rfl, rfl⟩
      simp only [ValWp, execOp, Act.eval, e24]
      go_simp
      all_goals exact hK'
    · -- 5: slot 26 := Op.load 9 t25
      refine OwesU.q rfl (by decide) fun a w bits u hC hs => ⟨rfl, ?_⟩
      have e25 : a.tmps.getD 25 undef = .pointer (some ⟨ad.block, ad.off + 1, none⟩) := hs.dep 4 _ rfl rfl
      have hq := (HK.out w hC.2.1.1).2.1
      refine ValWp.pure (v := .string (mkS y)) (fun K' hK' => ?_) ⟨rfl, rfl⟩
      simp only [ValWp, execOp, Act.eval, e25]
      go_simp
      all_goals exact hK'
    · -- 6: slot 27 := Op.move t0
      refine OwesU.q rfl (by decide) fun a w bits u hC hs => ⟨rfl, ?_⟩
      have e0 : a.tmps.getD 0 undef = .slice (some ad) 3 c := hs.free 0 rfl
      refine ValWp.pure (v := .slice (some ad) 3 c) (fun K' hK' => ?_) ⟨rfl, rfl⟩
      simp only [ValWp, execOp, Act.eval, e0]
      go_simp
      all_goals exact hK'
    · -- 7: slot 28 := Op.indexAddr 22 t27 (const (2:i64))
      refine OwesU.q rfl (by decide) fun a w bits u hC hs => ⟨rfl, ?_⟩
      have e27 : a.tmps.getD 27 undef = .slice (some ad) 3 c := hs.dep 6 _ rfl rfl
      refine ValWp.pure (v := .pointer (some ⟨ad.block, ad.off + 2, none⟩)) (fun K' hK' => ?_) ⟨rfl, rfl⟩
      simp only [ValWp, execOp, Act.eval, e27]
      go_simp
      all_goals exact hK'
    · -- 8: slot 29 := Op.load 9 t28
      refine OwesU.q rfl (by decide) fun a w bits u hC hs => ⟨rfl, ?_⟩
      have e28 : a.tmps.getD 28 undef = .pointer (some ⟨ad.block, ad.off + 2, none⟩) := hs.dep 7 _ rfl rfl
      have hq := (HK.out w hC.2.1.1).2.2
      refine ValWp.pure (v := .string (mkS z)) (fun K' hK' => ?_) ⟨rfl, rfl⟩
      simp only [ValWp, execOp, Act.eval, e28]
      go_simp
      all_goals exact hK'
    · -- 9: slot 30 := Op.call { value (Operand.func 17), args := #[t23, t26, t29], argTypes := #[9, 9, 9] }
      refine fun a w bits hC hdn hun hs => ⟨rfl, fun K hK => ?_⟩
      have e23 : a.tmps.getD 23 undef = .string (mkS [33]) := hs.dep 2 _ rfl rfl
      have e26 : a.tmps.getD 26 undef = .string (mkS y) := hs.dep 5 _ rfl rfl
      have e29 : a.tmps.getD 29 undef = .string (mkS z) := hs.dep 8 _ rfl rfl
      refine wp_of_val ?_
      refine ValWp.call #[.string (mkS [33]), .string (mkS y), .string (mkS z)] rfl rfl Tryd.func17 rfl rfl (by simp only [List.map_toArray, List.map_cons, List.map_nil, Act.eval, e23, e26, e29]) ?_
      refine (HTH.out w).mono ?_
      rintro e w' ⟨rfl, hl2⟩
      exact ⟨_, rfl, hK _ _ rfl (hC.call hl2)⟩
    · -- 10: slot 20 := Op.move t30
      refine OwesU.q rfl (by decide) fun a w bits u hC hs => ⟨rfl, ?_⟩
      have e30 : a.tmps.getD 30 undef = .tuple #[.agg #[.int .i64 0, .bool false, .bool false, .string ⟨#[]⟩, .string ⟨#[]⟩], .bool false] := hs.dep 9 _ rfl rfl
      refine ValWp.pure (v := .tuple #[.agg #[.int .i64 0, .bool false, .bool false, .string ⟨#[]⟩, .string ⟨#[]⟩], .bool false]) (fun K' hK' => ?_) ⟨rfl, rfl⟩
      simp only [ValWp, execOp, Act.eval, e30]
      go_simp
      all_goals exact hK'
    · -- 11: slot 31 := Op.extract t20 0
      refine OwesU.q rfl (by decide) fun a w bits u hC hs => ⟨rfl, ?_⟩
      have e20 : a.tmps.getD 20 undef = .tuple #[.agg #[.int .i64 0, .bool false, .bool false, .string ⟨#[]⟩, .string ⟨#[]⟩], .bool false] := hs.dep 10 _ rfl rfl
      refine ValWp.pure (v := .agg #[.int .i64 0, .bool false, .bool false, .string ⟨#[]⟩, .string ⟨#[]⟩]) (fun K' hK' => ?_) ⟨rfl, rfl⟩
      simp only [ValWp, execOp, Act.eval, e20]
      go_simp
      all_goals exact hK'
    · -- 12: slot 32 := Op.extract t20 1
      refine OwesU.q rfl (by decide) fun a w bits u hC hs => ⟨rfl, ?_⟩
      have e20 : a.tmps.getD 20 undef = .tuple #[.agg #[.int .i64 0, .bool false, .bool false, .string ⟨#[]⟩, .string ⟨#[]⟩], .bool false] := hs.dep 10 _ rfl rfl
      refine ValWp.pure (v := .bool false) (fun K' hK' => ?_) ⟨rfl, rfl⟩
      simp only [ValWp, execOp, Act.eval, e20]
      go_simp
      all_goals exact hK'
    · -- 13: slot 3 := Op.alloc 29
      refine fun a w bits hC hdn hun hs => ⟨rfl, fun K hK => ?_⟩
      refine wp_of_val ?_
      refine ValWp.pure (v := .pointer (some ⟨w.heap.size, 0, none⟩)) (w' := w.alloc (.cells #[.int .i64 0, .bool false, .bool false, .string ⟨#[]⟩, .string ⟨#[]⟩] 29)) (fun K' hK' => ?_) (hK _ _ trivial (hC.made (hun 2 14 rfl (.inr (by kernel_rfl)))))
      simp only [ValWp, execOp]
      go_simp
      all_goals exact hK'
    · -- 14: slot None := Op.store 29 t3 t31
      refine fun a w bits hC hdn hun hs => ⟨rfl, fun K hK => ?_⟩
      have e31 : a.tmps.getD 31 undef = .agg #[.int .i64 0, .bool false, .bool false, .string ⟨#[]⟩, .string ⟨#[]⟩] := hs.dep 11 _ rfl rfl
      obtain ⟨b, e3, hbn, hbb⟩ := hC.2.2 (hdn 1 13 rfl (by kernel_rfl))
      rw [hun 2 14 rfl (.inl rfl), if_neg (by simp)] at hbb
      exact wp_of_val (ValWp.storeQ (d := val0 0) rfl e3 e31 hbb rfl rfl (hK _ _ trivial (hC.stored e3 hbn hbb)))
    · -- 15: slot 4 := Op.assign t32
      refine OwesU.q rfl (by decide) fun a w bits u hC hs => ⟨rfl, ?_⟩
      have e32 : a.tmps.getD 32 undef = .bool false := hs.dep 12 _ rfl rfl
      refine ValWp.pure (v := .bool false) (fun K' hK' => ?_) ⟨rfl, rfl⟩
      simp only [ValWp, execOp, Act.eval, e32]
      go_simp
      all_goals exact hK'
  · intro a w hC hd hsz hfree hs
    obtain ⟨_, hB, hbx⟩ := hC
    obtain ⟨b, h3, _, hbk⟩ := hbx rfl
    replace hbk : w.heap[b]? = some (.cells (refC (val0 0)) 29 (0, 0)) := hbk
    have HB6 := Lib.hid hB
    have HLW := Lib.hid hB.1
    have hc0 := (HK.out w hB.1).1
    clear hB hbx
    obtain ⟨u20, hu20⟩ : ∃ u, u = a.tmps.getD 20 undef := ⟨_, rfl⟩
    obtain ⟨u21, hu21⟩ : ∃ u, u = a.tmps.getD 21 undef := ⟨_, rfl⟩
    obtain ⟨u22, hu22⟩ : ∃ u, u = a.tmps.getD 22 undef := ⟨_, rfl⟩
    obtain ⟨u23, hu23⟩ : ∃ u, u = a.tmps.getD 23 undef := ⟨_, rfl⟩
    obtain ⟨u24, hu24⟩ : ∃ u, u = a.tmps.getD 24 undef := ⟨_, rfl⟩
    obtain ⟨u25, hu25⟩ : ∃ u, u = a.tmps.getD 25 undef := ⟨_, rfl⟩
    obtain ⟨u26, hu26⟩ : ∃ u, u = a.tmps.getD 26 undef := ⟨_, rfl⟩
    obtain ⟨u27, hu27⟩ : ∃ u, u = a.tmps.getD 27 undef := ⟨_, rfl⟩
    obtain ⟨u28, hu28⟩ : ∃ u, u = a.tmps.getD 28 undef := ⟨_, rfl⟩
    obtain ⟨u29, hu29⟩ : ∃ u, u = a.tmps.getD 29 undef := ⟨_, rfl⟩
    obtain ⟨u30, hu30⟩ : ∃ u, u = a.tmps.getD 30 undef := ⟨_, rfl⟩
    obtain ⟨u31, hu31⟩ : ∃ u, u = a.tmps.getD 31 undef := ⟨_, rfl⟩
    obtain ⟨u32, hu32⟩ : ∃ u, u = a.tmps.getD 32 undef := ⟨_, rfl⟩
    have hal : AllAt a 0 [_, _, _, .pointer (some ⟨b, 0, none⟩), .bool false, _, _, _, _, _, _, _, _, _, _, _, _, _, _, _, u20, u21, u22, u23, u24, u25, u26, u27, u28, u29, u30, u31, u32, _, _, _, _, _, _, _, _, _, _, _, _, _, _, _, _, _, _, _, _, _, _, _, _, _, _, _, _, _, _, _, _, _, _, _, _, _, _, _, _, _, _, _, _, _, _, _] := ⟨hfree 0 rfl, hfree 1 rfl, hfree 2 rfl, h3, hs 15 _ rfl, hfree 5 rfl, hfree 6 rfl, hfree 7 rfl, hfree 8 rfl, hfree 9 rfl, hfree 10 rfl, hfree 11 rfl, hfree 12 rfl, hfree 13 rfl, hfree 14 rfl, hfree 15 rfl, hfree 16 rfl, hfree 17 rfl, hfree 18 rfl, hfree 19 rfl, hu20.symm, hu21.symm, hu22.symm, hu23.symm, hu24.symm, hu25.symm, hu26.symm, hu27.symm, hu28.symm, hu29.symm, hu30.symm, hu31.symm, hu32.symm, hfree 33 rfl, hfree 34 rfl, hfree 35 rfl, hfree 36 rfl, hfree 37 rfl, hfree 38 rfl, hfree 39 rfl, hfree 40 rfl, hfree 41 rfl, hfree 42 rfl, hfree 43 rfl, hfree 44 rfl, hfree 45 rfl, hfree 46 rfl, hfree 47 rfl, hfree 48 rfl, hfree 49 rfl, hfree 50 rfl, hfree 51 rfl, hfree 52 rfl, hfree 53 rfl, hfree 54 rfl, hfree 55 rfl, hfree 56 rfl, hfree 57 rfl, hfree 58 rfl, hfree 59 rfl, hfree 60 rfl, hfree 61 rfl, hfree 62 rfl, hfree 63 rfl, hfree 64 rfl, hfree 65 rfl, hfree 66 rfl, hfree 67 rfl, hfree 68 rfl, hfree 69 rfl, hfree 70 rfl, hfree 71 rfl, hfree 72 rfl, hfree 73 rfl, hfree 74 rfl, hfree 75 rfl, hfree 76 rfl, hfree 77 rfl, hfree 78 rfl, hfree 79 rfl, trivial⟩
    have hlit := fun h => act_lit hd h hal
    rw [hlit hsz]
    simp only [Array.getD_eq_getD_getElem?, List.getElem?_toArray, List.getElem?_cons_zero, List.getElem?_cons_succ, Option.getD_some]
    clear hlit hal hd hsz hfree hs hu20 hu21 hu22 hu23 hu24 hu25 hu26 hu27 hu28 hu29 hu30 hu31 hu32
    go_wp2_with (first
      | (go_at_call 9; (with_reducible refine (HD.out _ HLW.out).mono ?_); rintro e w2 ⟨rfl, hl2⟩; have HL2 := Lib.hid hl2; clear hl2)
      | (go_at_call 18; (with_reducible refine (HTU.out _).mono ?_); rintro e w3 ⟨rfl, hl3⟩; have HST := Lib.hid (And.intro (later_cells (HL2.out.trans hl3) HB6.out.2) (show (#[.int .i64 0, .bool false, .bool false, .string ⟨#[]⟩, .string ⟨#[]⟩] : Array Value).size = 5 from rfl)); have HL3 := Lib.hid (HB6.out.1.trans (HL2.out.trans hl3)); clear hl3)
      | (refine wpList_storeR rfl (.tmp 2) (.tmp 47) rfl W.heap.size _ _ rfl rfl HST ?_; intro w4 hb4 hg4; have HB4 := Lib.hid hb4; have HL4 := Lib.hid (later_of_new HL3.out hg4 (Nat.le_refl _)); clear hb4 hg4))
    refine bodyPost_ret (results_A rfl _ _ W.heap.size _ rfl HB4.out rfl) rfl ?_
    exact ⟨rfl, HL4.out⟩
theorem rdec_3 (ad : Addr) (c : Nat) (hc : 3 ≤ c) (x y z : L) (hs : Short [x, y, z]) (W : World) (h : Cs W ad [x, y, z]) : RDec (.slice (some ad) 3 c) W [x, y, z] := by
  cases hm : mid y x z with
  | some r => exact rdec_3m ad c x y z r hs hm W h
  | none =>
    by_cases hx : x = [33]
    · subst hx; exact rdec_3n ad c hc y z hs hm W h
    · exact rdec_3o ad c x y z hs hm hx W h
set_option maxRecDepth 100000 in
set_option maxHeartbeats 1600000 in
theorem rdec_4n (ad : Addr) (c : Nat) (hc : 4 ≤ c) (y z u : L) (hs : Short [[33], y, z, u]) (W : World) (h : Cs W ad [[33], y, z, u]) : RDec (.slice (some ad) 4 c) W [[33], y, z, u] := by
  have htl : ∀ l, (mkS l).toList = l := toList_mkS
  have HBL := Lib.hid (heap_alloc_new W (.cells #[.int .i64 0, .bool false, .bool false, .string ⟨#[]⟩, .string ⟨#[]⟩] 29))
  have hl0 := Later.alloc W (.cells #[.int .i64 0, .bool false, .bool false, .string ⟨#[]⟩, .string ⟨#[]⟩] 29)
  have HL0 := Lib.hid hl0
  have hcs := h.later hl0
  have hc0 := hcs.c0
  obtain ⟨d1, hd1⟩ : ∃ d1, d1 = dec [y, z, u] := ⟨_, rfl⟩
  obtain ⟨f, hf⟩ : ∃ f, f = turn d1 := ⟨_, rfl⟩
  have HD := Lib.hid (show Calls Tryd.prog 9 #[.slice (some ⟨ad.block, ad.off + 1, none⟩) 3 (c - 1)] (W.alloc (.cells #[.int .i64 0, .bool false, .bool false, .string ⟨#[]⟩, .string ⟨#[]⟩] 29)) fun e W' => e = .returned (refV d1) ∧ Later (W.alloc (.cells #[.int .i64 0, .bool false, .bool false, .string ⟨#[]⟩, .string ⟨#[]⟩] 29)) W' by rw [hd1]; exact rdec_3 _ _ (by omega) y z u (fun t ht => hs t (by simp only [List.mem_cons] at ht ⊢; exact .inr ht)) _ hcs.tail)
  have HTU := Lib.hid (show ∀ W, Calls Tryd.prog 18 #[refV d1] W fun e W' => e = .returned (refV f) ∧ Later W W' from fun W => by rw [hf]; exact turn_v d1 (by rw [hd1]; exact ok_dec _) W)
  have hdd : dec [[33], y, z, u] = f := by rw [hf, hd1]; rfl
  unfold RDec
  rw [hdd]
  have hcn : ¬ c = 1 := by omega
  clear hdd hf hd1 hcs hl0 h hs
  go_enter Tryd.func9, Tryd.ntmps9
  go_wp2_with (first
    | (go_at_call 9; (with_reducible refine HD.out.mono ?_); rintro e w1 ⟨rfl, hl1⟩; have HL1 := Lib.hid hl1; clear hl1)
    | (go_at_call 18; (with_reducible refine (HTU.out _).mono ?_); rintro e w2 ⟨rfl, hl2⟩; have HST := Lib.hid (And.intro (later_cells (HL1.out.trans hl2) HBL.out) (show (#[.int .i64 0, .bool false, .bool false, .string ⟨#[]⟩, .string ⟨#[]⟩] : Array Value).size = 5 from rfl)); have HL2 := Lib.hid (HL0.out.trans (HL1.out.trans hl2)); clear hl2)
    | (refine wpList_storeR rfl (.tmp 2) (.tmp 47) rfl W.heap.size _ _ rfl rfl HST ?_; intro w4 hb4 hg4; have HB4 := Lib.hid hb4; have HL4 := Lib.hid (later_of_new HL2.out hg4 (Nat.le_refl _)); clear hb4 hg4))
  refine bodyPost_ret (results_A rfl _ _ W.heap.size _ rfl HB4.out rfl) rfl ?_
  exact ⟨rfl, HL4.out⟩
set_option maxRecDepth 100000 in
set_option maxHeartbeats 1600000 in
theorem rdec_4o (ad : Addr) (c : Nat) (x y z u : L) (hx : x ≠ [33]) (W : World) (h : Cs W ad [x, y, z, u]) : RDec (.slice (some ad) 4 c) W [x, y, z, u] := by
  have htl : ∀ l, (mkS l).toList = l := toList_mkS
  have HBL := Lib.hid (heap_alloc_new W (.cells #[.int .i64 0, .bool false, .bool false, .string ⟨#[]⟩, .string ⟨#[]⟩] 29))
  have hl0 := Later.alloc W (.cells #[.int .i64 0, .bool false, .bool false, .string ⟨#[]⟩, .string ⟨#[]⟩] 29)
  have HL0 := Lib.hid hl0
  have hc0 := (h.later hl0).c0
  have hdd : dec [x, y, z, u] = val0 2 := by unfold dec; simp [hx]
  unfold RDec
  rw [hdd]
  have q33 : (x == [33]) = false := beq_eq_false_iff_ne.2 hx
  clear hdd hl0 h hx HBL HL0
  go_enter Tryd.func9, Tryd.ntmps9
  go_wp2
  refine bodyPost_ret (results_A rfl _ _ W.heap.size _ rfl (heap_alloc_new _ _) rfl) rfl ?_
  exact ⟨rfl, Later.alloc _ _⟩
/-- Any arguments. -/
theorem rdec_all (A : Option Addr) (n c : Nat) (l : List L) (hn : l.length = n) (hc : n ≤ c) (hs : Short l) (W : World) (hr : Rd W W.heap.size A n (l.map sv)) : RDec (.slice A n c) W l := by
  subst hn
  rcases A with _ | ad
  · rcases Nat.eq_zero_or_pos l.length with h0 | h0
    · obtain rfl := List.eq_nil_of_length_eq_zero h0
      exact rdec_0 _ _ _
    · obtain ⟨ad, e, _⟩ := hr.2 h0
      cases e
  · match l, hs, hc, hr with
    | [], _, _, _ => exact rdec_0 _ _ _
    | [a], _, _, hr => exact rdec_1 ad c a W (Cs.of_rd hr (by simp))
    | [a, b], _, hc, hr => exact rdec_2 ad c hc a b W (Cs.of_rd hr (by simp))
    | [a, b, d], hs, hc, hr => exact rdec_3 ad c hc a b d hs W (Cs.of_rd hr (by simp))
    | [a, b, d, e], hs, hc, hr =>
      by_cases hx : a = [33]
      · subst hx; exact rdec_4n ad c hc b d e hs W (Cs.of_rd hr (by simp))
      · exact rdec_4o ad c a b d e hx W (Cs.of_rd hr (by simp))
    | a :: b :: d :: e :: f :: r, _, _, _ => exact rdec_5 _ _ _ rfl (by simp) _ _
end Ar
end Go.Proofs.YtjidclefpmcgoaaDoor
