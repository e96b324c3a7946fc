/- A result's block that is written whole; turned. The listed variables: their condition. -/
import Derived.Test.YtjidclefpmcgoaaDoorYk
namespace Go.Proofs.YtjidclefpmcgoaaDoor
open Go.RowKit Go.Maps
theorem ValWp.storeR {P : Program} {o : Oper} {ρ : Operand → Value} {w w' : World} {K : Value → World → Prop} {ty : TypeId} {x y : Operand} {p v : Value} (ho : o.op = .store ty x y) (hx : ρ x = p) (hy : ρ y = v) (hr : (Instr.storeAt ty p v).run P w = .ok () w') (hk : K undef w') : ValWp P o ρ w K := by
  unfold ValWp execOp
  simp only [ho, hx, hy, Sem.run_bind, hr, Result.andThen_ok, Sem.run_pure]
  exact hk
namespace Ar
/-- An Ask's cells. -/
def askC (d : D) : Array Value := #[.bool d.nt, .string (mkS d.op), .string (mkS d.path)]
theorem askC_one (d : D) : (askC d).all (·.oneCell') = true := by simp [askC, Value.oneCell']
/-- All blocks but g are kept; g, once it holds what it should, too. -/
structure Kp (g : Nat) (fin : Obj) (w w' : World) : Prop where
  fr : Fr (fun b => b ≠ g) w w'
  fin : w.heap[g]? = some fin → w'.heap[g]? = some fin
theorem Kp.refl {g : Nat} {fin : Obj} (w : World) : Kp g fin w w := ⟨Fr.refl _ w, id⟩
theorem Kp.later {g : Nat} {fin : Obj} {w w' : World} (h : Later w w') : Kp g fin w w' := ⟨Fr.later h, fun h2 => later_cells h h2⟩
theorem Kp.store {g : Nat} {fin : Obj} {w w' : World} (h : w.grownBy w' (some g)) (h2 : w'.heap[g]? = some fin) : Kp g fin w w' := ⟨Fr.grown h (by rintro x e; injection e with e; subst e; simp), fun _ => h2⟩
theorem ask_store {w : World} {g : Nat} {c c' : Array Value} (hb : w.heap[g]? = some (.cells c 25 (0, 0))) (hs : c.size = 3) (hs' : c'.size = 3) (h1 : c'.all (·.oneCell') = true) : ∃ w', (Instr.storeAt 25 (.pointer (some ⟨g, 0, none⟩)) (.agg c')).run Tryd.prog w = .ok () w' ∧ w'.heap[g]? = some (.cells c' 25 (0, 0)) ∧ w.grownBy w' (some g) ∧ w'.heap.size = w.heap.size := by
  refine ⟨w.setRow g c', ?_, setRow_heap w g c c' 25 (0, 0) hb, ⟨rfl, rfl, rfl, by simp, fun k _ hk => setRow_other w g k c' (fun e => hk (by rw [e]))⟩, by simp⟩
  simp only [Instr.storeAt, Instr.sureAddr, Sem.run_bind, Sem.run_pure, Result.andThen]
  exact run_storeVar_row _ _ 25 25 c c' hb (by rw [hs']; kernel_rfl) (hs.trans hs'.symm) h1
theorem ask_load {w : World} {g : Nat} {c : Array Value} (hb : w.heap[g]? = some (.cells c 25 (0, 0))) (hs : c.size = 3) : (Instr.loadAt 25 (.pointer (some ⟨g, 0, none⟩))).run Tryd.prog w = .ok (.agg c) w := by
  simp only [Instr.loadAt, Instr.sureAddr, Sem.run_bind, Sem.run_pure, Result.andThen]
  exact run_loadVar_row w g 25 25 c (0, 0) _ hb Tryd.underlying25 rfl (by rw [hs]; kernel_rfl)
theorem grown_of_Fr {g : Nat} {w w' : World} (h : Fr (fun b => b ≠ g) w w') : w.grownBy w' (some g) := ⟨h.os, h.tape, h.output, h.size, fun k hk hne => h.block k hk (fun e => hne (by rw [e]))⟩
/-- A struct's block is written whole, the world a letter. -/
theorem wpList_storeA {ops : Array Oper} {rest : List Oper} {o : Oper} {a : Act} {w : World} {Q : Exit → Act → World → Prop} (hgd : o.guard = none) (x y : Operand) (ho : o.op = .store 25 x y) (b : Nat) (c c' : Array Value) (hx : a.eval x = .pointer (some ⟨b, 0, none⟩)) (hy : a.eval y = .agg c')
    (hb : Hid (w.heap[b]? = some (.cells c 25 (0, 0)) ∧ c.size = 3 ∧ c'.size = 3 ∧ c'.all (·.oneCell') = true))
    (h : ∀ w1, w1.heap[b]? = some (.cells c' 25 (0, 0)) → w.grownBy w1 (some b) → wpList Tryd.prog ops Q rest (a.put o.dst undef) w1) : wpList Tryd.prog ops Q (o :: rest) a w := by
  obtain ⟨w', h1, h2, h3, _⟩ := ask_store hb.out.1 hb.out.2.1 hb.out.2.2.1 hb.out.2.2.2
  refine wpList_plain hgd fun K hK => ?_
  unfold Oper.wp execOp
  simp only [ho, hx, hy, Sem.run_bind, h1, Result.andThen_ok, Sem.run_pure]
  exact hK _ _ (h w' h2 h3)
set_option maxHeartbeats 3200000 in
set_option maxRecDepth 100000 in
theorem turned_asks (d : D) (ha : d.asks = true) (W : World) : DecC 14 #[.int .i64 d.n, askV d, .bool d.asks] W (turn d) := by
  obtain ⟨f, hf⟩ : ∃ f, f = turn d := ⟨_, rfl⟩
  have hfv : f = ⟨d.n, !d.nt, d.op, d.path, true⟩ := by rw [hf]; unfold turn; rw [ha]; rfl
  rw [← hf, ha]
  have HC0 := Lib.hid (show (fun w => Later W w ∧ w.heap[W.heap.size]? = some (.cells (askC f) 25 (0, 0)) ∧ ∃ cs, cs.size = 3 ∧ w.heap[W.heap.size + 1]? = some (.cells cs 25 (0, 0))) (((W.alloc (.cells (askC f) 25)).alloc (.cells #[.bool false, .string ⟨#[]⟩, .string ⟨#[]⟩] 25)).drew) from
    ⟨((Later.alloc W _).trans (Later.alloc _ _)).trans (Later.drew _), later_cells ((Later.alloc _ _).trans (Later.drew _)) (heap_alloc_new W _), _, rfl, by have := heap_alloc_new (W.alloc (.cells (askC f) 25)) (.cells #[.bool false, .string ⟨#[]⟩, .string ⟨#[]⟩] 25); rw [World.size_alloc] at this; exact this⟩)
  obtain ⟨n, nt, op, path, asks⟩ := d
  simp only at ha hfv ⊢
  have HFV := Lib.hid hfv
  have HDV := Lib.hid (show decV f = .tuple #[.int .i64 n, askV f, .bool true] by rw [hfv]; rfl)
  have HAC := Lib.hid (show askC f = #[.bool (!nt), .string (mkS op), .string (mkS path)] by rw [hfv]; rfl)
  unfold DecC
  rw [HDV.out]
  clear hf ha hfv
  unfold askV
  go_enter Tryd.func14, Tryd.ntmps14
  go_wp2_with fail
  rw [← HAC.out]
  refine wp_region_owes (by kernel_rfl) (fun w => Later W w ∧ w.heap[W.heap.size]? = some (.cells (askC f) 25 (0, 0)) ∧ ∃ cs, cs.size = 3 ∧ w.heap[W.heap.size + 1]? = some (.cells cs 25 (0, 0))) (Kp (W.heap.size + 1) (Obj.cells (askC f) 25 (0, 0))) (Kp.refl) [Sp.val (.int .i64 n), Sp.val (askV f), Sp.val (.bool true), Sp.val (.int .i64 n), (⟨fun _ w => w.heap[W.heap.size + 1]? = some (Obj.cells (askC f) 25 (0, 0)), fun _ _ _ hg h => hg.fin h⟩ : Sp (Kp (W.heap.size + 1) (Obj.cells (askC f) 25 (0, 0)))), Sp.val (.bool true)] (by kernel_rfl) (HC0.out) ?_ ?_
  · refine ⟨?_, ?_, ?_, ?_, ?_, ?_, trivial⟩
    · -- 0: slot 21 := Op.move t0
      refine fun a w hC hs => .inl ⟨?_, ?_⟩
      · rfl
      have e0 : a.tmps.getD 0 undef = .int .i64 n := hs.free 0 rfl
      exact ⟨e0, hC, Kp.refl _⟩
    · -- 1: slot 22 := Op.load 25 t4
      refine fun a w hC hs => .inl ⟨?_, ?_⟩
      · rfl
      have e4 : a.tmps.getD 4 undef = .pointer (some ⟨W.heap.size, 0, none⟩) := hs.free 4 rfl
      exact ValWp.loadR rfl e4 (ask_load hC.2.1 rfl) ⟨rfl, hC, Kp.refl _⟩
    · -- 2: slot 23 := Op.move t2
      refine fun a w hC hs => .inl ⟨?_, ?_⟩
      · rfl
      have e2 : a.tmps.getD 2 undef = .bool true := hs.free 2 rfl
      exact ⟨e2, hC, Kp.refl _⟩
    · -- 3: slot 6 := Op.assign t21
      refine fun a w hC hs => .inl ⟨?_, ?_⟩
      · rfl
      have e21 : a.tmps.getD 21 undef = .int .i64 n := hs.dep 0 _ rfl rfl
      exact ⟨e21, hC, Kp.refl _⟩
    · -- 4: slot None := Op.store 25 t7 t22
      refine fun a w hC hs => .inl ⟨?_, ?_⟩
      · rfl
      have e7 : a.tmps.getD 7 undef = .pointer (some ⟨W.heap.size + 1, 0, none⟩) := hs.free 7 rfl
      have e22 : a.tmps.getD 22 undef = askV f := hs.dep 1 _ rfl rfl
      obtain ⟨hc1, hc2, cs, hc3, hc4⟩ := hC
      obtain ⟨w', h1, h2, h3, _⟩ := ask_store hc4 hc3 rfl (askC_one f)
      exact ValWp.storeR rfl e7 e22 h1 ⟨h2, ⟨later_of_new hc1 h3 (Nat.le_succ _), (h3.block _ (lt_of_block hc2) (fun e => by injection e with e; omega)).trans hc2, _, rfl, h2⟩, Kp.store h3 h2⟩
    · -- 5: slot 8 := Op.assign t23
      refine fun a w hC hs => .inl ⟨?_, ?_⟩
      · rfl
      have e23 : a.tmps.getD 23 undef = .bool true := hs.dep 2 _ rfl rfl
      exact ⟨e23, hC, Kp.refl _⟩
  · intro a w6 hC hd hsz hfree hs
    have HFN := Lib.hid (hs 4 _ rfl)
    have HC6 := Lib.hid hC
    obtain ⟨u21, hu21⟩ : ∃ u, u = a.tmps.getD 21 undef := ⟨_, rfl⟩
    obtain ⟨u22, hu22⟩ : ∃ u, u = a.tmps.getD 22 undef := ⟨_, rfl⟩
    obtain ⟨u23, hu23⟩ : ∃ u, u = a.tmps.getD 23 undef := ⟨_, rfl⟩
    have hal : AllAt a 0 [_, _, _, _, _, _, .int .i64 n, .pointer (some ⟨W.heap.size + 1, 0, none⟩), .bool true, _, _, _, _, _, _, _, _, _, _, _, _, u21, u22, u23] := ⟨hfree 0 rfl, hfree 1 rfl, hfree 2 rfl, hfree 3 rfl, hfree 4 rfl, hfree 5 rfl, hs 3 _ rfl, hfree 7 rfl, hs 5 _ rfl, hfree 9 rfl, hfree 10 rfl, hfree 11 rfl, hfree 12 rfl, hfree 13 rfl, hfree 14 rfl, hfree 15 rfl, hfree 16 rfl, hfree 17 rfl, hfree 18 rfl, hfree 19 rfl, hfree 20 rfl, hu21.symm, hu22.symm, hu23.symm, trivial⟩
    have hlit := fun h => act_lit hd h hal
    rw [hlit hsz]
    simp only [Array.getD_eq_getD_getElem?, List.getElem?_toArray, List.getElem?_cons_zero, List.getElem?_cons_succ, Option.getD_some]
    clear hlit hal hd hsz hfree hs hu21 hu22 hu23
    clear hC
    go_wp2
    refine bodyPost_ret (results_ask rfl _ _ (W.heap.size + 1) _ rfl HFN.out rfl _ rfl _ rfl) rfl ?_
    exact ⟨rfl, HC6.out.1⟩
set_option maxHeartbeats 3200000 in
set_option maxRecDepth 100000 in
theorem turned_two (d : D) (ha : d.asks = false) (hn : d.n = 2) (W : World) : DecC 14 #[.int .i64 d.n, askV d, .bool d.asks] W (turn d) := by
  obtain ⟨f, hf⟩ : ∃ f, f = turn d := ⟨_, rfl⟩
  have hfv : f = ⟨2, d.nt, d.op, d.path, false⟩ := by rw [hf]; unfold turn; rw [ha]; simp [hn]
  rw [← hf, ha]
  have HC0 := Lib.hid (show (fun w => Later W w ∧ w.heap[W.heap.size]? = some (.cells (askC f) 25 (0, 0)) ∧ ∃ cs, cs.size = 3 ∧ w.heap[W.heap.size + 1]? = some (.cells cs 25 (0, 0))) (((W.alloc (.cells (askC f) 25)).alloc (.cells #[.bool false, .string ⟨#[]⟩, .string ⟨#[]⟩] 25)).drew) from
    ⟨((Later.alloc W _).trans (Later.alloc _ _)).trans (Later.drew _), later_cells ((Later.alloc _ _).trans (Later.drew _)) (heap_alloc_new W _), _, rfl, by have := heap_alloc_new (W.alloc (.cells (askC f) 25)) (.cells #[.bool false, .string ⟨#[]⟩, .string ⟨#[]⟩] 25); rw [World.size_alloc] at this; exact this⟩)
  obtain ⟨n, nt, op, path, asks⟩ := d
  simp only at ha hfv hn ⊢
  have HAC := Lib.hid (show askC f = #[.bool nt, .string (mkS op), .string (mkS path)] by rw [hfv]; rfl)
  obtain ⟨m, hm⟩ : ∃ m : Int, m = 2 := ⟨_, rfl⟩
  subst hn
  have HDV := Lib.hid (show decV f = .tuple #[.int .i64 m, askV f, .bool false] by rw [hfv, hm]; rfl)
  unfold DecC
  rw [HDV.out]
  clear hf ha hfv
  unfold askV
  go_enter Tryd.func14, Tryd.ntmps14
  go_wp2_with fail
  rw [← HAC.out]
  rw [← hm]
  clear hm
  refine wp_region_owes (by kernel_rfl) (fun w => Later W w ∧ w.heap[W.heap.size]? = some (.cells (askC f) 25 (0, 0)) ∧ ∃ cs, cs.size = 3 ∧ w.heap[W.heap.size + 1]? = some (.cells cs 25 (0, 0))) (Kp (W.heap.size + 1) (Obj.cells (askC f) 25 (0, 0))) (Kp.refl) [Sp.val (.int .i64 m), Sp.val (askV f), Sp.val (.bool false), Sp.val (.int .i64 m), (⟨fun _ w => w.heap[W.heap.size + 1]? = some (Obj.cells (askC f) 25 (0, 0)), fun _ _ _ hg h => hg.fin h⟩ : Sp (Kp (W.heap.size + 1) (Obj.cells (askC f) 25 (0, 0)))), Sp.val (.bool false)] (by kernel_rfl) (HC0.out) ?_ ?_
  · refine ⟨?_, ?_, ?_, ?_, ?_, ?_, trivial⟩
    · -- 0: slot 21 := Op.move t0
      refine fun a w hC hs => .inl ⟨?_, ?_⟩
      · rfl
      have e0 : a.tmps.getD 0 undef = .int .i64 m := hs.free 0 rfl
      exact ⟨e0, hC, Kp.refl _⟩
    · -- 1: slot 22 := Op.load 25 t4
      refine fun a w hC hs => .inl ⟨?_, ?_⟩
      · rfl
      have e4 : a.tmps.getD 4 undef = .pointer (some ⟨W.heap.size, 0, none⟩) := hs.free 4 rfl
      exact ValWp.loadR rfl e4 (ask_load hC.2.1 rfl) ⟨rfl, hC, Kp.refl _⟩
    · -- 2: slot 23 := Op.move t2
      refine fun a w hC hs => .inl ⟨?_, ?_⟩
      · rfl
      have e2 : a.tmps.getD 2 undef = .bool false := hs.free 2 rfl
      exact ⟨e2, hC, Kp.refl _⟩
    · -- 3: slot 6 := Op.assign t21
      refine fun a w hC hs => .inl ⟨?_, ?_⟩
      · rfl
      have e21 : a.tmps.getD 21 undef = .int .i64 m := hs.dep 0 _ rfl rfl
      exact ⟨e21, hC, Kp.refl _⟩
    · -- 4: slot None := Op.store 25 t7 t22
      refine fun a w hC hs => .inl ⟨?_, ?_⟩
      · rfl
      have e7 : a.tmps.getD 7 undef = .pointer (some ⟨W.heap.size + 1, 0, none⟩) := hs.free 7 rfl
      have e22 : a.tmps.getD 22 undef = askV f := hs.dep 1 _ rfl rfl
      obtain ⟨hc1, hc2, cs, hc3, hc4⟩ := hC
      obtain ⟨w', h1, h2, h3, _⟩ := ask_store hc4 hc3 rfl (askC_one f)
      exact ValWp.storeR rfl e7 e22 h1 ⟨h2, ⟨later_of_new hc1 h3 (Nat.le_succ _), (h3.block _ (lt_of_block hc2) (fun e => by injection e with e; omega)).trans hc2, _, rfl, h2⟩, Kp.store h3 h2⟩
    · -- 5: slot 8 := Op.assign t23
      refine fun a w hC hs => .inl ⟨?_, ?_⟩
      · rfl
      have e23 : a.tmps.getD 23 undef = .bool false := hs.dep 2 _ rfl rfl
      exact ⟨e23, hC, Kp.refl _⟩
  · intro a w6 hC hd hsz hfree hs
    have HFN := Lib.hid (hs 4 _ rfl)
    have HC6 := Lib.hid hC
    obtain ⟨u21, hu21⟩ : ∃ u, u = a.tmps.getD 21 undef := ⟨_, rfl⟩
    obtain ⟨u22, hu22⟩ : ∃ u, u = a.tmps.getD 22 undef := ⟨_, rfl⟩
    obtain ⟨u23, hu23⟩ : ∃ u, u = a.tmps.getD 23 undef := ⟨_, rfl⟩
    have hal : AllAt a 0 [_, _, _, _, _, _, .int .i64 m, .pointer (some ⟨W.heap.size + 1, 0, none⟩), .bool false, _, _, _, _, _, _, _, _, _, _, _, _, u21, u22, u23] := ⟨hfree 0 rfl, hfree 1 rfl, hfree 2 rfl, hfree 3 rfl, hfree 4 rfl, hfree 5 rfl, hs 3 _ rfl, hfree 7 rfl, hs 5 _ rfl, hfree 9 rfl, hfree 10 rfl, hfree 11 rfl, hfree 12 rfl, hfree 13 rfl, hfree 14 rfl, hfree 15 rfl, hfree 16 rfl, hfree 17 rfl, hfree 18 rfl, hfree 19 rfl, hfree 20 rfl, hu21.symm, hu22.symm, hu23.symm, trivial⟩
    have hlit := fun h => act_lit hd h hal
    rw [hlit hsz]
    simp only [Array.getD_eq_getD_getElem?, List.getElem?_toArray, List.getElem?_cons_zero, List.getElem?_cons_succ, Option.getD_some]
    clear hlit hal hd hsz hfree hs hu21 hu22 hu23
    clear hC
    go_wp2
    refine bodyPost_ret (results_ask rfl _ _ (W.heap.size + 1) _ rfl HFN.out rfl _ rfl _ rfl) rfl ?_
    exact ⟨rfl, HC6.out.1⟩
set_option maxHeartbeats 3200000 in
set_option maxRecDepth 100000 in
theorem turned_one (d : D) (ha : d.asks = false) (hn : d.n ≠ 2) (W : World) : DecC 14 #[.int .i64 d.n, askV d, .bool d.asks] W (turn d) := by
  obtain ⟨f, hf⟩ : ∃ f, f = turn d := ⟨_, rfl⟩
  have hfv : f = ⟨t01 (d.n == 1), d.nt, d.op, d.path, false⟩ := by rw [hf]; unfold turn; rw [ha]; simp [hn]
  rw [← hf, ha]
  have HC0 := Lib.hid (show (fun w => Later W w ∧ w.heap[W.heap.size]? = some (.cells (askC f) 25 (0, 0)) ∧ ∃ cs, cs.size = 3 ∧ w.heap[W.heap.size + 1]? = some (.cells cs 25 (0, 0))) (((W.alloc (.cells (askC f) 25)).alloc (.cells #[.bool false, .string ⟨#[]⟩, .string ⟨#[]⟩] 25)).drew) from
    ⟨((Later.alloc W _).trans (Later.alloc _ _)).trans (Later.drew _), later_cells ((Later.alloc _ _).trans (Later.drew _)) (heap_alloc_new W _), _, rfl, by have := heap_alloc_new (W.alloc (.cells (askC f) 25)) (.cells #[.bool false, .string ⟨#[]⟩, .string ⟨#[]⟩] 25); rw [World.size_alloc] at this; exact this⟩)
  obtain ⟨n, nt, op, path, asks⟩ := d
  simp only at ha hfv hn ⊢
  have HAC := Lib.hid (show askC f = #[.bool nt, .string (mkS op), .string (mkS path)] by rw [hfv]; rfl)
  obtain ⟨b, hb⟩ : ∃ b, (n == 1) = b := ⟨_, rfl⟩
  obtain ⟨m, hm⟩ : ∃ m : Int, m = t01 b := ⟨_, rfl⟩
  have HT := Lib.hid (fun W => told_v b W)
  rw [← hm] at HT
  have hn1 : (n != 2) = true := by rw [bne_iff_ne]; exact hn
  have HDV := Lib.hid (show decV f = .tuple #[.int .i64 m, askV f, .bool false] by rw [hfv, hm, hb]; rfl)
  unfold DecC
  rw [HDV.out]
  clear hf ha hfv
  unfold askV
  go_enter Tryd.func14, Tryd.ntmps14
  clear hm hn
  go_wp2_with (go_at_call 11; (with_reducible refine (HT.out _).mono ?_); rintro e w1 ⟨rfl, rfl⟩)
  rw [← HAC.out]
  refine wp_region_owes (by kernel_rfl) (fun w => Later W w ∧ w.heap[W.heap.size]? = some (.cells (askC f) 25 (0, 0)) ∧ ∃ cs, cs.size = 3 ∧ w.heap[W.heap.size + 1]? = some (.cells cs 25 (0, 0))) (Kp (W.heap.size + 1) (Obj.cells (askC f) 25 (0, 0))) (Kp.refl) [Sp.val (.int .i64 m), Sp.val (askV f), Sp.val (.bool false), Sp.val (.int .i64 m), (⟨fun _ w => w.heap[W.heap.size + 1]? = some (Obj.cells (askC f) 25 (0, 0)), fun _ _ _ hg h => hg.fin h⟩ : Sp (Kp (W.heap.size + 1) (Obj.cells (askC f) 25 (0, 0)))), Sp.val (.bool false)] (by kernel_rfl) (HC0.out) ?_ ?_
  · refine ⟨?_, ?_, ?_, ?_, ?_, ?_, trivial⟩
    · -- 0: slot 21 := Op.move t0
      refine fun a w hC hs => .inl ⟨?_, ?_⟩
      · rfl
      have e0 : a.tmps.getD 0 undef = .int .i64 m := hs.free 0 rfl
      exact ⟨e0, hC, Kp.refl _⟩
    · -- 1: slot 22 := Op.load 25 t4
      refine fun a w hC hs => .inl ⟨?_, ?_⟩
      · rfl
      have e4 : a.tmps.getD 4 undef = .pointer (some ⟨W.heap.size, 0, none⟩) := hs.free 4 rfl
      exact ValWp.loadR rfl e4 (ask_load hC.2.1 rfl) ⟨rfl, hC, Kp.refl _⟩
    · -- 2: slot 23 := Op.move t2
      refine fun a w hC hs => .inl ⟨?_, ?_⟩
      · rfl
      have e2 : a.tmps.getD 2 undef = .bool false := hs.free 2 rfl
      exact ⟨e2, hC, Kp.refl _⟩
    · -- 3: slot 6 := Op.assign t21
      refine fun a w hC hs => .inl ⟨?_, ?_⟩
      · rfl
      have e21 : a.tmps.getD 21 undef = .int .i64 m := hs.dep 0 _ rfl rfl
      exact ⟨e21, hC, Kp.refl _⟩
    · -- 4: slot None := Op.store 25 t7 t22
      refine fun a w hC hs => .inl ⟨?_, ?_⟩
      · rfl
      have e7 : a.tmps.getD 7 undef = .pointer (some ⟨W.heap.size + 1, 0, none⟩) := hs.free 7 rfl
      have e22 : a.tmps.getD 22 undef = askV f := hs.dep 1 _ rfl rfl
      obtain ⟨hc1, hc2, cs, hc3, hc4⟩ := hC
      obtain ⟨w', h1, h2, h3, _⟩ := ask_store hc4 hc3 rfl (askC_one f)
      exact ValWp.storeR rfl e7 e22 h1 ⟨h2, ⟨later_of_new hc1 h3 (Nat.le_succ _), (h3.block _ (lt_of_block hc2) (fun e => by injection e with e; omega)).trans hc2, _, rfl, h2⟩, Kp.store h3 h2⟩
    · -- 5: slot 8 := Op.assign t23
      refine fun a w hC hs => .inl ⟨?_, ?_⟩
      · rfl
      have e23 : a.tmps.getD 23 undef = .bool false := hs.dep 2 _ rfl rfl
      exact ⟨e23, hC, Kp.refl _⟩
  · intro a w6 hC hd hsz hfree hs
    have HFN := Lib.hid (hs 4 _ rfl)
    have HC6 := Lib.hid hC
    obtain ⟨u21, hu21⟩ : ∃ u, u = a.tmps.getD 21 undef := ⟨_, rfl⟩
    obtain ⟨u22, hu22⟩ : ∃ u, u = a.tmps.getD 22 undef := ⟨_, rfl⟩
    obtain ⟨u23, hu23⟩ : ∃ u, u = a.tmps.getD 23 undef := ⟨_, rfl⟩
    have hal : AllAt a 0 [_, _, _, _, _, _, .int .i64 m, .pointer (some ⟨W.heap.size + 1, 0, none⟩), .bool false, _, _, _, _, _, _, _, _, _, _, _, _, u21, u22, u23] := ⟨hfree 0 rfl, hfree 1 rfl, hfree 2 rfl, hfree 3 rfl, hfree 4 rfl, hfree 5 rfl, hs 3 _ rfl, hfree 7 rfl, hs 5 _ rfl, hfree 9 rfl, hfree 10 rfl, hfree 11 rfl, hfree 12 rfl, hfree 13 rfl, hfree 14 rfl, hfree 15 rfl, hfree 16 rfl, hfree 17 rfl, hfree 18 rfl, hfree 19 rfl, hfree 20 rfl, hu21.symm, hu22.symm, hu23.symm, trivial⟩
    have hlit := fun h => act_lit hd h hal
    rw [hlit hsz]
    simp only [Array.getD_eq_getD_getElem?, List.getElem?_toArray, List.getElem?_cons_zero, List.getElem?_cons_succ, Option.getD_some]
    clear hlit hal hd hsz hfree hs hu21 hu22 hu23
    clear hC
    go_wp2
    refine bodyPost_ret (results_ask rfl _ _ (W.heap.size + 1) _ rfl HFN.out rfl _ rfl _ rfl) rfl ?_
    exact ⟨rfl, HC6.out.1⟩
theorem turned_v (d : D) (W : World) : DecC 14 #[.int .i64 d.n, askV d, .bool d.asks] W (turn d) := by
  cases ha : d.asks with
  | true => have := turned_asks d ha W; rwa [ha] at this
  | false =>
    by_cases hn : d.n = 2
    · have := turned_two d ha hn W; rwa [ha] at this
    · have := turned_one d ha hn W; rwa [ha] at this
end Ar
end Go.Proofs.YtjidclefpmcgoaaDoor
