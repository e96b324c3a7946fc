/- The document's Join, Of, Bare; the law's of; rows that are the same. No premises. -/
import Derived.BigRegion
import Derived.Test.YtghdimcdkjlpcaaJi
namespace Go.Proofs.Ytghdimcdkjlpcaa
open Go.RowKit Go.Maps
namespace Jo
theorem mkS_toList (l : L) : (mkS l).toList = l := by rw [ByteArray.toList_eq]; simp [mkS]
def sameB (a b c d : L) : Bool := decide (a = c) && decide (b = d)
/-- Two rows are the same, or not. -/
theorem eql_R (a b c d : L) (w : World) : (binOp .eql 29 (.agg #[.string (mkS a), .string (mkS b)]) (.agg #[.string (mkS c), .string (mkS d)])).run Try.prog w = .ok (.bool (sameB a b c d)) w := by
  have hS : Try.prog.underlying 29 = some (.struct (Try.prog.fieldsOf 29)) := by kernel_rfl
  have hp : Try.prog.stoodInHeld 29 = false := by kernel_rfl
  have us := Try.underlying9
  have as_ := Try.isAgg9
  have zs := Try.sizeOf9
  rw [run_eql_struct, show (10000 : Nat) = 9999 + 1 from rfl, run_equalIn_agg w 9999 29 _ _ hS hp]
  simp only [Program.fieldsOf, Try.underlying29]
  go_simp
  rw [mkS_toList, mkS_toList, mkS_toList, mkS_toList]
  unfold sameB
  by_cases h1 : a = c <;> by_cases h2 : b = d <;> simp [h1, h2]
/-- Two rows are the same, or not. -/
theorem neq_R (a b c d : L) (w : World) : (binOp .neq 29 (.agg #[.string (mkS a), .string (mkS b)]) (.agg #[.string (mkS c), .string (mkS d)])).run Try.prog w = .ok (.bool (!sameB a b c d)) w := by
  have hS : Try.prog.underlying 29 = some (.struct (Try.prog.fieldsOf 29)) := by kernel_rfl
  have hp : Try.prog.stoodInHeld 29 = false := by kernel_rfl
  have us := Try.underlying9
  have as_ := Try.isAgg9
  have zs := Try.sizeOf9
  rw [run_neq_struct, show (10000 : Nat) = 9999 + 1 from rfl, run_equalIn_agg w 9999 29 _ _ hS hp]
  simp only [Program.fieldsOf, Try.underlying29]
  go_simp
  rw [mkS_toList, mkS_toList, mkS_toList, mkS_toList]
  unfold sameB
  by_cases h1 : a = c <;> by_cases h2 : b = d <;> simp [h1, h2]
/-- Two rows are the same, or not. -/
theorem eql_Row (a b c d : L) (w : World) : (binOp .eql 23 (.agg #[.string (mkS a), .string (mkS b)]) (.agg #[.string (mkS c), .string (mkS d)])).run Try.prog w = .ok (.bool (sameB a b c d)) w := by
  have hS : Try.prog.underlying 23 = some (.struct (Try.prog.fieldsOf 23)) := by kernel_rfl
  have hp : Try.prog.stoodInHeld 23 = false := by kernel_rfl
  have us := Try.underlying9
  have as_ := Try.isAgg9
  have zs := Try.sizeOf9
  rw [run_eql_struct, show (10000 : Nat) = 9999 + 1 from rfl, run_equalIn_agg w 9999 23 _ _ hS hp]
  simp only [Program.fieldsOf, Try.underlying23]
  go_simp
  rw [mkS_toList, mkS_toList, mkS_toList, mkS_toList]
  unfold sameB
  by_cases h1 : a = c <;> by_cases h2 : b = d <;> simp [h1, h2]
/-- Two rows are the same, or not. -/
theorem neq_Row (a b c d : L) (w : World) : (binOp .neq 23 (.agg #[.string (mkS a), .string (mkS b)]) (.agg #[.string (mkS c), .string (mkS d)])).run Try.prog w = .ok (.bool (!sameB a b c d)) w := by
  have hS : Try.prog.underlying 23 = some (.struct (Try.prog.fieldsOf 23)) := by kernel_rfl
  have hp : Try.prog.stoodInHeld 23 = false := by kernel_rfl
  have us := Try.underlying9
  have as_ := Try.isAgg9
  have zs := Try.sizeOf9
  rw [run_neq_struct, show (10000 : Nat) = 9999 + 1 from rfl, run_equalIn_agg w 9999 23 _ _ hS hp]
  simp only [Program.fieldsOf, Try.underlying23]
  go_simp
  rw [mkS_toList, mkS_toList, mkS_toList, mkS_toList]
  unfold sameB
  by_cases h1 : a = c <;> by_cases h2 : b = d <;> simp [h1, h2]
theorem results_R {fn : Func} {p : Tmp} (h : fn.results = #[.cell p 29]) (tmps : Array Value) (w : World) (g : Nat) (cs : Array Value) (fr : Nat × Nat) (hp : tmps.getD p undef = .pointer (some ⟨g, 0, none⟩)) (hg : w.heap[g]? = some (.cells cs 29 fr)) (hs : cs.size = 2) : (results fn tmps).run Try.prog w = .ok (.agg cs) w :=
  results_cell_row h tmps w g _ cs fr _ hp hg Try.underlying29 rfl (by rw [hs]; kernel_rfl)
set_option maxRecDepth 100000 in
theorem of_l (t m : L) (w : World) : Calls Try.prog 11 #[.agg #[.string (mkS t), .string (mkS m)]] w fun e w' => e = .returned (.agg #[.string (mkS t), .string (mkS m)]) ∧ Later w w' := by
  have HL := Lib.hid ((Later.alloc w (.cells #[.string (mkS t), .string (mkS m)] 23)).trans (Later.alloc _ (.cells #[.string (mkS t), .string (mkS m)] 29)))
  have HN := Lib.hid (heap_alloc_new (w.alloc (.cells #[.string (mkS t), .string (mkS m)] 23)) (.cells #[.string (mkS t), .string (mkS m)] 29))
  rw [World.size_alloc] at HN
  go_enter Try.func11, Try.ntmps11
  go_wp2
  refine bodyPost_ret (results_R rfl _ _ (w.heap.size + 1) _ (0, 0) rfl HN.out rfl) rfl ?_
  exact ⟨rfl, HL.out⟩
theorem extract_take (S : L) (k : Nat) : (mkS S).extract 0 k = mkS (S.take k) := by
  apply ByteArray.ext
  simp [mkS]
theorem ft_zip (t m : L) : ft (t.zip m) = t.take (t.zip m).length := by
  unfold ft
  induction t generalizing m with
  | nil => simp
  | cons a t ih => cases m with
    | nil => simp
    | cons b m => simp [ih]
theorem fm_zip (t m : L) : fm (t.zip m) = m.take (t.zip m).length := by
  unfold fm
  induction t generalizing m with
  | nil => simp
  | cons a t ih => cases m with
    | nil => simp
    | cons b m => simp [ih]
set_option maxRecDepth 100000 in
set_option maxHeartbeats 3200000 in
theorem rjoin_v (t m s q : L) (w : World) (ht : t.length ≤ 1000000) (hm : m.length ≤ 1000000) (hs : s.length ≤ 1000000) (hq : q.length ≤ 1000000) :
    Calls Try.prog 13 #[.agg #[.string (mkS t), .string (mkS m)], .agg #[.string (mkS s), .string (mkS q)]] w fun e w' => e = .returned (.agg #[.string (mkS (ft (t.zip m ++ s.zip q))), .string (mkS (fm (t.zip m ++ s.zip q)))]) ∧ Later w w' := by
  have z1 : (t.zip m).length = min t.length m.length := List.length_zip
  have z2 : (s.zip q).length = min s.length q.length := List.length_zip
  obtain ⟨n1, hn1⟩ : ∃ n, n = (t.zip m).length := ⟨_, rfl⟩
  obtain ⟨n2, hn2⟩ : ∃ n, n = (s.zip q).length := ⟨_, rfl⟩
  have HS1 := Lib.hid (fun W => size_v t m W)
  have HS2 := Lib.hid (fun W => size_v s q W)
  rw [← hn1] at HS1 z1
  rw [← hn2] at HS2 z2
  have HX1 := Lib.hid (show n1 ≤ (mkS t).size ∧ (mkS t).extract 0 n1 = mkS (ft (t.zip m)) from ⟨by rw [mkS_size]; omega, by rw [extract_take, ft_zip, hn1]⟩)
  have HX2 := Lib.hid (show n1 ≤ (mkS m).size ∧ (mkS m).extract 0 n1 = mkS (fm (t.zip m)) from ⟨by rw [mkS_size]; omega, by rw [extract_take, fm_zip, hn1]⟩)
  have HX3 := Lib.hid (show n2 ≤ (mkS s).size ∧ (mkS s).extract 0 n2 = mkS (ft (s.zip q)) from ⟨by rw [mkS_size]; omega, by rw [extract_take, ft_zip, hn2]⟩)
  have HX4 := Lib.hid (show n2 ≤ (mkS q).size ∧ (mkS q).extract 0 n2 = mkS (fm (s.zip q)) from ⟨by rw [mkS_size]; omega, by rw [extract_take, fm_zip, hn2]⟩)
  have HY1 := Lib.hid (show ¬ 9223372036854775807 < (mkS (ft (t.zip m))).size + (mkS (ft (s.zip q))).size ∧ mkS (ft (t.zip m)) ++ mkS (ft (s.zip q)) = mkS (ft (t.zip m ++ s.zip q)) from ⟨by rw [mkS_size, mkS_size]; unfold ft; rw [List.length_map, List.length_map]; omega, by rw [mkS_add]; unfold ft; rw [List.map_append]⟩)
  have HY2 := Lib.hid (show ¬ 9223372036854775807 < (mkS (fm (t.zip m))).size + (mkS (fm (s.zip q))).size ∧ mkS (fm (t.zip m)) ++ mkS (fm (s.zip q)) = mkS (fm (t.zip m ++ s.zip q)) from ⟨by rw [mkS_size, mkS_size]; unfold fm; rw [List.length_map, List.length_map]; omega, by rw [mkS_add]; unfold fm; rw [List.map_append]⟩)
  clear z1 z2 hn1 hn2
  obtain ⟨o1, ho1⟩ : ∃ o : Obj, o = .cells #[.string (mkS t), .string (mkS m)] 29 := ⟨_, rfl⟩
  obtain ⟨o2, ho2⟩ : ∃ o : Obj, o = .cells #[.string (mkS s), .string (mkS q)] 29 := ⟨_, rfl⟩
  obtain ⟨o3, ho3⟩ : ∃ o : Obj, o = .cells #[.string ⟨#[]⟩, .string ⟨#[]⟩] 29 := ⟨_, rfl⟩
  have l1 := Later.alloc w o1
  have l2 := Later.alloc (w.alloc o1) o2
  have l3 := Later.alloc ((w.alloc o1).alloc o2) o3
  have y1 : (w.alloc o1).heap.size = w.heap.size + 1 := World.size_alloc ..
  have y2 : ((w.alloc o1).alloc o2).heap.size = w.heap.size + 1 + 1 := by rw [World.size_alloc, y1]
  have k2 := heap_alloc_new (w.alloc o1) o2
  have k3 := heap_alloc_new ((w.alloc o1).alloc o2) o3
  rw [y1] at k2
  rw [y2] at k3
  have HF := Lib.hid (show Later w (((w.alloc o1).alloc o2).alloc o3) ∧ (((w.alloc o1).alloc o2).alloc o3).heap[w.heap.size]? = some o1 ∧ (((w.alloc o1).alloc o2).alloc o3).heap[w.heap.size + 1]? = some o2 ∧ (((w.alloc o1).alloc o2).alloc o3).heap[w.heap.size + 1 + 1]? = some o3 from ⟨(l1.trans l2).trans l3, later_cells l3 (later_cells l2 (heap_alloc_new w o1)), later_cells l3 k2, k3⟩)
  rw [ho1, ho2, ho3] at HF
  clear l1 l2 l3 y1 y2 k2 k3 ho1 ho2 ho3 o1 o2 o3
  go_enter Try.func13, Try.ntmps13
  go_wp2_with (first
    | (go_at_call 19; (with_reducible refine (HS1.out _).mono ?_); rintro e w1 ⟨rfl, hl1⟩; obtain ⟨f0, f1, f2, f3⟩ := HF.out; (have g1 := later_cells hl1 f1); (have g2 := later_cells hl1 f2); (have g3 := later_cells hl1 f3); (have HG := Lib.hid (And.intro (f0.trans hl1) (And.intro g1 (And.intro g2 g3)))); (have c20 : w1.cell? ⟨w.heap.size + 1, 0, none⟩ = some (.string (mkS s)) := (cell_row g2 0).1); (have c21 : w1.cell? ⟨w.heap.size + 1, 1, none⟩ = some (.string (mkS q)) := (cell_row g2 1).1); clear f0 f1 f2 f3 g1 g2 g3 hl1)
    | (go_at_call 19; (with_reducible refine (HS2.out _).mono ?_); rintro e w2 ⟨rfl, hl1⟩; obtain ⟨f0, f1, f2, f3⟩ := HG.out; (have g1 := later_cells hl1 f1); (have g2 := later_cells hl1 f2); (have g3 := later_cells hl1 f3); (have HK := Lib.hid (And.intro (f0.trans hl1) g3)); (have d10 : w2.cell? ⟨w.heap.size, 0, none⟩ = some (.string (mkS t)) := (cell_row g1 0).1); (have d11 : w2.cell? ⟨w.heap.size, 1, none⟩ = some (.string (mkS m)) := (cell_row g1 1).1); (have d20 : w2.cell? ⟨w.heap.size + 1, 0, none⟩ = some (.string (mkS s)) := (cell_row g2 0).1); (have d21 : w2.cell? ⟨w.heap.size + 1, 1, none⟩ = some (.string (mkS q)) := (cell_row g2 1).1); (have d30 : w2.cell? ⟨w.heap.size + 1 + 1, 0, none⟩ = some (.string ⟨#[]⟩) := (cell_row g3 0).1); (have d31 : w2.cell? ⟨w.heap.size + 1 + 1, 1, none⟩ = some (.string ⟨#[]⟩) := (cell_row g3 1).1); (have dz := fun i => (cell_row g3 i).2); clear f0 f1 f2 f3 g1 g2 g3 hl1))
  have hz := fun k => (dz k : w2.frozen? ⟨w.heap.size + 1 + 1, k, none⟩ = false)
  obtain ⟨C0, hC0⟩ : ∃ C0 : Nat → Value → World → Prop, C0 = fun j _ w9 => (j = 0 ∧ w9 = w2.drew) ∨ (j = 1 ∧ w9 = (w2.drew.setCell ⟨w.heap.size + 1 + 1, 0, none⟩ (.string (mkS (ft (t.zip m ++ s.zip q))))).setCell ⟨w.heap.size + 1 + 1, 1, none⟩ (.string (mkS (fm (t.zip m ++ s.zip q))))) := ⟨_, rfl⟩
  have H0 := Lib.hid (show C0 0 undef w2.drew by rw [hC0]; exact .inl ⟨rfl, rfl⟩)
  have H1 := Lib.hid (show C0 1 undef ((w2.drew.setCell ⟨w.heap.size + 1 + 1, 0, none⟩ (.string (mkS (ft (t.zip m ++ s.zip q))))).setCell ⟨w.heap.size + 1 + 1, 1, none⟩ (.string (mkS (fm (t.zip m ++ s.zip q))))) by rw [hC0]; exact .inr ⟨rfl, rfl⟩)
  have HB := Lib.hid (show ∀ (j : Nat) (u : Value) (w9 : World), C0 j u w9 → j ≤ 0 → w9.cell? ⟨w.heap.size, 0, none⟩ = some (.string (mkS t)) ∧ w9.cell? ⟨w.heap.size, 1, none⟩ = some (.string (mkS m)) ∧ w9.cell? ⟨w.heap.size + 1, 0, none⟩ = some (.string (mkS s)) ∧ w9.cell? ⟨w.heap.size + 1, 1, none⟩ = some (.string (mkS q)) from fun j u w9 hc hj => by
    rw [hC0] at hc
    rcases hc with ⟨_, rfl⟩ | ⟨e, _⟩
    · exact ⟨d10, d11, d20, d21⟩
    · omega)
  have HA := Lib.hid (show ∀ (u : Value) (w9 : World), C0 0 u w9 → w9 = w2.drew from fun u w9 hc => by
    rw [hC0] at hc
    rcases hc with ⟨_, e⟩ | ⟨e, _⟩
    · exact e
    · cases e)
  have HD := Lib.hid (show w2.drew.cell? ⟨w.heap.size + 1 + 1, 0, none⟩ = some (.string ⟨#[]⟩) ∧ w2.drew.cell? ⟨w.heap.size + 1 + 1, 1, none⟩ = some (.string ⟨#[]⟩) ∧ ∀ k, w2.drew.frozen? ⟨w.heap.size + 1 + 1, k, none⟩ = false from ⟨d30, d31, dz⟩)
  have HE := Lib.hid (show ∀ (u : Value) (w9 : World), C0 1 u w9 → w9 = (w2.drew.setCell ⟨w.heap.size + 1 + 1, 0, none⟩ (.string (mkS (ft (t.zip m ++ s.zip q))))).setCell ⟨w.heap.size + 1 + 1, 1, none⟩ (.string (mkS (fm (t.zip m ++ s.zip q)))) from fun u w9 hc => by
    rw [hC0] at hc
    rcases hc with ⟨e, _⟩ | ⟨_, e⟩
    · cases e
    · exact e)
  clear hC0
  refine wp_region_seq (by kernel_rfl) [19] (C0) [some (.pointer (some ⟨w.heap.size, 0, none⟩)), some (.string (mkS t)), some (.int .i64 (n1 : Int)), some (.string (mkS (ft (t.zip m)))), some (.pointer (some ⟨w.heap.size + 1, 0, none⟩)), some (.string (mkS s)), some (.int .i64 (n2 : Int)), some (.string (mkS (ft (s.zip q)))), some (.string (mkS (ft (t.zip m ++ s.zip q)))), some (.pointer (some ⟨w.heap.size, 1, none⟩)), some (.string (mkS m)), some (.int .i64 (n1 : Int)), some (.string (mkS (fm (t.zip m)))), some (.pointer (some ⟨w.heap.size + 1, 1, none⟩)), some (.string (mkS q)), some (.int .i64 (n2 : Int)), some (.string (mkS (fm (s.zip q)))), some (.string (mkS (fm (t.zip m ++ s.zip q)))), some (.agg #[.string (mkS (ft (t.zip m ++ s.zip q))), .string (mkS (fm (t.zip m ++ s.zip q)))]), none] (by decide) (by decide) (by kernel_rfl) (by kernel_rfl) (H0.out) ?_ ?_
  · refine ⟨?_, ?_, ?_, ?_, ?_, ?_, ?_, ?_, ?_, ?_, ?_, ?_, ?_, ?_, ?_, ?_, ?_, ?_, ?_, ?_, trivial⟩
    · -- 0: slot 11 := Op.fieldAddr 29 t2 0
      refine OwesS.q rfl fun a w9 j u hC hb hs => ⟨rfl, ?_⟩
      have e2 : a.tmps.getD 2 undef = .pointer (some ⟨w.heap.size, 0, none⟩) := hs.free 2 rfl
      refine ValWp.pure (v := .pointer (some ⟨w.heap.size, 0, none⟩)) (fun K' hK' => ?_) ⟨rfl, rfl⟩
      simp only [ValWp, execOp, Act.eval, e2]
      go_simp
      all_goals exact hK'
    · -- 1: slot 12 := Op.load 9 t11
      refine OwesS.q rfl fun a w9 j u hC hb hs => ⟨rfl, ?_⟩
      have e11 : a.tmps.getD 11 undef = .pointer (some ⟨w.heap.size, 0, none⟩) := hs.dep 0 _ rfl rfl
      obtain ⟨k0, k1, k2, k3⟩ := HB.out j u w9 hC (hb 0 19 rfl rfl)
      refine ValWp.pure (v := .string (mkS t)) (fun K' hK' => ?_) ⟨rfl, rfl⟩
      simp only [ValWp, execOp, Act.eval, e11]
      go_simp
      all_goals exact hK'
    · -- 2: slot 13 := Op.move t5
      refine OwesS.q rfl fun a w9 j u hC hb hs => ⟨rfl, ?_⟩
      have e5 : a.tmps.getD 5 undef = .int .i64 (n1 : Int) := hs.free 5 rfl
      refine ValWp.pure (v := .int .i64 (n1 : Int)) (fun K' hK' => ?_) ⟨rfl, rfl⟩
      simp only [ValWp, execOp, Act.eval, e5]
      go_simp
      all_goals exact hK'
    · -- 3: slot 14 := Op.slice 9 t12 none (some t13) none
      refine OwesS.q rfl fun a w9 j u hC hb hs => ⟨rfl, ?_⟩
      have e12 : a.tmps.getD 12 undef = .string (mkS t) := hs.dep 1 _ rfl rfl
      have e13 : a.tmps.getD 13 undef = .int .i64 (n1 : Int) := hs.dep 2 _ rfl rfl
      refine ValWp.pure (v := .string (mkS (ft (t.zip m)))) (fun K' hK' => ?_) ⟨rfl, rfl⟩
      simp only [ValWp, execOp, Act.eval, e12, e13]
      go_simp
      rw [if_pos HX1.out.1, HX1.out.2]
      exact hK'
    · -- 4: slot 15 := Op.fieldAddr 29 t3 0
      refine OwesS.q rfl fun a w9 j u hC hb hs => ⟨rfl, ?_⟩
      have e3 : a.tmps.getD 3 undef = .pointer (some ⟨w.heap.size + 1, 0, none⟩) := hs.free 3 rfl
      refine ValWp.pure (v := .pointer (some ⟨w.heap.size + 1, 0, none⟩)) (fun K' hK' => ?_) ⟨rfl, rfl⟩
      simp only [ValWp, execOp, Act.eval, e3]
      go_simp
      all_goals exact hK'
    · -- 5: slot 16 := Op.load 9 t15
      refine OwesS.q rfl fun a w9 j u hC hb hs => ⟨rfl, ?_⟩
      have e15 : a.tmps.getD 15 undef = .pointer (some ⟨w.heap.size + 1, 0, none⟩) := hs.dep 4 _ rfl rfl
      obtain ⟨k0, k1, k2, k3⟩ := HB.out j u w9 hC (hb 0 19 rfl rfl)
      refine ValWp.pure (v := .string (mkS s)) (fun K' hK' => ?_) ⟨rfl, rfl⟩
      simp only [ValWp, execOp, Act.eval, e15]
      go_simp
      all_goals exact hK'
    · -- 6: slot 17 := Op.move t6
      refine OwesS.q rfl fun a w9 j u hC hb hs => ⟨rfl, ?_⟩
      have e6 : a.tmps.getD 6 undef = .int .i64 (n2 : Int) := hs.free 6 rfl
      refine ValWp.pure (v := .int .i64 (n2 : Int)) (fun K' hK' => ?_) ⟨rfl, rfl⟩
      simp only [ValWp, execOp, Act.eval, e6]
      go_simp
      all_goals exact hK'
    · -- 7: slot 18 := Op.slice 9 t16 none (some t17) none
      refine OwesS.q rfl fun a w9 j u hC hb hs => ⟨rfl, ?_⟩
      have e16 : a.tmps.getD 16 undef = .string (mkS s) := hs.dep 5 _ rfl rfl
      have e17 : a.tmps.getD 17 undef = .int .i64 (n2 : Int) := hs.dep 6 _ rfl rfl
      refine ValWp.pure (v := .string (mkS (ft (s.zip q)))) (fun K' hK' => ?_) ⟨rfl, rfl⟩
      simp only [ValWp, execOp, Act.eval, e16, e17]
      go_simp
      rw [if_pos HX3.out.1, HX3.out.2]
      exact hK'
    · -- 8: slot 19 := Op.binOp BinOp.add 9 t14 t18 9
      refine OwesS.q rfl fun a w9 j u hC hb hs => ⟨rfl, ?_⟩
      have e14 : a.tmps.getD 14 undef = .string (mkS (ft (t.zip m))) := hs.dep 3 _ rfl rfl
      have e18 : a.tmps.getD 18 undef = .string (mkS (ft (s.zip q))) := hs.dep 7 _ rfl rfl
      refine ValWp.pure (v := .string (mkS (ft (t.zip m ++ s.zip q)))) (fun K' hK' => ?_) ⟨rfl, rfl⟩
      simp only [ValWp, execOp, Act.eval, e14, e18]
      go_simp
      rw [if_neg HY1.out.1, HY1.out.2]
      exact hK'
    · -- 9: slot 20 := Op.fieldAddr 29 t2 1
      refine OwesS.q rfl fun a w9 j u hC hb hs => ⟨rfl, ?_⟩
      have e2 : a.tmps.getD 2 undef = .pointer (some ⟨w.heap.size, 0, none⟩) := hs.free 2 rfl
      refine ValWp.pure (v := .pointer (some ⟨w.heap.size, 1, none⟩)) (fun K' hK' => ?_) ⟨rfl, rfl⟩
      simp only [ValWp, execOp, Act.eval, e2]
      go_simp
      all_goals exact hK'
    · -- 10: slot 21 := Op.load 9 t20
      refine OwesS.q rfl fun a w9 j u hC hb hs => ⟨rfl, ?_⟩
      have e20 : a.tmps.getD 20 undef = .pointer (some ⟨w.heap.size, 1, none⟩) := hs.dep 9 _ rfl rfl
      obtain ⟨k0, k1, k2, k3⟩ := HB.out j u w9 hC (hb 0 19 rfl rfl)
      refine ValWp.pure (v := .string (mkS m)) (fun K' hK' => ?_) ⟨rfl, rfl⟩
      simp only [ValWp, execOp, Act.eval, e20]
      go_simp
      all_goals exact hK'
    · -- 11: slot 22 := Op.move t5
      refine OwesS.q rfl fun a w9 j u hC hb hs => ⟨rfl, ?_⟩
      have e5 : a.tmps.getD 5 undef = .int .i64 (n1 : Int) := hs.free 5 rfl
      refine ValWp.pure (v := .int .i64 (n1 : Int)) (fun K' hK' => ?_) ⟨rfl, rfl⟩
      simp only [ValWp, execOp, Act.eval, e5]
      go_simp
      all_goals exact hK'
    · -- 12: slot 23 := Op.slice 9 t21 none (some t22) none
      refine OwesS.q rfl fun a w9 j u hC hb hs => ⟨rfl, ?_⟩
      have e21 : a.tmps.getD 21 undef = .string (mkS m) := hs.dep 10 _ rfl rfl
      have e22 : a.tmps.getD 22 undef = .int .i64 (n1 : Int) := hs.dep 11 _ rfl rfl
      refine ValWp.pure (v := .string (mkS (fm (t.zip m)))) (fun K' hK' => ?_) ⟨rfl, rfl⟩
      simp only [ValWp, execOp, Act.eval, e21, e22]
      go_simp
      rw [if_pos HX2.out.1, HX2.out.2]
      exact hK'
    · -- 13: slot 24 := Op.fieldAddr 29 t3 1
      refine OwesS.q rfl fun a w9 j u hC hb hs => ⟨rfl, ?_⟩
      have e3 : a.tmps.getD 3 undef = .pointer (some ⟨w.heap.size + 1, 0, none⟩) := hs.free 3 rfl
      refine ValWp.pure (v := .pointer (some ⟨w.heap.size + 1, 1, none⟩)) (fun K' hK' => ?_) ⟨rfl, rfl⟩
      simp only [ValWp, execOp, Act.eval, e3]
      go_simp
      all_goals exact hK'
    · -- 14: slot 25 := Op.load 9 t24
      refine OwesS.q rfl fun a w9 j u hC hb hs => ⟨rfl, ?_⟩
      have e24 : a.tmps.getD 24 undef = .pointer (some ⟨w.heap.size + 1, 1, none⟩) := hs.dep 13 _ rfl rfl
      obtain ⟨k0, k1, k2, k3⟩ := HB.out j u w9 hC (hb 0 19 rfl rfl)
      refine ValWp.pure (v := .string (mkS q)) (fun K' hK' => ?_) ⟨rfl, rfl⟩
      simp only [ValWp, execOp, Act.eval, e24]
      go_simp
      all_goals exact hK'
    · -- 15: slot 26 := Op.move t6
      refine OwesS.q rfl fun a w9 j u hC hb hs => ⟨rfl, ?_⟩
      have e6 : a.tmps.getD 6 undef = .int .i64 (n2 : Int) := hs.free 6 rfl
      refine ValWp.pure (v := .int .i64 (n2 : Int)) (fun K' hK' => ?_) ⟨rfl, rfl⟩
      simp only [ValWp, execOp, Act.eval, e6]
      go_simp
      all_goals exact hK'
    · -- 16: slot 27 := Op.slice 9 t25 none (some t26) none
      refine OwesS.q rfl fun a w9 j u hC hb hs => ⟨rfl, ?_⟩
      have e25 : a.tmps.getD 25 undef = .string (mkS q) := hs.dep 14 _ rfl rfl
      have e26 : a.tmps.getD 26 undef = .int .i64 (n2 : Int) := hs.dep 15 _ rfl rfl
      refine ValWp.pure (v := .string (mkS (fm (s.zip q)))) (fun K' hK' => ?_) ⟨rfl, rfl⟩
      simp only [ValWp, execOp, Act.eval, e25, e26]
      go_simp
      rw [if_pos HX4.out.1, HX4.out.2]
      exact hK'
    · -- 17: slot 28 := Op.binOp BinOp.add 9 t23 t27 9
      refine OwesS.q rfl fun a w9 j u hC hb hs => ⟨rfl, ?_⟩
      have e23 : a.tmps.getD 23 undef = .string (mkS (fm (t.zip m))) := hs.dep 12 _ rfl rfl
      have e27 : a.tmps.getD 27 undef = .string (mkS (fm (s.zip q))) := hs.dep 16 _ rfl rfl
      refine ValWp.pure (v := .string (mkS (fm (t.zip m ++ s.zip q)))) (fun K' hK' => ?_) ⟨rfl, rfl⟩
      simp only [ValWp, execOp, Act.eval, e23, e27]
      go_simp
      rw [if_neg HY2.out.1, HY2.out.2]
      exact hK'
    · -- 18: slot 29 := Op.build 29 #[(0, t19), (1, t28)]
      refine OwesS.q rfl fun a w9 j u hC hb hs => ⟨rfl, ?_⟩
      have e19 : a.tmps.getD 19 undef = .string (mkS (ft (t.zip m ++ s.zip q))) := hs.dep 8 _ rfl rfl
      have e28 : a.tmps.getD 28 undef = .string (mkS (fm (t.zip m ++ s.zip q))) := hs.dep 17 _ rfl rfl
      refine ValWp.pure (v := .agg #[.string (mkS (ft (t.zip m ++ s.zip q))), .string (mkS (fm (t.zip m ++ s.zip q)))]) (fun K' hK' => ?_) ⟨rfl, rfl⟩
      simp only [ValWp, execOp, Act.eval, List.map_toArray, List.map_cons, List.map_nil, e19, e28]
      go_simp
      all_goals exact hK'
    · -- 19: slot None := Op.store 29 t4 t29
      refine OwesS.w rfl fun a w9 u hC hl hs => ⟨rfl, fun K hK => ?_⟩
      have e4 : a.tmps.getD 4 undef = .pointer (some ⟨w.heap.size + 1 + 1, 0, none⟩) := hs.free 4 rfl
      have e29 : a.tmps.getD 29 undef = .agg #[.string (mkS (ft (t.zip m ++ s.zip q))), .string (mkS (fm (t.zip m ++ s.zip q)))] := hs.dep 18 _ rfl rfl
      have hw := HA.out u w9 hC
      subst hw
      obtain ⟨x0, x1, x2⟩ := HD.out
      refine wp_of_val ?_
      refine ValWp.pure (v := undef) (w' := (w2.drew.setCell ⟨w.heap.size + 1 + 1, 0, none⟩ (.string (mkS (ft (t.zip m ++ s.zip q))))).setCell ⟨w.heap.size + 1 + 1, 1, none⟩ (.string (mkS (fm (t.zip m ++ s.zip q))))) (fun K' hK' => ?_) (hK _ _ trivial H1.out)
      simp only [ValWp, execOp, Act.eval, e4, e29]
      go_simp
      all_goals exact hK'
  · intro a w9 u hC hl hd hsz hfree hs
    obtain ⟨u0, hu0⟩ : ∃ u, u = a.tmps.getD 0 undef := ⟨_, rfl⟩
    obtain ⟨u1, hu1⟩ : ∃ u, u = a.tmps.getD 1 undef := ⟨_, rfl⟩
    obtain ⟨u2, hu2⟩ : ∃ u, u = a.tmps.getD 2 undef := ⟨_, rfl⟩
    obtain ⟨u3, hu3⟩ : ∃ u, u = a.tmps.getD 3 undef := ⟨_, rfl⟩
    obtain ⟨u5, hu5⟩ : ∃ u, u = a.tmps.getD 5 undef := ⟨_, rfl⟩
    obtain ⟨u6, hu6⟩ : ∃ u, u = a.tmps.getD 6 undef := ⟨_, rfl⟩
    obtain ⟨u7, hu7⟩ : ∃ u, u = a.tmps.getD 7 undef := ⟨_, rfl⟩
    obtain ⟨u8, hu8⟩ : ∃ u, u = a.tmps.getD 8 undef := ⟨_, rfl⟩
    obtain ⟨u9, hu9⟩ : ∃ u, u = a.tmps.getD 9 undef := ⟨_, rfl⟩
    obtain ⟨u10, hu10⟩ : ∃ u, u = a.tmps.getD 10 undef := ⟨_, rfl⟩
    obtain ⟨u11, hu11⟩ : ∃ u, u = a.tmps.getD 11 undef := ⟨_, rfl⟩
    obtain ⟨u12, hu12⟩ : ∃ u, u = a.tmps.getD 12 undef := ⟨_, rfl⟩
    obtain ⟨u13, hu13⟩ : ∃ u, u = a.tmps.getD 13 undef := ⟨_, rfl⟩
    obtain ⟨u14, hu14⟩ : ∃ u, u = a.tmps.getD 14 undef := ⟨_, rfl⟩
    obtain ⟨u15, hu15⟩ : ∃ u, u = a.tmps.getD 15 undef := ⟨_, rfl⟩
    obtain ⟨u16, hu16⟩ : ∃ u, u = a.tmps.getD 16 undef := ⟨_, rfl⟩
    obtain ⟨u17, hu17⟩ : ∃ u, u = a.tmps.getD 17 undef := ⟨_, rfl⟩
    obtain ⟨u18, hu18⟩ : ∃ u, u = a.tmps.getD 18 undef := ⟨_, rfl⟩
    obtain ⟨u19, hu19⟩ : ∃ u, u = a.tmps.getD 19 undef := ⟨_, rfl⟩
    obtain ⟨u20, hu20⟩ : ∃ u, u = a.tmps.getD 20 undef := ⟨_, rfl⟩
    obtain ⟨u21, hu21⟩ : ∃ u, u = a.tmps.getD 21 undef := ⟨_, rfl⟩
    obtain ⟨u22, hu22⟩ : ∃ u, u = a.tmps.getD 22 undef := ⟨_, rfl⟩
    obtain ⟨u23, hu23⟩ : ∃ u, u = a.tmps.getD 23 undef := ⟨_, rfl⟩
    obtain ⟨u24, hu24⟩ : ∃ u, u = a.tmps.getD 24 undef := ⟨_, rfl⟩
    obtain ⟨u25, hu25⟩ : ∃ u, u = a.tmps.getD 25 undef := ⟨_, rfl⟩
    obtain ⟨u26, hu26⟩ : ∃ u, u = a.tmps.getD 26 undef := ⟨_, rfl⟩
    obtain ⟨u27, hu27⟩ : ∃ u, u = a.tmps.getD 27 undef := ⟨_, rfl⟩
    obtain ⟨u28, hu28⟩ : ∃ u, u = a.tmps.getD 28 undef := ⟨_, rfl⟩
    obtain ⟨u29, hu29⟩ : ∃ u, u = a.tmps.getD 29 undef := ⟨_, rfl⟩
    have hal : AllAt a 0 [u0, u1, u2, u3, .pointer (some ⟨w.heap.size + 1 + 1, 0, none⟩), u5, u6, u7, u8, u9, u10, u11, u12, u13, u14, u15, u16, u17, u18, u19, u20, u21, u22, u23, u24, u25, u26, u27, u28, u29] := ⟨hu0.symm, hu1.symm, hu2.symm, hu3.symm, hfree 4 rfl, hu5.symm, hu6.symm, hu7.symm, hu8.symm, hu9.symm, hu10.symm, hu11.symm, hu12.symm, hu13.symm, hu14.symm, hu15.symm, hu16.symm, hu17.symm, hu18.symm, hu19.symm, hu20.symm, hu21.symm, hu22.symm, hu23.symm, hu24.symm, hu25.symm, hu26.symm, hu27.symm, hu28.symm, hu29.symm, trivial⟩
    have hlit := fun h => act_lit hd h hal
    rw [hlit hsz]
    clear hlit hal hd hsz hfree hs hu0 hu1 hu2 hu3 hu5 hu6 hu7 hu8 hu9 hu10 hu11 hu12 hu13 hu14 hu15 hu16 hu17 hu18 hu19 hu20 hu21 hu22 hu23 hu24 hu25 hu26 hu27 hu28 hu29
    have hw := HE.out u w9 hC
    obtain ⟨f0, f1⟩ := HK.out
    have h0 : w2.drew.heap[w.heap.size + 1 + 1]? = some (.cells #[.string ⟨#[]⟩, .string ⟨#[]⟩] 29 (0, 0)) := f1
    have h1 := set_row h0 0 (.string (mkS (ft (t.zip m ++ s.zip q))))
    have h2 := set_row h1 1 (.string (mkS (fm (t.zip m ++ s.zip q))))
    rw [← hw] at h2
    have hl : Later w w9 := by rw [hw]; exact later_of_new (later_of_new (Later.trans f0 (Later.drew w2)) (set_only _ _ _ _) (by omega)) (set_only _ _ _ _) (by omega)
    have HH2 := Lib.hid h2
    have HHL := Lib.hid hl
    clear hC hw f0 f1 h0 h1 h2 hl
    go_wp2
    refine bodyPost_ret (results_R rfl _ _ (w.heap.size + 1 + 1) _ (0, 0) rfl HH2.out rfl) rfl ?_
    exact ⟨rfl, HHL.out⟩
end Jo
end Go.Proofs.Ytghdimcdkjlpcaa
