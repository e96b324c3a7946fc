/- TesterFiles' walk. The listed variables: their condition. -/
import Derived.Test.YtjidclefpmcgoaaDoorYw
namespace Go.Proofs.YtjidclefpmcgoaaDoor
open Go.RowKit Go.Maps
namespace Ar
set_option maxHeartbeats 3200000 in
set_option maxRecDepth 100000 in
theorem files_0 (path : L) (hp : path.length ≤ 60) (wh : Int) (hw0 : 0 ≤ wh) (hw1 : wh < 256) (hmd : wh.tmod 3 = 0) (k e n m : Int) (t : ByteArray) (A : Option Addr) (ln c : Nat) (s : Int) (W : World) (hvd : Vd W) : Calls Tryd.prog 6 #[.string (mkS path), .int .u8 wh, .agg #[.int .i64 k, .int .i64 e, .int .i64 n, .int .i64 m, .string t, .slice A ln c, .int .i64 s]] W fun r W' => r = .returned (.bool true) ∧ Later W W' := by
  have htl : ∀ l, (mkS l).toList = l := toList_mkS
  have hl0 := Later.alloc W (.cells #[.int .i64 k, .int .i64 e, .int .i64 n, .int .i64 m, .string t, .slice A ln c, .int .i64 s] 33)
  have HAW := Lib.hid (awake_v _ (hvd.later hl0))
  have HBA := Lib.hid (heap_alloc_new W (.cells #[.int .i64 k, .int .i64 e, .int .i64 n, .int .i64 m, .string t, .slice A ln c, .int .i64 s] 33))
  have HVD := Lib.hid hvd
  have HL0 := Lib.hid hl0
  have hsz : (mkS path).size = path.length := mkS_size path
  obtain ⟨z, hz⟩ : ∃ z, z = path.length := ⟨_, rfl⟩
  rw [← hz] at hsz
  have hzi : ¬ (60 : Int) < (z : Int) := by omega
  have hme : wh % 3 = 0 := by rw [← hmd]; exact (Int.tmod_eq_emod_of_nonneg hw0).symm
  have hsh : Short [[45, 101], path] := fun x hx => by
    simp only [List.mem_cons, List.not_mem_nil, or_false] at hx
    rcases hx with rfl | rfl
    · simp
    · omega
  have hsh3 : Short [[33], [45, 101], path] := fun x hx => by
    simp only [List.mem_cons, List.not_mem_nil, or_false] at hx
    rcases hx with rfl | rfl | rfl
    · simp
    · simp
    · omega
  have HD1 := Lib.hid (fun w hv N hN => lit_dec [[45, 101], path] hsh 2 rfl #[.string ⟨#[45, 101]⟩, .string (mkS path)] rfl w hv (.tuple #[.int .i64 0, .agg #[.bool false, .string ⟨#[45, 101]⟩, .string (mkS path)], .bool true]) rfl N hN)
  have HD2 := Lib.hid (fun w hv N hN => lit_dec [[33], [45, 101], path] hsh3 3 rfl #[.string ⟨#[33]⟩, .string ⟨#[45, 101]⟩, .string (mkS path)] rfl w hv (.tuple #[.int .i64 0, .agg #[.bool true, .string ⟨#[45, 101]⟩, .string (mkS path)], .bool true]) rfl N hN)
  obtain ⟨b0, h0⟩ : ∃ b, (e == 0) = b := ⟨_, rfl⟩
  have hib : isB [45, 101] e n = (b0) := by unfold isB; rw [h0]; rw [show (([45, 101] : L) != [45, 102]) = true from rfl, show (([45, 101] : L) != [45, 100]) = true from rfl]; simp
  have HX := Lib.hid (show ∀ w, Calls Tryd.prog 10 #[.agg #[.bool false, .string ⟨#[45, 101]⟩, .string (mkS path)], .agg #[.int .i64 k, .int .i64 e, .int .i64 n, .int .i64 m, .string t, .slice A ln c, .int .i64 s]] w fun r w' => r = .returned (.int .i64 (t01 ((b0) != false))) ∧ Later w w' from fun w => by rw [← hib]; exact answer_v false [45, 101] path k e n m t A ln c s w)
  have HY := Lib.hid (show ∀ w, Calls Tryd.prog 10 #[.agg #[.bool true, .string ⟨#[45, 101]⟩, .string (mkS path)], .agg #[.int .i64 k, .int .i64 e, .int .i64 n, .int .i64 m, .string t, .slice A ln c, .int .i64 s]] w fun r w' => r = .returned (.int .i64 (t01 ((b0) != true))) ∧ Later w w' from fun w => by rw [← hib]; exact answer_v true [45, 101] path k e n m t A ln c s w)
  obtain ⟨be, hbe⟩ : ∃ b, (path == [61]) = b := ⟨_, rfl⟩
  clear hvd hl0 hp hz hsh hsh3 hib
  go_enter Tryd.func6, Tryd.ntmps6
  go_wp2_with fail
  go_at_call 7
  with_reducible refine HAW.out.mono ?_
  rintro ew w1 ⟨rfl, hl1⟩
  have HL1 := Lib.hid (HL0.out.trans hl1)
  have HBA1 := Lib.hid (later_cells hl1 HBA.out)
  clear hl1
  go_wp2_with fail
  go_at_call 8
  with_reducible refine (HD1.out _ (HVD.out.later (HL1.out.trans (Later.alloc _ _))) (w1.heap.size + 1) (World.size_alloc _ _).symm).mono ?_
  rintro e1 w2 ⟨rfl, hl2⟩
  have HLa := Lib.hid (((Later.alloc w1 _).trans (Later.alloc _ _)).trans hl2)
  clear hl2
  go_wp2_with fail
  go_at_call 8
  have HL2 := Lib.hid (HL1.out.trans HLa.out)
  with_reducible refine (HD2.out _ (HVD.out.later (HL2.out.trans (Later.alloc _ _))) (w2.heap.size + 1) (World.size_alloc _ _).symm).mono ?_
  rintro e3 w3 ⟨rfl, hl3⟩
  obtain ⟨W3, hW3⟩ : ∃ W3, W3 = w3.alloc (.cells #[.bool true, .string ⟨#[45, 101]⟩, .string (mkS path)] 25) := ⟨_, rfl⟩
  have hL3 : Later w2 W3 := by rw [hW3]; exact (((Later.alloc w2 (.cells #[.bool false, .string ⟨#[45, 101]⟩, .string (mkS path)] 25)).trans (Later.alloc _ _)).trans hl3).trans (Later.alloc w3 _)
  have hBQ : W3.heap[w2.heap.size]? = some (.cells #[.bool false, .string ⟨#[45, 101]⟩, .string (mkS path)] 25 (0, 0)) := by rw [hW3]; exact later_cells (((Later.alloc _ _).trans hl3).trans (Later.alloc w3 _)) (heap_alloc_new w2 _)
  have hBP : W3.heap[w3.heap.size]? = some (.cells #[.bool true, .string ⟨#[45, 101]⟩, .string (mkS path)] 25 (0, 0)) := by rw [hW3]; exact heap_alloc_new w3 _
  have hBA3 := later_cells (HLa.out.trans hL3) HBA1.out
  have HC := Lib.hid (fun w (hl : Later W3 w) => And.intro (later_cells hl hBQ) (And.intro (later_cells hl hBP) (later_cells hl hBA3)))
  have HL3 := Lib.hid (HL2.out.trans hL3)
  have facts : ∀ w, Later W3 w → w.cell? ⟨w2.heap.size, 0, none⟩ = some (.bool false) ∧ w.cell? ⟨w2.heap.size, 1, none⟩ = some (.string ⟨#[45, 101]⟩) ∧ w.cell? ⟨w2.heap.size, 2, none⟩ = some (.string (mkS path)) ∧ w.cell? ⟨w3.heap.size, 0, none⟩ = some (.bool true) ∧ w.cell? ⟨w3.heap.size, 1, none⟩ = some (.string ⟨#[45, 101]⟩) ∧ w.cell? ⟨w3.heap.size, 2, none⟩ = some (.string (mkS path)) ∧ w.cell? ⟨W.heap.size, 0, none⟩ = some (.int .i64 k) ∧ w.cell? ⟨W.heap.size, 1, none⟩ = some (.int .i64 e) ∧ w.cell? ⟨W.heap.size, 2, none⟩ = some (.int .i64 n) ∧ w.cell? ⟨W.heap.size, 3, none⟩ = some (.int .i64 m) ∧ w.cell? ⟨W.heap.size, 4, none⟩ = some (.string t) ∧ w.cell? ⟨W.heap.size, 5, none⟩ = some (.slice A ln c) ∧ w.cell? ⟨W.heap.size, 6, none⟩ = some (.int .i64 s) := fun w hl => by
    obtain ⟨c1, c2, c3⟩ := HC.out w hl
    exact ⟨(cell_row c1 0).1, (cell_row c1 1).1, (cell_row c1 2).1, (cell_row c2 0).1, (cell_row c2 1).1, (cell_row c2 2).1, (cell_row c3 0).1, (cell_row c3 1).1, (cell_row c3 2).1, (cell_row c3 3).1, (cell_row c3 4).1, (cell_row c3 5).1, (cell_row c3 6).1⟩
  have HF := Lib.hid facts
  obtain ⟨q0, q1, q2, p0, p1, p2, a0, a1, a2, a3, a4, a5, a6⟩ := facts W3 (Later.refl _)
  clear hL3 hBQ hBP hBA3 hl3 facts
  rw [hW3] at q0 q1 q2 p0 p1 p2 a0 a1 a2 a3 a4 a5 a6
  cases be
  · go_wp2_with fail
    go_at_call 10
    rw [← hW3]
    with_reducible refine (HX.out _).mono ?_
    rintro e4 w4 ⟨rfl, hl4⟩
    have HL4 := Lib.hid hl4
    clear q0 q1 q2 p0 p1 p2 a0 a1 a2 a3 a4 a5 a6
    obtain ⟨q0, q1, q2, p0, p1, p2, a0, a1, a2, a3, a4, a5, a6⟩ := HF.out w4 hl4
    clear hl4
    go_wp2_with fail
    go_at_call 10
    with_reducible refine (HY.out _).mono ?_
    rintro e5 w5 ⟨rfl, hl5⟩
    have HL5 := Lib.hid (HL4.out.trans hl5)
    clear hl5 q0 q1 q2 p0 p1 p2 a0 a1 a2 a3 a4 a5 a6
    obtain ⟨q0, q1, q2, p0, p1, p2, a0, a1, a2, a3, a4, a5, a6⟩ := HF.out w5 HL5.out
    have ht0 : t01 true = 0 := rfl
    have ht1 : t01 false = 1 := rfl
    cases b0
    all_goals (
      go_wp2
      go_ret
      exact ⟨rfl, HL3.out.trans HL5.out⟩)
  · go_wp2
    go_ret
    rw [← hW3]
    exact ⟨rfl, HL3.out⟩
set_option maxHeartbeats 3200000 in
set_option maxRecDepth 100000 in
theorem files_1 (path : L) (hp : path.length ≤ 60) (wh : Int) (hw0 : 0 ≤ wh) (hw1 : wh < 256) (hmd : wh.tmod 3 = 1) (k e n m : Int) (t : ByteArray) (A : Option Addr) (ln c : Nat) (s : Int) (W : World) (hvd : Vd W) : Calls Tryd.prog 6 #[.string (mkS path), .int .u8 wh, .agg #[.int .i64 k, .int .i64 e, .int .i64 n, .int .i64 m, .string t, .slice A ln c, .int .i64 s]] W fun r W' => r = .returned (.bool true) ∧ Later W W' := by
  have htl : ∀ l, (mkS l).toList = l := toList_mkS
  have hl0 := Later.alloc W (.cells #[.int .i64 k, .int .i64 e, .int .i64 n, .int .i64 m, .string t, .slice A ln c, .int .i64 s] 33)
  have HAW := Lib.hid (awake_v _ (hvd.later hl0))
  have HBA := Lib.hid (heap_alloc_new W (.cells #[.int .i64 k, .int .i64 e, .int .i64 n, .int .i64 m, .string t, .slice A ln c, .int .i64 s] 33))
  have HVD := Lib.hid hvd
  have HL0 := Lib.hid hl0
  have hsz : (mkS path).size = path.length := mkS_size path
  obtain ⟨z, hz⟩ : ∃ z, z = path.length := ⟨_, rfl⟩
  rw [← hz] at hsz
  have hzi : ¬ (60 : Int) < (z : Int) := by omega
  have hme : wh % 3 = 1 := by rw [← hmd]; exact (Int.tmod_eq_emod_of_nonneg hw0).symm
  have hsh : Short [[45, 102], path] := fun x hx => by
    simp only [List.mem_cons, List.not_mem_nil, or_false] at hx
    rcases hx with rfl | rfl
    · simp
    · omega
  have hsh3 : Short [[33], [45, 102], path] := fun x hx => by
    simp only [List.mem_cons, List.not_mem_nil, or_false] at hx
    rcases hx with rfl | rfl | rfl
    · simp
    · simp
    · omega
  have HD1 := Lib.hid (fun w hv N hN => lit_dec [[45, 102], path] hsh 2 rfl #[.string ⟨#[45, 102]⟩, .string (mkS path)] rfl w hv (.tuple #[.int .i64 0, .agg #[.bool false, .string ⟨#[45, 102]⟩, .string (mkS path)], .bool true]) rfl N hN)
  have HD2 := Lib.hid (fun w hv N hN => lit_dec [[33], [45, 102], path] hsh3 3 rfl #[.string ⟨#[33]⟩, .string ⟨#[45, 102]⟩, .string (mkS path)] rfl w hv (.tuple #[.int .i64 0, .agg #[.bool true, .string ⟨#[45, 102]⟩, .string (mkS path)], .bool true]) rfl N hN)
  obtain ⟨b0, h0⟩ : ∃ b, (e == 0) = b := ⟨_, rfl⟩
  obtain ⟨b1, h1⟩ : ∃ b, (n == 1) = b := ⟨_, rfl⟩
  have hib : isB [45, 102] e n = (b0 && b1) := by unfold isB; rw [h0, h1]; rw [show (([45, 102] : L) != [45, 102]) = false from rfl, show (([45, 102] : L) != [45, 100]) = true from rfl]; simp
  have HX := Lib.hid (show ∀ w, Calls Tryd.prog 10 #[.agg #[.bool false, .string ⟨#[45, 102]⟩, .string (mkS path)], .agg #[.int .i64 k, .int .i64 e, .int .i64 n, .int .i64 m, .string t, .slice A ln c, .int .i64 s]] w fun r w' => r = .returned (.int .i64 (t01 ((b0 && b1) != false))) ∧ Later w w' from fun w => by rw [← hib]; exact answer_v false [45, 102] path k e n m t A ln c s w)
  have HY := Lib.hid (show ∀ w, Calls Tryd.prog 10 #[.agg #[.bool true, .string ⟨#[45, 102]⟩, .string (mkS path)], .agg #[.int .i64 k, .int .i64 e, .int .i64 n, .int .i64 m, .string t, .slice A ln c, .int .i64 s]] w fun r w' => r = .returned (.int .i64 (t01 ((b0 && b1) != true))) ∧ Later w w' from fun w => by rw [← hib]; exact answer_v true [45, 102] path k e n m t A ln c s w)
  obtain ⟨be, hbe⟩ : ∃ b, (path == [61]) = b := ⟨_, rfl⟩
  clear hvd hl0 hp hz hsh hsh3 hib
  go_enter Tryd.func6, Tryd.ntmps6
  go_wp2_with fail
  go_at_call 7
  with_reducible refine HAW.out.mono ?_
  rintro ew w1 ⟨rfl, hl1⟩
  have HL1 := Lib.hid (HL0.out.trans hl1)
  have HBA1 := Lib.hid (later_cells hl1 HBA.out)
  clear hl1
  go_wp2_with fail
  go_at_call 8
  with_reducible refine (HD1.out _ (HVD.out.later (HL1.out.trans (Later.alloc _ _))) (w1.heap.size + 1) (World.size_alloc _ _).symm).mono ?_
  rintro e1 w2 ⟨rfl, hl2⟩
  have HLa := Lib.hid (((Later.alloc w1 _).trans (Later.alloc _ _)).trans hl2)
  clear hl2
  go_wp2_with fail
  go_at_call 8
  have HL2 := Lib.hid (HL1.out.trans HLa.out)
  with_reducible refine (HD2.out _ (HVD.out.later (HL2.out.trans (Later.alloc _ _))) (w2.heap.size + 1) (World.size_alloc _ _).symm).mono ?_
  rintro e3 w3 ⟨rfl, hl3⟩
  obtain ⟨W3, hW3⟩ : ∃ W3, W3 = w3.alloc (.cells #[.bool true, .string ⟨#[45, 102]⟩, .string (mkS path)] 25) := ⟨_, rfl⟩
  have hL3 : Later w2 W3 := by rw [hW3]; exact (((Later.alloc w2 (.cells #[.bool false, .string ⟨#[45, 102]⟩, .string (mkS path)] 25)).trans (Later.alloc _ _)).trans hl3).trans (Later.alloc w3 _)
  have hBQ : W3.heap[w2.heap.size]? = some (.cells #[.bool false, .string ⟨#[45, 102]⟩, .string (mkS path)] 25 (0, 0)) := by rw [hW3]; exact later_cells (((Later.alloc _ _).trans hl3).trans (Later.alloc w3 _)) (heap_alloc_new w2 _)
  have hBP : W3.heap[w3.heap.size]? = some (.cells #[.bool true, .string ⟨#[45, 102]⟩, .string (mkS path)] 25 (0, 0)) := by rw [hW3]; exact heap_alloc_new w3 _
  have hBA3 := later_cells (HLa.out.trans hL3) HBA1.out
  have HC := Lib.hid (fun w (hl : Later W3 w) => And.intro (later_cells hl hBQ) (And.intro (later_cells hl hBP) (later_cells hl hBA3)))
  have HL3 := Lib.hid (HL2.out.trans hL3)
  have facts : ∀ w, Later W3 w → w.cell? ⟨w2.heap.size, 0, none⟩ = some (.bool false) ∧ w.cell? ⟨w2.heap.size, 1, none⟩ = some (.string ⟨#[45, 102]⟩) ∧ w.cell? ⟨w2.heap.size, 2, none⟩ = some (.string (mkS path)) ∧ w.cell? ⟨w3.heap.size, 0, none⟩ = some (.bool true) ∧ w.cell? ⟨w3.heap.size, 1, none⟩ = some (.string ⟨#[45, 102]⟩) ∧ w.cell? ⟨w3.heap.size, 2, none⟩ = some (.string (mkS path)) ∧ w.cell? ⟨W.heap.size, 0, none⟩ = some (.int .i64 k) ∧ w.cell? ⟨W.heap.size, 1, none⟩ = some (.int .i64 e) ∧ w.cell? ⟨W.heap.size, 2, none⟩ = some (.int .i64 n) ∧ w.cell? ⟨W.heap.size, 3, none⟩ = some (.int .i64 m) ∧ w.cell? ⟨W.heap.size, 4, none⟩ = some (.string t) ∧ w.cell? ⟨W.heap.size, 5, none⟩ = some (.slice A ln c) ∧ w.cell? ⟨W.heap.size, 6, none⟩ = some (.int .i64 s) := fun w hl => by
    obtain ⟨c1, c2, c3⟩ := HC.out w hl
    exact ⟨(cell_row c1 0).1, (cell_row c1 1).1, (cell_row c1 2).1, (cell_row c2 0).1, (cell_row c2 1).1, (cell_row c2 2).1, (cell_row c3 0).1, (cell_row c3 1).1, (cell_row c3 2).1, (cell_row c3 3).1, (cell_row c3 4).1, (cell_row c3 5).1, (cell_row c3 6).1⟩
  have HF := Lib.hid facts
  obtain ⟨q0, q1, q2, p0, p1, p2, a0, a1, a2, a3, a4, a5, a6⟩ := facts W3 (Later.refl _)
  clear hL3 hBQ hBP hBA3 hl3 facts
  rw [hW3] at q0 q1 q2 p0 p1 p2 a0 a1 a2 a3 a4 a5 a6
  cases be
  · go_wp2_with fail
    go_at_call 10
    rw [← hW3]
    with_reducible refine (HX.out _).mono ?_
    rintro e4 w4 ⟨rfl, hl4⟩
    have HL4 := Lib.hid hl4
    clear q0 q1 q2 p0 p1 p2 a0 a1 a2 a3 a4 a5 a6
    obtain ⟨q0, q1, q2, p0, p1, p2, a0, a1, a2, a3, a4, a5, a6⟩ := HF.out w4 hl4
    clear hl4
    go_wp2_with fail
    go_at_call 10
    with_reducible refine (HY.out _).mono ?_
    rintro e5 w5 ⟨rfl, hl5⟩
    have HL5 := Lib.hid (HL4.out.trans hl5)
    clear hl5 q0 q1 q2 p0 p1 p2 a0 a1 a2 a3 a4 a5 a6
    obtain ⟨q0, q1, q2, p0, p1, p2, a0, a1, a2, a3, a4, a5, a6⟩ := HF.out w5 HL5.out
    have ht0 : t01 true = 0 := rfl
    have ht1 : t01 false = 1 := rfl
    cases b0 <;> cases b1
    all_goals (
      go_wp2
      go_ret
      exact ⟨rfl, HL3.out.trans HL5.out⟩)
  · go_wp2
    go_ret
    rw [← hW3]
    exact ⟨rfl, HL3.out⟩
set_option maxHeartbeats 3200000 in
set_option maxRecDepth 100000 in
theorem files_2 (path : L) (hp : path.length ≤ 60) (wh : Int) (hw0 : 0 ≤ wh) (hw1 : wh < 256) (hmd : wh.tmod 3 = 2) (k e n m : Int) (t : ByteArray) (A : Option Addr) (ln c : Nat) (s : Int) (W : World) (hvd : Vd W) : Calls Tryd.prog 6 #[.string (mkS path), .int .u8 wh, .agg #[.int .i64 k, .int .i64 e, .int .i64 n, .int .i64 m, .string t, .slice A ln c, .int .i64 s]] W fun r W' => r = .returned (.bool true) ∧ Later W W' := by
  have htl : ∀ l, (mkS l).toList = l := toList_mkS
  have hl0 := Later.alloc W (.cells #[.int .i64 k, .int .i64 e, .int .i64 n, .int .i64 m, .string t, .slice A ln c, .int .i64 s] 33)
  have HAW := Lib.hid (awake_v _ (hvd.later hl0))
  have HBA := Lib.hid (heap_alloc_new W (.cells #[.int .i64 k, .int .i64 e, .int .i64 n, .int .i64 m, .string t, .slice A ln c, .int .i64 s] 33))
  have HVD := Lib.hid hvd
  have HL0 := Lib.hid hl0
  have hsz : (mkS path).size = path.length := mkS_size path
  obtain ⟨z, hz⟩ : ∃ z, z = path.length := ⟨_, rfl⟩
  rw [← hz] at hsz
  have hzi : ¬ (60 : Int) < (z : Int) := by omega
  have hme : wh % 3 = 2 := by rw [← hmd]; exact (Int.tmod_eq_emod_of_nonneg hw0).symm
  have hsh : Short [[45, 100], path] := fun x hx => by
    simp only [List.mem_cons, List.not_mem_nil, or_false] at hx
    rcases hx with rfl | rfl
    · simp
    · omega
  have hsh3 : Short [[33], [45, 100], path] := fun x hx => by
    simp only [List.mem_cons, List.not_mem_nil, or_false] at hx
    rcases hx with rfl | rfl | rfl
    · simp
    · simp
    · omega
  have HD1 := Lib.hid (fun w hv N hN => lit_dec [[45, 100], path] hsh 2 rfl #[.string ⟨#[45, 100]⟩, .string (mkS path)] rfl w hv (.tuple #[.int .i64 0, .agg #[.bool false, .string ⟨#[45, 100]⟩, .string (mkS path)], .bool true]) rfl N hN)
  have HD2 := Lib.hid (fun w hv N hN => lit_dec [[33], [45, 100], path] hsh3 3 rfl #[.string ⟨#[33]⟩, .string ⟨#[45, 100]⟩, .string (mkS path)] rfl w hv (.tuple #[.int .i64 0, .agg #[.bool true, .string ⟨#[45, 100]⟩, .string (mkS path)], .bool true]) rfl N hN)
  obtain ⟨b0, h0⟩ : ∃ b, (e == 0) = b := ⟨_, rfl⟩
  obtain ⟨b2, h2⟩ : ∃ b, (n == 2) = b := ⟨_, rfl⟩
  have hib : isB [45, 100] e n = (b0 && b2) := by unfold isB; rw [h0, h2]; rw [show (([45, 100] : L) != [45, 102]) = true from rfl, show (([45, 100] : L) != [45, 100]) = false from rfl]; simp
  have HX := Lib.hid (show ∀ w, Calls Tryd.prog 10 #[.agg #[.bool false, .string ⟨#[45, 100]⟩, .string (mkS path)], .agg #[.int .i64 k, .int .i64 e, .int .i64 n, .int .i64 m, .string t, .slice A ln c, .int .i64 s]] w fun r w' => r = .returned (.int .i64 (t01 ((b0 && b2) != false))) ∧ Later w w' from fun w => by rw [← hib]; exact answer_v false [45, 100] path k e n m t A ln c s w)
  have HY := Lib.hid (show ∀ w, Calls Tryd.prog 10 #[.agg #[.bool true, .string ⟨#[45, 100]⟩, .string (mkS path)], .agg #[.int .i64 k, .int .i64 e, .int .i64 n, .int .i64 m, .string t, .slice A ln c, .int .i64 s]] w fun r w' => r = .returned (.int .i64 (t01 ((b0 && b2) != true))) ∧ Later w w' from fun w => by rw [← hib]; exact answer_v true [45, 100] path k e n m t A ln c s w)
  obtain ⟨be, hbe⟩ : ∃ b, (path == [61]) = b := ⟨_, rfl⟩
  clear hvd hl0 hp hz hsh hsh3 hib
  go_enter Tryd.func6, Tryd.ntmps6
  go_wp2_with fail
  go_at_call 7
  with_reducible refine HAW.out.mono ?_
  rintro ew w1 ⟨rfl, hl1⟩
  have HL1 := Lib.hid (HL0.out.trans hl1)
  have HBA1 := Lib.hid (later_cells hl1 HBA.out)
  clear hl1
  go_wp2_with fail
  go_at_call 8
  with_reducible refine (HD1.out _ (HVD.out.later (HL1.out.trans (Later.alloc _ _))) (w1.heap.size + 1) (World.size_alloc _ _).symm).mono ?_
  rintro e1 w2 ⟨rfl, hl2⟩
  have HLa := Lib.hid (((Later.alloc w1 _).trans (Later.alloc _ _)).trans hl2)
  clear hl2
  go_wp2_with fail
  go_at_call 8
  have HL2 := Lib.hid (HL1.out.trans HLa.out)
  with_reducible refine (HD2.out _ (HVD.out.later (HL2.out.trans (Later.alloc _ _))) (w2.heap.size + 1) (World.size_alloc _ _).symm).mono ?_
  rintro e3 w3 ⟨rfl, hl3⟩
  obtain ⟨W3, hW3⟩ : ∃ W3, W3 = w3.alloc (.cells #[.bool true, .string ⟨#[45, 100]⟩, .string (mkS path)] 25) := ⟨_, rfl⟩
  have hL3 : Later w2 W3 := by rw [hW3]; exact (((Later.alloc w2 (.cells #[.bool false, .string ⟨#[45, 100]⟩, .string (mkS path)] 25)).trans (Later.alloc _ _)).trans hl3).trans (Later.alloc w3 _)
  have hBQ : W3.heap[w2.heap.size]? = some (.cells #[.bool false, .string ⟨#[45, 100]⟩, .string (mkS path)] 25 (0, 0)) := by rw [hW3]; exact later_cells (((Later.alloc _ _).trans hl3).trans (Later.alloc w3 _)) (heap_alloc_new w2 _)
  have hBP : W3.heap[w3.heap.size]? = some (.cells #[.bool true, .string ⟨#[45, 100]⟩, .string (mkS path)] 25 (0, 0)) := by rw [hW3]; exact heap_alloc_new w3 _
  have hBA3 := later_cells (HLa.out.trans hL3) HBA1.out
  have HC := Lib.hid (fun w (hl : Later W3 w) => And.intro (later_cells hl hBQ) (And.intro (later_cells hl hBP) (later_cells hl hBA3)))
  have HL3 := Lib.hid (HL2.out.trans hL3)
  have facts : ∀ w, Later W3 w → w.cell? ⟨w2.heap.size, 0, none⟩ = some (.bool false) ∧ w.cell? ⟨w2.heap.size, 1, none⟩ = some (.string ⟨#[45, 100]⟩) ∧ w.cell? ⟨w2.heap.size, 2, none⟩ = some (.string (mkS path)) ∧ w.cell? ⟨w3.heap.size, 0, none⟩ = some (.bool true) ∧ w.cell? ⟨w3.heap.size, 1, none⟩ = some (.string ⟨#[45, 100]⟩) ∧ w.cell? ⟨w3.heap.size, 2, none⟩ = some (.string (mkS path)) ∧ w.cell? ⟨W.heap.size, 0, none⟩ = some (.int .i64 k) ∧ w.cell? ⟨W.heap.size, 1, none⟩ = some (.int .i64 e) ∧ w.cell? ⟨W.heap.size, 2, none⟩ = some (.int .i64 n) ∧ w.cell? ⟨W.heap.size, 3, none⟩ = some (.int .i64 m) ∧ w.cell? ⟨W.heap.size, 4, none⟩ = some (.string t) ∧ w.cell? ⟨W.heap.size, 5, none⟩ = some (.slice A ln c) ∧ w.cell? ⟨W.heap.size, 6, none⟩ = some (.int .i64 s) := fun w hl => by
    obtain ⟨c1, c2, c3⟩ := HC.out w hl
    exact ⟨(cell_row c1 0).1, (cell_row c1 1).1, (cell_row c1 2).1, (cell_row c2 0).1, (cell_row c2 1).1, (cell_row c2 2).1, (cell_row c3 0).1, (cell_row c3 1).1, (cell_row c3 2).1, (cell_row c3 3).1, (cell_row c3 4).1, (cell_row c3 5).1, (cell_row c3 6).1⟩
  have HF := Lib.hid facts
  obtain ⟨q0, q1, q2, p0, p1, p2, a0, a1, a2, a3, a4, a5, a6⟩ := facts W3 (Later.refl _)
  clear hL3 hBQ hBP hBA3 hl3 facts
  rw [hW3] at q0 q1 q2 p0 p1 p2 a0 a1 a2 a3 a4 a5 a6
  cases be
  · go_wp2_with fail
    go_at_call 10
    rw [← hW3]
    with_reducible refine (HX.out _).mono ?_
    rintro e4 w4 ⟨rfl, hl4⟩
    have HL4 := Lib.hid hl4
    clear q0 q1 q2 p0 p1 p2 a0 a1 a2 a3 a4 a5 a6
    obtain ⟨q0, q1, q2, p0, p1, p2, a0, a1, a2, a3, a4, a5, a6⟩ := HF.out w4 hl4
    clear hl4
    go_wp2_with fail
    go_at_call 10
    with_reducible refine (HY.out _).mono ?_
    rintro e5 w5 ⟨rfl, hl5⟩
    have HL5 := Lib.hid (HL4.out.trans hl5)
    clear hl5 q0 q1 q2 p0 p1 p2 a0 a1 a2 a3 a4 a5 a6
    obtain ⟨q0, q1, q2, p0, p1, p2, a0, a1, a2, a3, a4, a5, a6⟩ := HF.out w5 HL5.out
    have ht0 : t01 true = 0 := rfl
    have ht1 : t01 false = 1 := rfl
    cases b0 <;> cases b2
    all_goals (
      go_wp2
      go_ret
      exact ⟨rfl, HL3.out.trans HL5.out⟩)
  · go_wp2
    go_ret
    rw [← hW3]
    exact ⟨rfl, HL3.out⟩
set_option maxHeartbeats 1600000 in
set_option maxRecDepth 100000 in
theorem files_long (path : L) (hp : ¬ path.length ≤ 60) (hps : path.length ≤ maxLen) (wh : Int) (k e n m : Int) (t : ByteArray) (A : Option Addr) (ln c : Nat) (s : Int) (W : World) (hvd : Vd W) : Calls Tryd.prog 6 #[.string (mkS path), .int .u8 wh, .agg #[.int .i64 k, .int .i64 e, .int .i64 n, .int .i64 m, .string t, .slice A ln c, .int .i64 s]] W fun r W' => r = .returned (.bool true) ∧ Later W W' := by
  have hl0 := Later.alloc W (.cells #[.int .i64 k, .int .i64 e, .int .i64 n, .int .i64 m, .string t, .slice A ln c, .int .i64 s] 33)
  have HAW := Lib.hid (awake_v _ (hvd.later hl0))
  have HL0 := Lib.hid hl0
  have hsz : (mkS path).size = path.length := mkS_size path
  obtain ⟨z, hz⟩ : ∃ z, z = path.length := ⟨_, rfl⟩
  rw [← hz] at hsz
  unfold maxLen at hps
  have hzi : (60 : Int) < (z : Int) := by omega
  have hz9 : (z : Int) ≤ 9223372036854775807 := by omega
  clear hvd hl0 hp hz hps
  go_enter Tryd.func6, Tryd.ntmps6
  go_wp2_with (go_at_call 7; (with_reducible refine HAW.out.mono ?_); rintro ew w1 ⟨rfl, hl1⟩)
  go_ret
  exact ⟨rfl, HL0.out.trans hl1⟩
end Ar
namespace testerFiles
theorem walk (W : World) (hvd : Ar.Vd W) (path : ByteArray) (hp : path.size ≤ maxLen) (wh : Int) (hw : (Lit.int .u8 wh).wf = true) (k : Int) (_ : (Lit.int .i64 k).wf = true) (e : Int) (_ : (Lit.int .i64 e).wf = true) (n : Int) (_ : (Lit.int .i64 n).wf = true) (m : Int) (_ : (Lit.int .i64 m).wf = true) (t : ByteArray) (_ : t.size ≤ maxLen) (A : Option Addr) (ln c : Nat) (l : List ByteArray) (_ : Rd W W.heap.size A ln (l.map Value.string) ∧ (∀ s ∈ l, s.size ≤ maxLen) ∧ ln ≤ c ∧ c ≤ maxLen) (s : Int) (_ : (Lit.int .i64 s).wf = true) : Calls Tryd.prog 6 #[.string path, .int .u8 wh, .agg #[.int .i64 k, .int .i64 e, .int .i64 n, .int .i64 m, .string t, .slice A ln c, .int .i64 s]] W fun r W' => r = .returned (.bool true) ∧ Below W.heap.size W W' := by
  have hb := bounds_u8 hw
  have h0 : 0 ≤ wh := by omega
  have h1 : wh < 256 := by omega
  rw [← mkS_of path]
  have hpl : path.data.toList.length ≤ maxLen := hp
  by_cases hp6 : path.data.toList.length ≤ 60
  · have hm : wh.tmod 3 = 0 ∨ wh.tmod 3 = 1 ∨ wh.tmod 3 = 2 := by rw [Int.tmod_eq_emod_of_nonneg h0]; omega
    rcases hm with hm | hm | hm
    · exact Ar.files_0 _ hp6 wh h0 h1 hm k e n m t A ln c s W hvd
    · exact Ar.files_1 _ hp6 wh h0 h1 hm k e n m t A ln c s W hvd
    · exact Ar.files_2 _ hp6 wh h0 h1 hm k e n m t A ln c s W hvd
  · exact Ar.files_long _ hp6 hpl wh k e n m t A ln c s W hvd
end testerFiles
end Go.Proofs.YtjidclefpmcgoaaDoor
