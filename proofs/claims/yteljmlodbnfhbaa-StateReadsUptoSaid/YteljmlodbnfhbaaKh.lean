/- Are things few, as the statements ask it? No premises. -/
import Derived.Test.YteljmlodbnfhbaaKg
namespace Go.Proofs.Yteljmlodbnfhbaa
open Go.RowKit
namespace Ks
theorem wpList_boxO {P : Program} {ops : Array Oper} {rest : List Oper} {o : Oper} {a : Act} {w : World} {Q : Exit → Act → World → Prop} (hgd : o.guard = none) (ty : TypeId) (x : Operand) (ho : o.op = .box ty x) (cs : Array Value) (hx : a.eval x = .agg cs)
    (h : ∀ w1, w1.heap[w.heap.size]? = some (.cells cs ty (0, 0)) → Later w w1 → w1.heap.size = w.heap.size + 1 → wpList P ops Q rest (a.put o.dst (.pointer (some ⟨w.heap.size, 0, none⟩))) w1) : wpList P ops Q (o :: rest) a w :=
  wpList_plain hgd fun _ hK => by
    unfold Oper.wp execOp
    simp only [ho, hx, Instr.box]
    simp only [newVar, go_sem]
    exact hK _ _ (h (w.alloc (.cells cs ty)) (heap_alloc_new w _) (Later.alloc w _) (by simp))
/-- How many things the rows of a frame have, that lies in memory. -/
structure FmL (w : World) (b : Nat) (A1 A2 A3 B1 B2 B3 B4 B5 : Option Addr) (l1 l2 l3 l4 l5 l6 l7 l8 c1 c2 c3 d1 d2 d3 d4 d5 : Nat) : Prop where
  f0 : w.cell? ⟨b, 9, none⟩ = some (.slice A1 l1 c1)
  f1 : w.cell? ⟨b, 10, none⟩ = some (.slice A2 l2 c2)
  f2 : w.cell? ⟨b, 11, none⟩ = some (.slice A3 l3 c3)
  f3 : w.cell? ⟨b, 12, none⟩ = some (.slice B1 l4 d1)
  f4 : w.cell? ⟨b, 13, none⟩ = some (.slice B2 l5 d2)
  f5 : w.cell? ⟨b, 16, none⟩ = some (.slice B3 l6 d3)
  f6 : w.cell? ⟨b, 17, none⟩ = some (.slice B4 l7 d4)
  f7 : w.cell? ⟨b, 18, none⟩ = some (.slice B5 l8 d5)
set_option maxRecDepth 100000 in
set_option maxHeartbeats 3200000 in
theorem few_v (s : St) (cs : List Value) (W : World) (h : stR.C W W.heap.size cs s) (hx : (stC.put s).length ≤ 100000000) :
    Calls Try.prog 8 #[.agg cs.toArray] W fun r W' => r = .returned (.bool (decide (fewN s ≤ 300))) ∧ Later W W' := by
  obtain ⟨B1, d1, B2, d2, B3, d3, B4, d4, B5, d5, A1, c1, A2, c2, Q1, e1, Q2, e2, A3, c3, hcs, _, _, _, ⟨_, hr, _⟩, _, hc1, hc2⟩ := st_cells h
  obtain ⟨hg1, hg2⟩ := few_ge s
  have HR := Lib.hid hr
  clear h hr
  obtain ⟨n4, h_n4⟩ : ∃ n, n = s.keep.vars.length := ⟨_, rfl⟩
  obtain ⟨n5, h_n5⟩ : ∃ n, n = s.keep.args.length := ⟨_, rfl⟩
  obtain ⟨n6, h_n6⟩ : ∃ n, n = s.keep.funcs.length := ⟨_, rfl⟩
  obtain ⟨n7, h_n7⟩ : ∃ n, n = s.keep.traps.length := ⟨_, rfl⟩
  obtain ⟨n8, h_n8⟩ : ∃ n, n = s.keep.fds.length := ⟨_, rfl⟩
  obtain ⟨n1, h_n1⟩ : ∃ n, n = s.progs.length := ⟨_, rfl⟩
  obtain ⟨n2, h_n2⟩ : ∃ n, n = s.stack.length := ⟨_, rfl⟩
  obtain ⟨n9, h_n9⟩ : ∃ n, n = s.asked.list.length := ⟨_, rfl⟩
  obtain ⟨n0, h_n0⟩ : ∃ n, n = s.got.list.length := ⟨_, rfl⟩
  obtain ⟨n3, h_n3⟩ : ∃ n, n = s.sigs.length := ⟨_, rfl⟩
  have htop : topN s = n1 + n2 + n3 + (n4 + n5 + n6 + n7 + n8) + n9 + n0 := by unfold topN kpN; omega
  have HN := Lib.hid h_n2
  have HF := Lib.hid (show fewN s = topN s + stkN s.stack from rfl)
  rw [htop] at HF hg1
  have HG := Lib.hid (show stkN s.stack ≤ 100000000 by omega)
  have hg3 : n1 + n2 + n3 + (n4 + n5 + n6 + n7 + n8) + n9 + n0 ≤ 100000000 := by omega
  rw [← h_n4, ← h_n5, ← h_n6, ← h_n7, ← h_n8, ← h_n1, ← h_n2, ← h_n9, ← h_n0, ← h_n3] at hcs
  rw [← h_n2] at hc1
  clear h_n4 h_n5 h_n6 h_n7 h_n8 h_n1 h_n2 h_n9 h_n0 h_n3 htop hg1 hg2 hx
  have HBX := Lib.hid (show ∀ w1 : World, w1.heap[W.heap.size]? = some (.cells cs.toArray 40 (0, 0)) → w1.cell? ⟨W.heap.size, 0, none⟩ = some (.slice B1 n4 d1) ∧ w1.cell? ⟨W.heap.size, 1, none⟩ = some (.slice B2 n5 d2) ∧ w1.cell? ⟨W.heap.size, 4, none⟩ = some (.slice B3 n6 d3) ∧ w1.cell? ⟨W.heap.size, 5, none⟩ = some (.slice B4 n7 d4) ∧ w1.cell? ⟨W.heap.size, 6, none⟩ = some (.slice B5 n8 d5) ∧ w1.cell? ⟨W.heap.size, 7, none⟩ = some (.slice A1 n1 c1) ∧ w1.cell? ⟨W.heap.size, 8, none⟩ = some (.slice A2 n2 c2) ∧ w1.cell? ⟨W.heap.size, 13, none⟩ = some (.slice Q1 n9 e1) ∧ w1.cell? ⟨W.heap.size, 19, none⟩ = some (.slice Q2 n0 e2) ∧ w1.cell? ⟨W.heap.size, 21, none⟩ = some (.slice A3 n3 c3) from fun w1 hb => by
    rw [hcs] at hb
    exact ⟨(by rw [(cell_row hb 0).1]; rfl), (by rw [(cell_row hb 1).1]; rfl), (by rw [(cell_row hb 4).1]; rfl), (by rw [(cell_row hb 5).1]; rfl), (by rw [(cell_row hb 6).1]; rfl), (by rw [(cell_row hb 7).1]; rfl), (by rw [(cell_row hb 8).1]; rfl), (by rw [(cell_row hb 13).1]; rfl), (by rw [(cell_row hb 19).1]; rfl), by rw [(cell_row hb 21).1]; rfl⟩)
  have HWR := Lib.hid (show ∀ w1 : World, w1.heap[W.heap.size]? = some (.cells cs.toArray 40 (0, 0)) → w1.cell? ⟨W.heap.size, 8, none⟩ = some (.slice A2 n2 c2) from fun w1 hb => by rw [hcs] at hb; rw [(cell_row hb 8).1]; rfl)
  clear hcs
  go_enter Try.func8, Try.ntmps8
  go_wp2_with (refine wpList_boxO rfl 40 (.tmp 0) rfl _ rfl ?_; intro w1 hb1 hl1 hs1; obtain ⟨f0, f1, f2, f3, f4, f5, f6, f7, f8, f9⟩ := HBX.out w1 hb1; (have HB1 := Lib.hid hb1); (have HL1 := Lib.hid hl1); clear hb1 hl1 hs1)
  clear f0 f1 f2 f3 f4 f5 f6 f7 f8 f9
  go_loopw [3, 4] (fun v i wr => ∃ k : Nat, k ≤ n2 ∧ i = .int .i64 (k : Int) ∧ v = .int .i64 ((n1 + n2 + n3 + (n4 + n5 + n6 + n7 + n8) + n9 + n0 + stkN (s.stack.take k) : Nat) : Int) ∧ Later w1 wr) (fun _ i _ => n2 - (intOf i).toNat)
  case atStart => exact ⟨0, by omega, rfl, by rw [List.take_zero]; simp only [stkN, List.map_nil, List.sum_nil]; go_num, Later.refl _⟩
  case round =>
    obtain ⟨k, hk, rfl, rfl, hb⟩ := hrel
    have HLW := Lib.hid (HL1.out.trans hb)
    have HST := Lib.hid hb
    have q0 := HWR.out wr (later_cells hb HB1.out)
    clear hb
    have htk := stk_take s.stack k
    obtain ⟨t, ht⟩ : ∃ t, t = n1 + n2 + n3 + (n4 + n5 + n6 + n7 + n8) + n9 + n0 + stkN (s.stack.take k) := ⟨_, rfl⟩
    have htl : t ≤ 200000000 := by have := HG.out; omega
    rw [← ht]
    by_cases hlt : k < n2
    · have hk0 : (0 : Int) ≤ (k : Int) := by omega
      have hlt1 : (k : Int) < (n2 : Int) := by omega
      have hkl : k < s.stack.length := by rw [← HN.out]; exact hlt
      obtain ⟨g, o, rfl, hg, hcell⟩ := HR.out.lie (by omega) (by decide)
      obtain ⟨fs, hfs, hu⟩ := hcell k hkl
      have hsn := stk_snoc s.stack k hkl
      have htk2 := stk_take s.stack (k + 1)
      obtain ⟨f, hf⟩ : ∃ f, f = s.stack[k] := ⟨_, rfl⟩
      rw [← hf] at hfs hsn
      clear hf
      have hf19 : fs.toArray.size = 19 := by rw [List.size_toArray]; exact fmR.len hfs
      have HON := Lib.hid (show fs.toArray.all (·.oneCell') = true by
        obtain ⟨X1, y1, X2, y2, X3, y3, Y1, z1, Y2, z2, Y3, z3, Y4, z4, Y5, z5, rfl, _⟩ := fm_cells hfs
        simp [Value.oneCell'])
      obtain ⟨X1, y1, X2, y2, X3, y3, Y1, z1, Y2, z2, Y3, z3, Y4, z4, Y5, z5, hfc, _⟩ := fm_cells hfs
      obtain ⟨l1, h_l1⟩ : ∃ n, n = f.nums.length := ⟨_, rfl⟩
      obtain ⟨l2, h_l2⟩ : ∃ n, n = f.words.length := ⟨_, rfl⟩
      obtain ⟨l3, h_l3⟩ : ∃ n, n = f.rows.length := ⟨_, rfl⟩
      obtain ⟨l4, h_l4⟩ : ∃ n, n = f.keep.vars.length := ⟨_, rfl⟩
      obtain ⟨l5, h_l5⟩ : ∃ n, n = f.keep.args.length := ⟨_, rfl⟩
      obtain ⟨l6, h_l6⟩ : ∃ n, n = f.keep.funcs.length := ⟨_, rfl⟩
      obtain ⟨l7, h_l7⟩ : ∃ n, n = f.keep.traps.length := ⟨_, rfl⟩
      obtain ⟨l8, h_l8⟩ : ∃ n, n = f.keep.fds.length := ⟨_, rfl⟩
      have hfn : fmN f = l1 + l2 + l3 + (l4 + l5 + l6 + l7 + l8) := by unfold fmN kpN; omega
      rw [hfn] at hsn
      rw [← h_l1, ← h_l2, ← h_l3, ← h_l4, ← h_l5, ← h_l6, ← h_l7, ← h_l8] at hfc
      have HFL := Lib.hid (show ∀ w3 : World, w3.heap[wr.heap.size]? = some (.cells fs.toArray 70 (0, 0)) → FmL w3 wr.heap.size X1 X2 X3 Y1 Y2 Y3 Y4 Y5 l1 l2 l3 l4 l5 l6 l7 l8 y1 y2 y3 z1 z2 z3 z4 z5 from fun w3 hb => by
        rw [hfc] at hb
        exact ⟨(by rw [(cell_row hb 9).1]; rfl), (by rw [(cell_row hb 10).1]; rfl), (by rw [(cell_row hb 11).1]; rfl), (by rw [(cell_row hb 12).1]; rfl), (by rw [(cell_row hb 13).1]; rfl), (by rw [(cell_row hb 16).1]; rfl), (by rw [(cell_row hb 17).1]; rfl), (by rw [(cell_row hb 18).1]; rfl)⟩)
      have HLD := Lib.hid (show (Instr.loadAt 70 (.pointer (some ⟨g, o + k * 19, none⟩))).run Try.prog wr = .ok (.agg fs.toArray) wr from
        run_loadAt_mid wr g (o + k * 19) _ fs _ (fun j v hv => (HLW.out.cell (p := ⟨g, o + k * 19 + j, none⟩) hg).trans (hu j v hv)) Try.underlying70 rfl (by rw [show fs.length = 19 from fmR.len hfs]; kernel_rfl))
      have HI := Lib.hid (show (Try.prog.info? 70).map (·.size) = some fs.toArray.size by rw [hf19]; kernel_rfl)
      have HSZ := Lib.hid (show (#[.int .i64 0, .int .i64 0, .int .i64 0, .int .i64 0, .int .i64 0, .bool false, .int .i64 0, .int .i64 0, .string ⟨#[]⟩, .slice none 0 0, .slice none 0 0, .slice none 0 0, .slice none 0 0, .slice none 0 0, .int .i64 0, .string ⟨#[]⟩, .slice none 0 0, .slice none 0 0, .slice none 0 0] : Array Value).size = fs.toArray.size by rw [hf19]; rfl)
      have hln : l1 + l2 + l3 + (l4 + l5 + l6 + l7 + l8) ≤ 100000000 := by have := HG.out; omega
      have HSN := Lib.hid (show n1 + n2 + n3 + (n4 + n5 + n6 + n7 + n8) + n9 + n0 + stkN (s.stack.take (k + 1)) = t + (l1 + l2 + l3 + (l4 + l5 + l6 + l7 + l8)) by omega)
      clear hsn htk2 hfn hu hfs hcell hkl hg htk ht hf19 hfc h_l1 h_l2 h_l3 h_l4 h_l5 h_l6 h_l7 h_l8
      go_wp2_with (first
        | (refine wpList_loadRun rfl 70 (.tmp 64) rfl _ _ rfl HLD.out ?_)
        | (refine wpList_allocO 5 rfl rfl 70 rfl #[.int .i64 0, .int .i64 0, .int .i64 0, .int .i64 0, .int .i64 0, .bool false, .int .i64 0, .int .i64 0, .string ⟨#[]⟩, .slice none 0 0, .slice none 0 0, .slice none 0 0, .slice none 0 0, .slice none 0 0, .int .i64 0, .string ⟨#[]⟩, .slice none 0 0, .slice none 0 0, .slice none 0 0] 19 (by kernel_rfl) ?_; intro w2 hw2 hl2 hs2; (have HW2 := Lib.hid hw2); (have HL2 := Lib.hid hl2); clear hw2 hl2 hs2)
        | (refine wpList_storeO rfl 70 (.tmp 5) (.tmp 65) rfl wr.heap.size _ _ rfl rfl HW2.out HI.out HSZ.out HON.out ?_; intro w3 hw3 hg3 hs3; obtain ⟨p0, p1, p2, p3, p4, p5, p6, p7⟩ := HFL.out w3 hw3; (have HG3 := Lib.hid hg3); clear hw3 hg3 hs3))
      go_roundw
      case rel => exact ⟨k + 1, by omega, by go_num, by rw [HSN.out]; go_num, HST.out.trans (later_of_new HL2.out HG3.out (Nat.le_refl _))⟩
      case measure => simp [intOf]; omega
    · have e : s.stack.take k = s.stack := by rw [List.take_of_length_le]; have := HN.out; omega
      have hlt1 : ¬ (k : Int) < (n2 : Int) := by omega
      rw [e] at ht
      have HT := Lib.hid (show fewN s = t by rw [HF.out, ht])
      clear e ht htk
      go_wp2
      go_ret
      refine ⟨?_, HLW.out⟩
      rw [HT.out]
      exact ret_bool (decide_eq_decide.2 (by omega))
end Ks
end Go.Proofs.Yteljmlodbnfhbaa
