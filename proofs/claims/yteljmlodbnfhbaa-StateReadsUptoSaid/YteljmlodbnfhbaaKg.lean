/- A state's cells, a frame's; are things few? No premises. -/
import Derived.Test.YteljmlodbnfhbaaKcl
namespace Go.Proofs.Yteljmlodbnfhbaa
open Go.RowKit
namespace Ks
theorem st_cells {w : World} {n : Nat} {cs : List Value} {s : St} (h : stR.C w n cs s) : ∃ B1 d1 B2 d2 B3 d3 B4 d4 B5 d5 A1 c1 A2 c2 Q1 e1 Q2 e2 A3 c3,
    cs = [.slice B1 s.keep.vars.length d1, .slice B2 s.keep.args.length d2, .int .i64 s.keep.status, .string (mkS s.keep.flags), .slice B3 s.keep.funcs.length d3, .slice B4 s.keep.traps.length d4, .slice B5 s.keep.fds.length d5, .slice A1 s.progs.length c1, .slice A2 s.stack.length c2, .int .i64 s.asked.kind, .int .i64 s.asked.n, .int .i64 s.asked.m, .string (mkS s.asked.text), .slice Q1 s.asked.list.length e1, .int .i64 s.got.kind, .int .i64 s.got.err, .int .i64 s.got.n, .int .i64 s.got.m, .string (mkS s.got.text), .slice Q2 s.got.list.length e2, .int .i64 s.got.sig, .slice A3 s.sigs.length c3, .int .i64 s.loose, .int .i64 s.n, .int .i64 s.deep, .bool s.trapping, .bool s.ended, .bool s.done, .int .i64 s.fail] ∧
    kpR.C w n [.slice B1 s.keep.vars.length d1, .slice B2 s.keep.args.length d2, .int .i64 s.keep.status, .string (mkS s.keep.flags), .slice B3 s.keep.funcs.length d3, .slice B4 s.keep.traps.length d4, .slice B5 s.keep.fds.length d5] s.keep ∧ rqR.C w n [.int .i64 s.asked.kind, .int .i64 s.asked.n, .int .i64 s.asked.m, .string (mkS s.asked.text), .slice Q1 s.asked.list.length e1] s.asked ∧ anR.C w n [.int .i64 s.got.kind, .int .i64 s.got.err, .int .i64 s.got.n, .int .i64 s.got.m, .string (mkS s.got.text), .slice Q2 s.got.list.length e2, .int .i64 s.got.sig] s.got ∧ (Row rtxt w n A1 s.progs ∧ Row fmR w n A2 s.stack ∧ Row rnum w n A3 s.sigs) ∧ (I64 s.loose ∧ I64 s.n ∧ I64 s.deep ∧ I64 s.fail) ∧
    s.stack.length ≤ c2 ∧ c2 ≤ 9223372036854775807 := by
  obtain ⟨xk, yk, rfl, hk, x1, y1, rfl, ⟨A1, c1, rfl, _, _, h1⟩, x2, y2, rfl, ⟨A2, c2, rfl, h2a, h2b, h2⟩, xq, yq, rfl, hq, xa, ya, rfl, ha, x3, y3, rfl, ⟨A3, c3, rfl, _, _, h3⟩, x4, y4, rfl, h4, x5, y5, rfl, h5, x6, y6, rfl, h6, x7, y7, rfl, h7, x8, y8, rfl, h8, x9, y9, rfl, h9, hf⟩ := h
  have hk : kpR.C w n xk s.keep := hk
  have hq : rqR.C w n xq s.asked := hq
  have ha : anR.C w n xa s.got := ha
  obtain ⟨B1, d1, B2, d2, B3, d3, B4, d4, B5, d5, rfl, _⟩ := kp_cells hk
  obtain ⟨Q1, e1, rfl, _⟩ := rq_cells hq
  obtain ⟨Q2, e2, rfl, _⟩ := an_cells ha
  have h7 : x7 = [.bool s.trapping] := h7
  have h8 : x8 = [.bool s.ended] := h8
  have h9 : x9 = [.bool s.done] := h9
  rw [hf.1, h4.1, h5.1, h6.1, h7, h8, h9]
  exact ⟨B1, d1, B2, d2, B3, d3, B4, d4, B5, d5, A1, c1, A2, c2, Q1, e1, Q2, e2, A3, c3, rfl, hk, hq, ha, ⟨h1, h2, h3⟩, ⟨h4.2, h5.2, h6.2, hf.2⟩, h2a, h2b⟩
theorem fm_cells {w : World} {n : Nat} {cs : List Value} {f : Fm} (h : fmR.C w n cs f) : ∃ A1 c1 A2 c2 A3 c3 B1 d1 B2 d2 B3 d3 B4 d4 B5 d5,
    cs = [.int .i64 f.op, .int .i64 f.prog, .int .i64 f.node, .int .i64 f.phase, .int .i64 f.i, .bool f.quiet, .int .i64 f.a, .int .i64 f.b, .string (mkS f.text), .slice A1 f.nums.length c1, .slice A2 f.words.length c2, .slice A3 f.rows.length c3, .slice B1 f.keep.vars.length d1, .slice B2 f.keep.args.length d2, .int .i64 f.keep.status, .string (mkS f.keep.flags), .slice B3 f.keep.funcs.length d3, .slice B4 f.keep.traps.length d4, .slice B5 f.keep.fds.length d5] ∧ kpR.C w n [.slice B1 f.keep.vars.length d1, .slice B2 f.keep.args.length d2, .int .i64 f.keep.status, .string (mkS f.keep.flags), .slice B3 f.keep.funcs.length d3, .slice B4 f.keep.traps.length d4, .slice B5 f.keep.fds.length d5] f.keep ∧ (Row rnum w n A1 f.nums ∧ Row rtxt w n A2 f.words ∧ Row prR w n A3 f.rows) ∧ (I64 f.op ∧ I64 f.prog ∧ I64 f.node ∧ I64 f.phase ∧ I64 f.i ∧ I64 f.a ∧ I64 f.b) ∧
    f.rows.length ≤ c3 ∧ c3 ≤ 9223372036854775807 := by
  obtain ⟨x1, y1, rfl, h1, x2, y2, rfl, h2, x3, y3, rfl, h3, x4, y4, rfl, h4, x5, y5, rfl, h5, x6, y6, rfl, h6, x7, y7, rfl, h7, x8, y8, rfl, h8, x9, y9, rfl, h9, xa, ya, rfl, ⟨A1, c1, rfl, _, _, ha⟩, xb, yb, rfl, ⟨A2, c2, rfl, _, _, hb⟩, xc, yc, rfl, ⟨A3, c3, rfl, hc1, hc2, hc⟩, hk⟩ := h
  have hk : kpR.C w n yc f.keep := hk
  obtain ⟨B1, d1, B2, d2, B3, d3, B4, d4, B5, d5, rfl, _⟩ := kp_cells hk
  have h6 : x6 = [.bool f.quiet] := h6
  rw [h1.1, h2.1, h3.1, h4.1, h5.1, h6, h7.1, h8.1, h9.1]
  exact ⟨A1, c1, A2, c2, A3, c3, B1, d1, B2, d2, B3, d3, B4, d4, B5, d5, rfl, hk, ⟨ha, hb, hc⟩, ⟨h1.2, h2.2, h3.2, h4.2, h5.2, h7.2, h8.2⟩, hc1, hc2⟩
/-- How many things a frame's rows have, and a state's. -/
def kpN (k : Kp) : Nat := k.vars.length + k.args.length + k.funcs.length + k.traps.length + k.fds.length
def fmN (f : Fm) : Nat := f.nums.length + f.words.length + f.rows.length + kpN f.keep
def stkN (l : List Fm) : Nat := (l.map fmN).sum
def topN (s : St) : Nat := s.progs.length + s.stack.length + s.sigs.length + kpN s.keep + s.asked.list.length + s.got.list.length
def fewN (s : St) : Nat := topN s + stkN s.stack
theorem many_ge {α : Type} (c : Cd α) (hc : ∀ a, 1 ≤ (c.put a).length) : ∀ l : List α, l.length ≤ (manyP c l).length
  | [] => Nat.zero_le _
  | a :: l => by
    have := many_ge c hc l
    have := hc a
    rw [manyP_cons, List.length_append, List.length_cons]
    omega
theorem num_ge (x : Int) : 1 ≤ (numP x).length := numL_ne _
theorem txt_ge (t : B) : 1 ≤ (textB t).length := by
  have := numL_ne t.length
  rw [textB, List.length_append]; omega
theorem row_ge {α : Type} (c : Cd α) (hc : ∀ a, 1 ≤ (c.put a).length) (l : List α) : l.length + 1 ≤ (rowP c l).length := by
  have := many_ge c hc l
  have := num_ge (l.length : Int)
  rw [rowP, List.length_append]; omega
theorem kp_ge (k : Kp) : kpN k ≤ (kpC.put k).length := by
  have e : kpC.put k = (rowP prC k.vars ++ (rowP txt k.args ++ (numP k.status ++ textB k.flags))) ++ (rowP fnC k.funcs ++ (rowP tpC k.traps ++ rowP fdC k.fds)) := rfl
  have h1 := row_ge prC (fun a => by show 1 ≤ (textB a.1 ++ textB a.2).length; have := txt_ge a.1; rw [List.length_append]; omega) k.vars
  have h2 := row_ge txt txt_ge k.args
  have h3 := row_ge fnC (fun a => by show 1 ≤ (textB a.1 ++ (numP a.2.1 ++ numP a.2.2)).length; have := txt_ge a.1; rw [List.length_append]; omega) k.funcs
  have h4 := row_ge tpC (fun a => by show 1 ≤ (numP a.1 ++ textB a.2).length; have := num_ge a.1; rw [List.length_append]; omega) k.traps
  have h5 := row_ge fdC (fun a => by show 1 ≤ (numP a.1 ++ numP a.2).length; have := num_ge a.1; rw [List.length_append]; omega) k.fds
  rw [e]
  simp only [List.length_append, kpN]
  omega
theorem fm_ge (f : Fm) : fmN f ≤ (fmC.put f).length ∧ 1 ≤ (fmC.put f).length := by
  have e : fmC.put f = numP f.op ++ (numP f.prog ++ (numP f.node ++ (numP f.phase ++ (numP f.i ++ (bitP f.quiet ++ (numP f.a ++ (numP f.b ++ (textB f.text ++ (rowP num f.nums ++ (rowP txt f.words ++ (rowP prC f.rows ++ kpC.put f.keep))))))))))) := rfl
  have h1 := row_ge num num_ge f.nums
  have h2 := row_ge txt txt_ge f.words
  have h3 := row_ge prC (fun a => by show 1 ≤ (textB a.1 ++ textB a.2).length; have := txt_ge a.1; rw [List.length_append]; omega) f.rows
  have h4 := kp_ge f.keep
  rw [e]
  simp only [List.length_append, fmN]
  omega
theorem stk_ge : ∀ l : List Fm, stkN l ≤ (manyP fmC l).length
  | [] => Nat.zero_le _
  | f :: l => by
    have h1 := (fm_ge f).1
    have h2 := stk_ge l
    rw [manyP_cons, List.length_append]
    unfold stkN at h2 ⊢
    rw [List.map_cons, List.sum_cons]
    omega
theorem few_ge (s : St) : topN s ≤ (stC.put s).length ∧ stkN s.stack ≤ (stC.put s).length := by
  have e : stC.put s = kpC.put s.keep ++ (rowP txt s.progs ++ (rowP fmC s.stack ++ ((numP s.asked.kind ++ (numP s.asked.n ++ (numP s.asked.m ++ (textB s.asked.text ++ rowP txt s.asked.list)))) ++ ((numP s.got.kind ++ (numP s.got.err ++ (numP s.got.n ++ (numP s.got.m ++ (textB s.got.text ++ (rowP txt s.got.list ++ numP s.got.sig)))))) ++ (rowP num s.sigs ++ (numP s.loose ++ (numP s.n ++ (numP s.deep ++ (bitP s.trapping ++ (bitP s.ended ++ (bitP s.done ++ numP s.fail))))))))))) := rfl
  have h1 := kp_ge s.keep
  have h2 := row_ge txt txt_ge s.progs
  have h3 := row_ge fmC (fun f => (fm_ge f).2) s.stack
  have h4 := row_ge txt txt_ge s.asked.list
  have h5 := row_ge txt txt_ge s.got.list
  have h6 := row_ge num num_ge s.sigs
  have h7 := stk_ge s.stack
  have h8 : (rowP fmC s.stack).length = (numP s.stack.length).length + (manyP fmC s.stack).length := by rw [rowP, List.length_append]
  rw [e]
  simp only [List.length_append, topN]
  omega
theorem stk_snoc (l : List Fm) (k : Nat) (h : k < l.length) : stkN (l.take (k + 1)) = stkN (l.take k) + fmN l[k] := by
  unfold stkN
  rw [List.take_succ_eq_append_getElem h, List.map_append, List.sum_append]
  simp
theorem stk_take (l : List Fm) (k : Nat) : stkN (l.take k) ≤ stkN l := by
  unfold stkN
  conv => rhs; rw [← List.take_append_drop k l]
  rw [List.map_append, List.sum_append]
  omega
end Ks
end Go.Proofs.Yteljmlodbnfhbaa
