/- THE DOCUMENT'S bytes of a state. No premises. -/
import Derived.Test.YteljmlodbnfhbaaKe
namespace Go.Proofs.Yteljmlodbnfhbaa
open Go.RowKit
namespace Ks
/-- A state as the document has it. -/
structure Ss where
  keep : Kp
  progs : List B
  stack : List Fr18
  asked : Rq
  got : An
  sigs : List Int
  ints : List Int
  iss : List Bool
  fail : Int
abbrev SsT := Kp × List B × List Fr18 × Rq × An × List Int × List Int × List Bool × Int
def ssG (s : Ss) : SsT := (s.keep, s.progs, s.stack, s.asked, s.got, s.sigs, s.ints, s.iss, s.fail)
def ssR : Rp Ss := riso (rseq kpR (rseq txtsR (rseq (rrow frR) (rseq rqR (rseq anR (rseq (rrow rnum) (rseq (rrow rnum) (rseq (rrow rbit) rnum)))))))) ssG
def stB (l : List Fr18) : B := l.flatMap frB
def ssB (s : Ss) : B := kpC.put s.keep ++ (txts.put s.progs ++ ((numP s.stack.length ++ stB s.stack) ++ (rqC.put s.asked ++ (anC.put s.got ++ (rowP num s.sigs ++ (manyP num s.ints ++ (manyP bit s.iss ++ numP s.fail)))))))
def ssOk (s : Ss) : Prop := kpC.ok s.keep ∧ txts.ok s.progs ∧ s.stack.length ≤ 100000 ∧ (∀ f ∈ s.stack, frOk f) ∧ rqC.ok s.asked ∧ anC.ok s.got ∧ (row num).ok s.sigs ∧ s.ints.length ≤ 100000 ∧ s.iss.length ≤ 100000 ∧ I64 s.fail
def ssOf (s : St) : Ss := ⟨s.keep, s.progs, s.stack.map frOf, s.asked, s.got, s.sigs, [s.loose, s.n, s.deep], [s.trapping, s.ended, s.done], s.fail⟩
theorem stB_of (l : List Fm) : stB (l.map frOf) = manyP fmC l := by
  induction l with
  | nil => rfl
  | cons f l ih => rw [List.map_cons, manyP_cons, ← ih, ← frB_of]; rfl
theorem ssB_of (s : St) : ssB (ssOf s) = stC.put s := by
  show kpC.put s.keep ++ (txts.put s.progs ++ ((numP (s.stack.map frOf).length ++ stB (s.stack.map frOf)) ++ (rqC.put s.asked ++ (anC.put s.got ++ (rowP num s.sigs ++ (manyP num [s.loose, s.n, s.deep] ++ (manyP bit [s.trapping, s.ended, s.done] ++ numP s.fail))))))) = _
  rw [stB_of, List.length_map]
  simp only [manyP, List.flatMap_cons, List.flatMap_nil, List.append_nil, List.append_assoc]
  show _ = kpC.put s.keep ++ (txts.put s.progs ++ ((numP s.stack.length ++ manyP fmC s.stack) ++ (rqC.put s.asked ++ (anC.put s.got ++ (rowP num s.sigs ++ (numP s.loose ++ (numP s.n ++ (numP s.deep ++ (bitP s.trapping ++ (bitP s.ended ++ (bitP s.done ++ numP s.fail)))))))))))
  simp only [manyP, List.append_assoc]
  rfl
theorem ss_cells {w : World} {n : Nat} {cs : List Value} {s : Ss} (h : ssR.C w n cs s) : ∃ B1 d1 B2 d2 B3 d3 B4 d4 B5 d5 A1 c1 A2 c2 Q1 e1 Q2 e2 A3 c3 A4 c4 A5 c5,
    cs = [.slice B1 s.keep.vars.length d1, .slice B2 s.keep.args.length d2, .int .i64 s.keep.status, .string (mkS s.keep.flags), .slice B3 s.keep.funcs.length d3, .slice B4 s.keep.traps.length d4, .slice B5 s.keep.fds.length d5, .slice A1 s.progs.length c1, .slice A2 s.stack.length c2, .int .i64 s.asked.kind, .int .i64 s.asked.n, .int .i64 s.asked.m, .string (mkS s.asked.text), .slice Q1 s.asked.list.length e1, .int .i64 s.got.kind, .int .i64 s.got.err, .int .i64 s.got.n, .int .i64 s.got.m, .string (mkS s.got.text), .slice Q2 s.got.list.length e2, .int .i64 s.got.sig, .slice A3 s.sigs.length c3, .slice A4 s.ints.length c4, .slice A5 s.iss.length c5, .int .i64 s.fail] ∧
    kpR.C w n [.slice B1 s.keep.vars.length d1, .slice B2 s.keep.args.length d2, .int .i64 s.keep.status, .string (mkS s.keep.flags), .slice B3 s.keep.funcs.length d3, .slice B4 s.keep.traps.length d4, .slice B5 s.keep.fds.length d5] s.keep ∧ rqR.C w n [.int .i64 s.asked.kind, .int .i64 s.asked.n, .int .i64 s.asked.m, .string (mkS s.asked.text), .slice Q1 s.asked.list.length e1] s.asked ∧ anR.C w n [.int .i64 s.got.kind, .int .i64 s.got.err, .int .i64 s.got.n, .int .i64 s.got.m, .string (mkS s.got.text), .slice Q2 s.got.list.length e2, .int .i64 s.got.sig] s.got ∧
    (Row rtxt w n A1 s.progs ∧ Row frR w n A2 s.stack ∧ Row rnum w n A3 s.sigs ∧ Row rnum w n A4 s.ints ∧ Row rbit w n A5 s.iss) ∧
    s.stack.length ≤ c2 ∧ c2 ≤ 9223372036854775807 ∧ s.iss.length ≤ c5 ∧ c5 ≤ 9223372036854775807 := by
  obtain ⟨xk, yk, rfl, hk, x1, y1, rfl, ⟨A1, c1, rfl, _, _, h1⟩, x2, y2, rfl, ⟨A2, c2, rfl, h2a, h2b, h2⟩, xq, yq, rfl, hq, xa, ya, rfl, ha, x3, y3, rfl, ⟨A3, c3, rfl, _, _, h3⟩, x4, y4, rfl, ⟨A4, c4, rfl, _, _, h4⟩, x5, y5, rfl, ⟨A5, c5, rfl, h5a, h5b, h5⟩, hf⟩ := h
  have hk : kpR.C w n xk s.keep := hk
  have hq : rqR.C w n xq s.asked := hq
  have ha : anR.C w n xa s.got := ha
  obtain ⟨B1, d1, B2, d2, B3, d3, B4, d4, B5, d5, rfl, _⟩ := kp_cells hk
  obtain ⟨Q1, e1, rfl, _⟩ := rq_cells hq
  obtain ⟨Q2, e2, rfl, _⟩ := an_cells ha
  rw [hf.1]
  exact ⟨B1, d1, B2, d2, B3, d3, B4, d4, B5, d5, A1, c1, A2, c2, Q1, e1, Q2, e2, A3, c3, A4, c4, A5, c5, rfl, hk, hq, ha, ⟨h1, h2, h3, h4, h5⟩, h2a, h2b, h5a, h5b⟩
set_option maxRecDepth 100000 in
set_option maxHeartbeats 6400000 in
theorem pack_v (s : Ss) (cs : List Value) (W : World) (h : ssR.C W W.heap.size cs s) (hok : ssOk s) (hIf : I64 s.fail) (hx : (ssB s).length ≤ 100000000) :
    Calls Try.prog 11 #[.agg cs.toArray] W fun r W' => r = .returned (.string (mkS (ssB s))) ∧ Later W W' := by
  obtain ⟨B1, d1, B2, d2, B3, d3, B4, d4, B5, d5, A1, c1, A2, c2, Q1, e1, Q2, e2, A3, c3, A4, c4, A5, c5, rfl, hK, hQ, hA, ⟨hr1, hr2, hr3, hr4, hr5⟩, hc2, he2, hc5, he5⟩ := ss_cells h
  obtain ⟨keep, progs, stack, asked, got, sigs, ints, iss, fail⟩ := s
  obtain ⟨hoK, ho1, hm2, ho2, hoQ, hoA, ho3, hm4, hm5, _⟩ := hok
  have hm1 : progs.length ≤ 100000 := ho1.1
  have hm3 : sigs.length ≤ 100000 := ho3.1
  have HOstack := Lib.hid (show ∀ f ∈ stack, frOk f from ho2)
  have HOiss := Lib.hid (show ∀ a ∈ iss, bit.ok a from fun _ _ => trivial)
  have HRstack := Lib.hid (show Row frR W W.heap.size A2 stack from hr2)
  have HRiss := Lib.hid (show Row rbit W W.heap.size A5 iss from hr5)
  clear h ho1 ho2 ho3 hr2 hr5
  dsimp only at *
  obtain ⟨n1, hn1⟩ : ∃ n, n = progs.length := ⟨_, rfl⟩
  obtain ⟨n2, hn2⟩ : ∃ n, n = stack.length := ⟨_, rfl⟩
  obtain ⟨n3, hn3⟩ : ∃ n, n = sigs.length := ⟨_, rfl⟩
  obtain ⟨n4, hn4⟩ : ∃ n, n = ints.length := ⟨_, rfl⟩
  obtain ⟨n5, hn5⟩ : ∃ n, n = iss.length := ⟨_, rfl⟩
  obtain ⟨m1, zm1⟩ : ∃ y, y = keep.vars.length := ⟨_, rfl⟩
  obtain ⟨m2, zm2⟩ : ∃ y, y = keep.args.length := ⟨_, rfl⟩
  obtain ⟨m3, zm3⟩ : ∃ y, y = keep.funcs.length := ⟨_, rfl⟩
  obtain ⟨m4, zm4⟩ : ∃ y, y = keep.traps.length := ⟨_, rfl⟩
  obtain ⟨m5, zm5⟩ : ∃ y, y = keep.fds.length := ⟨_, rfl⟩
  obtain ⟨status, zstatus⟩ : ∃ y, y = keep.status := ⟨_, rfl⟩
  obtain ⟨flags, zflags⟩ : ∃ y, y = keep.flags := ⟨_, rfl⟩
  rw [← zm1, ← zm2, ← zm3, ← zm4, ← zm5, ← zstatus, ← zflags] at hK ⊢
  clear zm1 zm2 zm3 zm4 zm5 zstatus zflags
  obtain ⟨q1k, zq1k⟩ : ∃ y, y = asked.kind := ⟨_, rfl⟩
  obtain ⟨q1n, zq1n⟩ : ∃ y, y = asked.n := ⟨_, rfl⟩
  obtain ⟨q1m, zq1m⟩ : ∃ y, y = asked.m := ⟨_, rfl⟩
  obtain ⟨q1t, zq1t⟩ : ∃ y, y = asked.text := ⟨_, rfl⟩
  obtain ⟨r1, zr1⟩ : ∃ y, y = asked.list.length := ⟨_, rfl⟩
  rw [← zq1k, ← zq1n, ← zq1m, ← zq1t, ← zr1] at hQ ⊢
  clear zq1k zq1n zq1m zq1t zr1
  obtain ⟨a1k, za1k⟩ : ∃ y, y = got.kind := ⟨_, rfl⟩
  obtain ⟨a1e, za1e⟩ : ∃ y, y = got.err := ⟨_, rfl⟩
  obtain ⟨a1n, za1n⟩ : ∃ y, y = got.n := ⟨_, rfl⟩
  obtain ⟨a1m, za1m⟩ : ∃ y, y = got.m := ⟨_, rfl⟩
  obtain ⟨a1t, za1t⟩ : ∃ y, y = got.text := ⟨_, rfl⟩
  obtain ⟨r2, zr2⟩ : ∃ y, y = got.list.length := ⟨_, rfl⟩
  obtain ⟨a1s, za1s⟩ : ∃ y, y = got.sig := ⟨_, rfl⟩
  rw [← za1k, ← za1e, ← za1n, ← za1m, ← za1t, ← zr2, ← za1s] at hA ⊢
  clear za1k za1e za1n za1m za1t zr2 za1s
  rw [← hn2] at hc2 hm2
  rw [← hn3] at hm3
  rw [← hn5] at hc5 hm5
  have hput : ssB ⟨keep, progs, stack, asked, got, sigs, ints, iss, fail⟩ = kpC.put keep ++ (txts.put progs ++ ((numP n2 ++ stB stack) ++ (rqC.put asked ++ (anC.put got ++ ((numP n3 ++ manyP num sigs) ++ (manyP num ints ++ (manyP bit iss ++ numP fail))))))) := by rw [hn2, hn3]; rfl
  rw [hput] at hx ⊢
  obtain ⟨tk, htk⟩ : ∃ y, y = kpC.put keep := ⟨_, rfl⟩
  rw [← htk] at hx ⊢
  obtain ⟨t1, ht1⟩ : ∃ y, y = txts.put progs := ⟨_, rfl⟩
  rw [← ht1] at hx ⊢
  obtain ⟨x2, hx2⟩ : ∃ y, y = numP n2 := ⟨_, rfl⟩
  rw [← hx2] at hx ⊢
  obtain ⟨tq, htq⟩ : ∃ y, y = rqC.put asked := ⟨_, rfl⟩
  rw [← htq] at hx ⊢
  obtain ⟨ta, hta⟩ : ∃ y, y = anC.put got := ⟨_, rfl⟩
  rw [← hta] at hx ⊢
  obtain ⟨x3, hx3⟩ : ∃ y, y = numP n3 := ⟨_, rfl⟩
  rw [← hx3] at hx ⊢
  obtain ⟨t3, ht3⟩ : ∃ y, y = manyP num sigs := ⟨_, rfl⟩
  rw [← ht3] at hx ⊢
  obtain ⟨t4, ht4⟩ : ∃ y, y = manyP num ints := ⟨_, rfl⟩
  rw [← ht4] at hx ⊢
  obtain ⟨tf, htf⟩ : ∃ y, y = numP fail := ⟨_, rfl⟩
  rw [← htf] at hx ⊢
  have hxs := hx
  simp only [List.length_append] at hxs
  have Htk := Lib.hid (fun (w' : World) (hl : Later W w') => keep_v keep _ w' (Rp.later hK hl) hoK (by rw [← htk]; omega))
  rw [← htk] at Htk
  have Ht1 := Lib.hid (fun (w' : World) (hl : Later W w') => row_v A1 c1 n1 progs w' (hr1.later hl) hn1 (by rw [← ht1]; omega) (by omega))
  rw [← ht1] at Ht1
  have Hx2 := Lib.hid (fun w => n_v (n2 : Int) ⟨by omega, by omega⟩ w)
  rw [← hx2] at Hx2
  have Htq := Lib.hid (fun (w' : World) (hl : Later W w') => request_v asked _ w' (Rp.later hQ hl) hoQ (by rw [← htq]; omega))
  rw [← htq] at Htq
  have Hta := Lib.hid (fun (w' : World) (hl : Later W w') => answer_v got _ w' (Rp.later hA hl) hoA (by rw [← hta]; omega))
  rw [← hta] at Hta
  have Hx3 := Lib.hid (fun w => n_v (n3 : Int) ⟨by omega, by omega⟩ w)
  rw [← hx3] at Hx3
  have Ht3 := Lib.hid (fun (w' : World) (hl : Later W w') => ints_v A3 c3 n3 sigs w' (hr3.later hl) hn3 (by rw [← ht3]; omega) (by omega))
  rw [← ht3] at Ht3
  have Ht4 := Lib.hid (fun (w' : World) (hl : Later W w') => ints_v A4 c4 n4 ints w' (hr4.later hl) hn4 (by rw [← ht4]; omega) (by omega))
  rw [← ht4] at Ht4
  have Htf := Lib.hid (fun w => n_v fail hIf w)
  rw [← htf] at Htf
  rw [← hn1, ← hn2, ← hn3, ← hn4, ← hn5]
  have HXS := Lib.hid hxs
  obtain ⟨j12, hj12⟩ : ∃ j12 : B, j12 = tk ++ t1 := ⟨_, rfl⟩
  have hlj12 : j12.length = tk.length + t1.length := by rw [hj12, List.length_append]
  have HZj12 := Lib.hid (show (¬ 9223372036854775807 < (mkS tk).size + (mkS t1).size) ∧ mkS tk ++ mkS t1 = mkS j12 from ⟨by rw [mkS_size, mkS_size]; omega, by rw [hj12]; exact mkS_add tk t1⟩)
  obtain ⟨j17, hj17⟩ : ∃ j17 : B, j17 = j12 ++ x2 := ⟨_, rfl⟩
  have hlj17 : j17.length = j12.length + x2.length := by rw [hj17, List.length_append]
  have HZj17 := Lib.hid (show (¬ 9223372036854775807 < (mkS j12).size + (mkS x2).size) ∧ mkS j12 ++ mkS x2 = mkS j17 from ⟨by rw [mkS_size, mkS_size]; omega, by rw [hj17]; exact mkS_add j12 x2⟩)
  have HLENa3 := Lib.hid (show j17.length = tk.length + t1.length + x2.length by omega)
  have HDEFa3 := Lib.hid (show j17 = tk ++ t1 ++ x2 by rw [hj17, hj12])
  have HNstack := Lib.hid hn2
  have HNiss := Lib.hid hn5
  have HBX := heap_alloc_new W (.cells #[.slice B1 m1 d1, .slice B2 m2 d2, .int .i64 status, .string (mkS flags), .slice B3 m3 d3, .slice B4 m4 d4, .slice B5 m5 d5, .slice A1 n1 c1, .slice A2 n2 c2, .int .i64 q1k, .int .i64 q1n, .int .i64 q1m, .string (mkS q1t), .slice Q1 r1 e1, .int .i64 a1k, .int .i64 a1e, .int .i64 a1n, .int .i64 a1m, .string (mkS a1t), .slice Q2 r2 e2, .int .i64 a1s, .slice A3 n3 c3, .slice A4 n4 c4, .slice A5 n5 c5, .int .i64 fail] 59)
  obtain ⟨w1, hw1⟩ : ∃ w1, w1 = W.alloc (.cells #[.slice B1 m1 d1, .slice B2 m2 d2, .int .i64 status, .string (mkS flags), .slice B3 m3 d3, .slice B4 m4 d4, .slice B5 m5 d5, .slice A1 n1 c1, .slice A2 n2 c2, .int .i64 q1k, .int .i64 q1n, .int .i64 q1m, .string (mkS q1t), .slice Q1 r1 e1, .int .i64 a1k, .int .i64 a1e, .int .i64 a1n, .int .i64 a1m, .string (mkS a1t), .slice Q2 r2 e2, .int .i64 a1s, .slice A3 n3 c3, .slice A4 n4 c4, .slice A5 n5 c5, .int .i64 fail] 59) := ⟨_, rfl⟩
  have HLw1 := Lib.hid (show Later W w1 by rw [hw1]; exact Later.alloc W _)
  rw [← hw1] at HBX
  have HXw1 := Lib.hid HBX
  have HRF0 := Lib.hid (Later.refl w1)
  clear HBX hj12 hlj12 hj17 hlj17 htk ht1 hx2 htq hta hx3 ht3 ht4 htf hx hxs hput hn1 hn2 hn3 hn4 hn5 hK hQ hA hoK hoQ hoA hr1 hr3 hr4 hIf hm1 hm3 hm4
  go_enter Try.func11, Try.ntmps11
  go_wp2_with fail
  rw [← hw1]
  clear hw1
  refine wp_region_seq (by kernel_rfl) [2, 5, 10] (fun _ _ w => Later w1 w) [some (.pointer (some ⟨W.heap.size, 0, none⟩)), some (.agg #[.slice B1 m1 d1, .slice B2 m2 d2, .int .i64 status, .string (mkS flags), .slice B3 m3 d3, .slice B4 m4 d4, .slice B5 m5 d5]), some (.string (mkS tk)), some (.pointer (some ⟨W.heap.size, 7, none⟩)), some (.slice A1 n1 c1), some (.string (mkS t1)), some (.string (mkS j12)), some (.pointer (some ⟨W.heap.size, 8, none⟩)), some (.slice A2 n2 c2), some (.int .i64 (n2 : Int)), some (.string (mkS x2)), some (.string (mkS j17)), some (.string (mkS j17))] (by decide) (by decide) (by kernel_rfl) (by kernel_rfl) (Later.drew w1) ?_ ?_
  · refine ⟨?_, ?_, ?_, ?_, ?_, ?_, ?_, ?_, ?_, ?_, ?_, ?_, ?_, trivial⟩
    · -- 0: slot 6 := Op.fieldAddr 59 t1 0
      refine OwesS.q rfl fun a w j u hC hb hs => ⟨rfl, ?_⟩
      have e1 : a.tmps.getD 1 undef = .pointer (some ⟨W.heap.size, 0, none⟩) := hs.free 1 rfl
      refine ValWp.pure (v := .pointer (some ⟨W.heap.size, 0, none⟩)) (fun K' hK' => ?_) ⟨rfl, rfl⟩
      simp only [ValWp, execOp, Act.eval, e1]
      go_simp
      all_goals exact hK'
    · -- 1: slot 7 := Op.load 55 t6
      refine OwesS.q rfl fun a w j u hC hb hs => ⟨rfl, ?_⟩
      have e6 : a.tmps.getD 6 undef = .pointer (some ⟨W.heap.size, 0, none⟩) := hs.dep 0 _ rfl rfl
      exact ValWp.loadR rfl e6 (load_sub (later_cells (HRF0.out.trans hC) HXw1.out) [.slice B1 m1 d1, .slice B2 m2 d2, .int .i64 status, .string (mkS flags), .slice B3 m3 d3, .slice B4 m4 d4, .slice B5 m5 d5] rfl Try.underlying55 rfl (by kernel_rfl)) ⟨rfl, rfl⟩
    · -- 2: slot 8 := Op.call { value (Operand.func 34), args := #[t7], argTypes := #[55] }
      refine OwesS.w rfl fun a w u hC hl hs => ⟨rfl, fun K hK => ?_⟩
      have e7 : a.tmps.getD 7 undef = .agg #[.slice B1 m1 d1, .slice B2 m2 d2, .int .i64 status, .string (mkS flags), .slice B3 m3 d3, .slice B4 m4 d4, .slice B5 m5 d5] := hs.dep 1 _ rfl rfl
      refine wp_of_val ?_
      refine ValWp.call #[.agg #[.slice B1 m1 d1, .slice B2 m2 d2, .int .i64 status, .string (mkS flags), .slice B3 m3 d3, .slice B4 m4 d4, .slice B5 m5 d5]] rfl rfl Try.func17 rfl rfl (by simp only [List.map_toArray, List.map_cons, List.map_nil, Act.eval, e7]) ?_
      refine (Htk.out w (HLw1.out.trans hC)).mono ?_
      rintro e w' ⟨rfl, hb⟩
      exact ⟨_, rfl, hK _ _ rfl (Later.trans hC hb)⟩
    · -- 3: slot 9 := Op.fieldAddr 59 t1 1
      refine OwesS.q rfl fun a w j u hC hb hs => ⟨rfl, ?_⟩
      have e1 : a.tmps.getD 1 undef = .pointer (some ⟨W.heap.size, 0, none⟩) := hs.free 1 rfl
      refine ValWp.pure (v := .pointer (some ⟨W.heap.size, 7, none⟩)) (fun K' hK' => ?_) ⟨rfl, rfl⟩
      simp only [ValWp, execOp, Act.eval, e1]
      go_simp
      all_goals exact hK'
    · -- 4: slot 10 := Op.load 23 t9
      refine OwesS.q rfl fun a w j u hC hb hs => ⟨rfl, ?_⟩
      have e9 : a.tmps.getD 9 undef = .pointer (some ⟨W.heap.size, 7, none⟩) := hs.dep 3 _ rfl rfl
      have q : w.cell? ⟨W.heap.size, 7, none⟩ = some (.slice A1 n1 c1) := (cell_row (later_cells (HRF0.out.trans hC) HXw1.out) 7).1
      refine ValWp.pure (v := .slice A1 n1 c1) (fun K' hK' => ?_) ⟨rfl, rfl⟩
      simp only [ValWp, execOp, Act.eval, e9]
      go_simp
      all_goals exact hK'
    · -- 5: slot 11 := Op.call { value (Operand.func 35), args := #[t10], argTypes := #[23] }
      refine OwesS.w rfl fun a w u hC hl hs => ⟨rfl, fun K hK => ?_⟩
      have e10 : a.tmps.getD 10 undef = .slice A1 n1 c1 := hs.dep 4 _ rfl rfl
      refine wp_of_val ?_
      refine ValWp.call #[.slice A1 n1 c1] rfl rfl Try.func18 rfl rfl (by simp only [List.map_toArray, List.map_cons, List.map_nil, Act.eval, e10]) ?_
      refine (Ht1.out w (HLw1.out.trans hC)).mono ?_
      rintro e w' ⟨rfl, hb⟩
      exact ⟨_, rfl, hK _ _ rfl (Later.trans hC hb)⟩
    · -- 6: slot 12 := Op.binOp BinOp.add 9 t8 t11 9
      refine OwesS.q rfl fun a w j u hC hb hs => ⟨rfl, ?_⟩
      have e8 : a.tmps.getD 8 undef = .string (mkS tk) := hs.dep 2 _ rfl rfl
      have e11 : a.tmps.getD 11 undef = .string (mkS t1) := hs.dep 5 _ rfl rfl
      have hz := HZj12.out.1
      have hq := HZj12.out.2
      refine ValWp.pure (v := .string (mkS j12)) (fun K' hK' => ?_) ⟨rfl, rfl⟩
      simp only [ValWp, execOp, Act.eval, e8, e11]
      go_simp
      all_goals exact hK'
    · -- 7: slot 13 := Op.fieldAddr 59 t1 2
      refine OwesS.q rfl fun a w j u hC hb hs => ⟨rfl, ?_⟩
      have e1 : a.tmps.getD 1 undef = .pointer (some ⟨W.heap.size, 0, none⟩) := hs.free 1 rfl
      refine ValWp.pure (v := .pointer (some ⟨W.heap.size, 8, none⟩)) (fun K' hK' => ?_) ⟨rfl, rfl⟩
      simp only [ValWp, execOp, Act.eval, e1]
      go_simp
      all_goals exact hK'
    · -- 8: slot 14 := Op.load 56 t13
      refine OwesS.q rfl fun a w j u hC hb hs => ⟨rfl, ?_⟩
      have e13 : a.tmps.getD 13 undef = .pointer (some ⟨W.heap.size, 8, none⟩) := hs.dep 7 _ rfl rfl
      have q : w.cell? ⟨W.heap.size, 8, none⟩ = some (.slice A2 n2 c2) := (cell_row (later_cells (HRF0.out.trans hC) HXw1.out) 8).1
      refine ValWp.pure (v := .slice A2 n2 c2) (fun K' hK' => ?_) ⟨rfl, rfl⟩
      simp only [ValWp, execOp, Act.eval, e13]
      go_simp
      all_goals exact hK'
    · -- 9: slot 15 := Op.call { builtin len, args := #[t14], argTypes := #[56] }
      refine OwesS.q rfl fun a w j u hC hb hs => ⟨rfl, ?_⟩
      have e14 : a.tmps.getD 14 undef = .slice A2 n2 c2 := hs.dep 8 _ rfl rfl
      refine ValWp.pure (v := .int .i64 (n2 : Int)) (fun K' hK' => ?_) ⟨rfl, rfl⟩
      simp only [ValWp, execOp, Act.eval, e14]
      go_simp
      all_goals exact hK'
    · -- 10: slot 16 := Op.call { value (Operand.func 36), args := #[t15], argTypes := #[2] }
      refine OwesS.w rfl fun a w u hC hl hs => ⟨rfl, fun K hK => ?_⟩
      have e15 : a.tmps.getD 15 undef = .int .i64 (n2 : Int) := hs.dep 9 _ rfl rfl
      refine wp_of_val ?_
      refine ValWp.call #[.int .i64 (n2 : Int)] rfl rfl Try.func19 rfl rfl (by simp only [List.map_toArray, List.map_cons, List.map_nil, Act.eval, e15]) ?_
      refine (Hx2.out w).mono ?_
      rintro e w' ⟨rfl, hb⟩
      exact ⟨_, rfl, hK _ _ rfl (Later.trans hC hb)⟩
    · -- 11: slot 17 := Op.binOp BinOp.add 9 t12 t16 9
      refine OwesS.q rfl fun a w j u hC hb hs => ⟨rfl, ?_⟩
      have e12 : a.tmps.getD 12 undef = .string (mkS j12) := hs.dep 6 _ rfl rfl
      have e16 : a.tmps.getD 16 undef = .string (mkS x2) := hs.dep 10 _ rfl rfl
      have hz := HZj17.out.1
      have hq := HZj17.out.2
      refine ValWp.pure (v := .string (mkS j17)) (fun K' hK' => ?_) ⟨rfl, rfl⟩
      simp only [ValWp, execOp, Act.eval, e12, e16]
      go_simp
      all_goals exact hK'
    · -- 12: slot 3 := Op.assign t17
      refine OwesS.q rfl fun a w j u hC hb hs => ⟨rfl, ?_⟩
      have e17 : a.tmps.getD 17 undef = .string (mkS j17) := hs.dep 11 _ rfl rfl
      refine ValWp.pure (v := .string (mkS j17)) (fun K' hK' => ?_) ⟨rfl, rfl⟩
      simp only [ValWp, execOp, Act.eval, e17]
      go_simp
      all_goals exact hK'
  · intro a w u hC hl hd hsz hfree hs
    obtain ⟨u6, hu6⟩ : ∃ u, u = a.tmps.getD 6 undef := ⟨_, rfl⟩
    obtain ⟨u7, hu7⟩ : ∃ u, u = a.tmps.getD 7 undef := ⟨_, rfl⟩
    obtain ⟨u8, hu8⟩ : ∃ u, u = a.tmps.getD 8 undef := ⟨_, rfl⟩
    obtain ⟨u9, hu9⟩ : ∃ u, u = a.tmps.getD 9 undef := ⟨_, rfl⟩
    obtain ⟨u10, hu10⟩ : ∃ u, u = a.tmps.getD 10 undef := ⟨_, rfl⟩
    obtain ⟨u11, hu11⟩ : ∃ u, u = a.tmps.getD 11 undef := ⟨_, rfl⟩
    obtain ⟨u12, hu12⟩ : ∃ u, u = a.tmps.getD 12 undef := ⟨_, rfl⟩
    obtain ⟨u13, hu13⟩ : ∃ u, u = a.tmps.getD 13 undef := ⟨_, rfl⟩
    obtain ⟨u14, hu14⟩ : ∃ u, u = a.tmps.getD 14 undef := ⟨_, rfl⟩
    obtain ⟨u15, hu15⟩ : ∃ u, u = a.tmps.getD 15 undef := ⟨_, rfl⟩
    obtain ⟨u16, hu16⟩ : ∃ u, u = a.tmps.getD 16 undef := ⟨_, rfl⟩
    obtain ⟨u17, hu17⟩ : ∃ u, u = a.tmps.getD 17 undef := ⟨_, rfl⟩
    have hal : AllAt a 0 [_, _, _, .string (mkS j17), _, _, u6, u7, u8, u9, u10, u11, u12, u13, u14, u15, u16, u17, _, _, _, _, _, _, _, _, _, _, _, _, _, _, _, _, _, _, _, _, _, _, _, _, _, _, _, _, _, _, _, _, _, _, _, _, _, _, _, _, _, _, _, _, _, _, _, _, _, _, _, _, _, _, _, _, _] := ⟨hfree 0 rfl, hfree 1 rfl, hfree 2 rfl, hs 12 _ rfl, hfree 4 rfl, hfree 5 rfl, hu6.symm, hu7.symm, hu8.symm, hu9.symm, hu10.symm, hu11.symm, hu12.symm, hu13.symm, hu14.symm, hu15.symm, hu16.symm, hu17.symm, hfree 18 rfl, hfree 19 rfl, hfree 20 rfl, hfree 21 rfl, hfree 22 rfl, hfree 23 rfl, hfree 24 rfl, hfree 25 rfl, hfree 26 rfl, hfree 27 rfl, hfree 28 rfl, hfree 29 rfl, hfree 30 rfl, hfree 31 rfl, hfree 32 rfl, hfree 33 rfl, hfree 34 rfl, hfree 35 rfl, hfree 36 rfl, hfree 37 rfl, hfree 38 rfl, hfree 39 rfl, hfree 40 rfl, hfree 41 rfl, hfree 42 rfl, hfree 43 rfl, hfree 44 rfl, hfree 45 rfl, hfree 46 rfl, hfree 47 rfl, hfree 48 rfl, hfree 49 rfl, hfree 50 rfl, hfree 51 rfl, hfree 52 rfl, hfree 53 rfl, hfree 54 rfl, hfree 55 rfl, hfree 56 rfl, hfree 57 rfl, hfree 58 rfl, hfree 59 rfl, hfree 60 rfl, hfree 61 rfl, hfree 62 rfl, hfree 63 rfl, hfree 64 rfl, hfree 65 rfl, hfree 66 rfl, hfree 67 rfl, hfree 68 rfl, hfree 69 rfl, hfree 70 rfl, hfree 71 rfl, hfree 72 rfl, hfree 73 rfl, hfree 74 rfl, trivial⟩
    have hlit := fun h => act_lit hd h hal
    rw [hlit hsz]
    simp only [Array.getD_eq_getD_getElem?, List.getElem?_toArray, List.getElem?_cons_zero, List.getElem?_cons_succ, Option.getD_some]
    clear hlit hal hd hsz hfree hs hu6 hu7 hu8 hu9 hu10 hu11 hu12 hu13 hu14 hu15 hu16 hu17
    obtain ⟨a3, ha3⟩ : ∃ y, y = j17 := ⟨_, rfl⟩
    rw [← ha3] at HLENa3 HDEFa3 ⊢
    clear ha3
    rename World => w2a
    have HLw2a := Lib.hid (HLw1.out.trans hC)
    have HXw2a := Lib.hid (later_cells hC HXw1.out)
    clear hC
    go_wp2
    go_loopw [3, 4] (fun s i wr => ∃ k : Nat, k ≤ n2 ∧ i = .int .i64 (k : Int) ∧ s = .string (mkS (a3 ++ stB (stack.take k))) ∧ Later w2a wr) (fun _ i _ => n2 - (intOf i).toNat)
    case atStart => exact ⟨0, by omega, rfl, by simp only [List.take_zero, stB, List.flatMap_nil, List.append_nil], Later.refl _⟩
    case round =>
      obtain ⟨k1, hk, rfl, rfl, hb⟩ := hrel
      have HLW1 := Lib.hid (HLw2a.out.trans hb)
      have HBW1 := Lib.hid (later_cells hb HXw2a.out)
      have HRF1 := Lib.hid (Later.refl wr)
      have HST := Lib.hid hb
      have q0 := (cell_row HBW1.out 8).1
      clear hb
      by_cases hlt : k1 < n2
      · have hk0 : (0 : Int) ≤ (k1 : Int) := by omega
        have hlt1 : (k1 : Int) < (n2 : Int) := by omega
        have hkl : k1 < stack.length := by rw [← HNstack.out]; exact hlt
        obtain ⟨g, o, rfl, hg, hcell⟩ := HRstack.out.lie (by omega) (by decide)
        obtain ⟨cs, hcs, hu⟩ := hcell k1 hkl
        have HCS := Lib.hid (HOstack.out _ (List.getElem_mem hkl))
        have hbound : (stB (stack.take k1)).length + (frB stack[k1]).length ≤ (stB stack).length := flat_at_len frB stack k1 hkl
        have hfl := HCS.out
        have Hfr := Lib.hid (fun (w' : World) (hl : Later W w') => frame_v stack[k1] cs w' (Rp.later hcs hl) hfl (by have := HXS.out; omega))
        have hone : stB (stack.take (k1 + 1)) = stB (stack.take k1) ++ frB stack[k1] := flat_snoc frB stack k1 hkl
        obtain ⟨t, ht⟩ : ∃ y, y = frB stack[k1] := ⟨_, rfl⟩
        rw [← ht] at hbound Hfr hone
        have HLD := Lib.hid (show (Instr.loadAt 85 (.pointer (some ⟨g, o + k1 * 15, none⟩))).run Try.prog wr = .ok (.agg cs.toArray) wr from
          run_loadAt_mid wr g (o + k1 * 15) _ cs _ (fun j v hv => (HLW1.out.cell (p := ⟨g, o + k1 * 15 + j, none⟩) hg).trans (hu j v hv)) Try.underlying85 rfl (by rw [frR.len hcs]; kernel_rfl))
        obtain ⟨v, hv⟩ : ∃ v, v = Value.agg cs.toArray := ⟨_, rfl⟩
        rw [← hv] at HLD Hfr
        have hxo := HXS.out
        have hla := HLENa3.out
        obtain ⟨cur, hcur⟩ : ∃ y, y = a3 ++ stB (stack.take k1) := ⟨_, rfl⟩
        have hlc : cur.length = a3.length + (stB (stack.take k1)).length := by rw [hcur, List.length_append]
        rw [← hcur]
        have hsum : ¬ 9223372036854775807 < (mkS cur).size + (mkS t).size := by rw [mkS_size, mkS_size]; omega
        have HADD := Lib.hid (mkS_add cur t)
        have HEND := Lib.hid (show cur ++ t = a3 ++ stB (stack.take (k1 + 1)) by rw [hone, ← List.append_assoc, ← hcur])
        clear HCS ht hxo hla hbound hone hlc hcur hcell hkl hg hfl hcs hu hv
        go_wp2_with (first
          | (refine wpList_loadRun rfl 85 (.tmp 29) rfl _ _ rfl HLD.out ?_)
          | (go_at_call 20; (with_reducible refine (Hfr.out _ HLW1.out).mono ?_); rintro e w2 ⟨rfl, hb2⟩; have HB2 := Lib.hid (Later.trans HST.out hb2); clear hb2))
        go_roundw
        case rel => exact ⟨k1 + 1, by omega, by go_num, by rw [HADD.out, HEND.out], HB2.out⟩
        case measure => simp [intOf]; omega
      · have e : stack.take k1 = stack := by rw [List.take_of_length_le]; have := HNstack.out; omega
        have hlt1 : ¬ (k1 : Int) < (n2 : Int) := by omega
        have hxo := HXS.out
        rw [e]
        clear e
        obtain ⟨cur, hcur⟩ : ∃ y, y = a3 ++ stB stack := ⟨_, rfl⟩
        have hlc : cur.length = a3.length + (stB stack).length := by rw [hcur, List.length_append]
        have hla := HLENa3.out
        rw [← hcur]
        obtain ⟨j40, hj40⟩ : ∃ j40 : B, j40 = tq ++ ta := ⟨_, rfl⟩
        have hlj40 : j40.length = tq.length + ta.length := by rw [hj40, List.length_append]
        have HZj40 := Lib.hid (show (¬ 9223372036854775807 < (mkS tq).size + (mkS ta).size) ∧ mkS tq ++ mkS ta = mkS j40 from ⟨by rw [mkS_size, mkS_size]; omega, by rw [hj40]; exact mkS_add tq ta⟩)
        obtain ⟨j45, hj45⟩ : ∃ j45 : B, j45 = j40 ++ x3 := ⟨_, rfl⟩
        have hlj45 : j45.length = j40.length + x3.length := by rw [hj45, List.length_append]
        have HZj45 := Lib.hid (show (¬ 9223372036854775807 < (mkS j40).size + (mkS x3).size) ∧ mkS j40 ++ mkS x3 = mkS j45 from ⟨by rw [mkS_size, mkS_size]; omega, by rw [hj45]; exact mkS_add j40 x3⟩)
        obtain ⟨j49, hj49⟩ : ∃ j49 : B, j49 = j45 ++ t3 := ⟨_, rfl⟩
        have hlj49 : j49.length = j45.length + t3.length := by rw [hj49, List.length_append]
        have HZj49 := Lib.hid (show (¬ 9223372036854775807 < (mkS j45).size + (mkS t3).size) ∧ mkS j45 ++ mkS t3 = mkS j49 from ⟨by rw [mkS_size, mkS_size]; omega, by rw [hj49]; exact mkS_add j45 t3⟩)
        obtain ⟨j53, hj53⟩ : ∃ j53 : B, j53 = j49 ++ t4 := ⟨_, rfl⟩
        have hlj53 : j53.length = j49.length + t4.length := by rw [hj53, List.length_append]
        have HZj53 := Lib.hid (show (¬ 9223372036854775807 < (mkS j49).size + (mkS t4).size) ∧ mkS j49 ++ mkS t4 = mkS j53 from ⟨by rw [mkS_size, mkS_size]; omega, by rw [hj53]; exact mkS_add j49 t4⟩)
        obtain ⟨j54, hj54⟩ : ∃ j54 : B, j54 = cur ++ j53 := ⟨_, rfl⟩
        have hlj54 : j54.length = cur.length + j53.length := by rw [hj54, List.length_append]
        have HZj54 := Lib.hid (show (¬ 9223372036854775807 < (mkS cur).size + (mkS j53).size) ∧ mkS cur ++ mkS j53 = mkS j54 from ⟨by rw [mkS_size, mkS_size]; omega, by rw [hj54]; exact mkS_add cur j53⟩)
        have HLENa6 := Lib.hid (show j54.length = tk.length + t1.length + x2.length + (stB stack).length + tq.length + ta.length + x3.length + t3.length + t4.length by omega)
        have HDEFa6 := Lib.hid (show j54 = a3 ++ stB stack ++ (tq ++ ta ++ x3 ++ t3 ++ t4) by rw [hj54, hj53, hj49, hj45, hj40, hcur])
        clear hj40 hlj40 hj45 hlj45 hj49 hlj49 hj53 hlj53 hj54 hlj54 hxo hla hlc hcur hlt
        go_wp2_with fail
        refine wp_region_seqE (by kernel_rfl) [3, 6, 11, 15, 19, 22] (fun _ _ w => Later wr w) [some (.string (mkS cur)), some (.pointer (some ⟨W.heap.size, 9, none⟩)), some (.agg #[.int .i64 q1k, .int .i64 q1n, .int .i64 q1m, .string (mkS q1t), .slice Q1 r1 e1]), some (.string (mkS tq)), some (.pointer (some ⟨W.heap.size, 14, none⟩)), some (.agg #[.int .i64 a1k, .int .i64 a1e, .int .i64 a1n, .int .i64 a1m, .string (mkS a1t), .slice Q2 r2 e2, .int .i64 a1s]), some (.string (mkS ta)), some (.string (mkS j40)), some (.pointer (some ⟨W.heap.size, 21, none⟩)), some (.slice A3 n3 c3), some (.int .i64 (n3 : Int)), some (.string (mkS x3)), some (.string (mkS j45)), some (.pointer (some ⟨W.heap.size, 21, none⟩)), some (.slice A3 n3 c3), some (.string (mkS t3)), some (.string (mkS j49)), some (.pointer (some ⟨W.heap.size, 22, none⟩)), some (.slice A4 n4 c4), some (.string (mkS t4)), some (.string (mkS j53)), some (.string (mkS j54)), some (.string (mkS j54))] (by decide) (by decide) (by kernel_rfl) (by kernel_rfl) 3 (by kernel_rfl) (Later.drew wr) ?_ ?_
        · refine ⟨?_, ?_, ?_, ?_, ?_, ?_, ?_, ?_, ?_, ?_, ?_, ?_, ?_, ?_, ?_, ?_, ?_, ?_, ?_, ?_, ?_, ?_, ?_, trivial⟩
          · -- 0: slot 33 := Op.move t3
            refine OwesSE.q rfl fun a w j u hC hb he hs => ⟨rfl, ?_⟩
            have e3 : a.tmps.getD 3 undef = .string (mkS cur) := he (by have := hb 5 22 rfl rfl; simp only [List.length_cons, List.length_nil]; omega)
            refine ValWp.pure (v := .string (mkS cur)) (fun K' hK' => ?_) ⟨rfl, rfl⟩
            simp only [ValWp, execOp, Act.eval, e3]
            go_simp
            all_goals exact hK'
          · -- 1: slot 34 := Op.fieldAddr 59 t1 3
            refine OwesSE.q rfl fun a w j u hC hb he hs => ⟨rfl, ?_⟩
            have e1 : a.tmps.getD 1 undef = .pointer (some ⟨W.heap.size, 0, none⟩) := hs.free 1 rfl
            refine ValWp.pure (v := .pointer (some ⟨W.heap.size, 9, none⟩)) (fun K' hK' => ?_) ⟨rfl, rfl⟩
            simp only [ValWp, execOp, Act.eval, e1]
            go_simp
            all_goals exact hK'
          · -- 2: slot 35 := Op.load 34 t34
            refine OwesSE.q rfl fun a w j u hC hb he hs => ⟨rfl, ?_⟩
            have e34 : a.tmps.getD 34 undef = .pointer (some ⟨W.heap.size, 9, none⟩) := hs.dep 1 _ rfl rfl
            exact ValWp.loadR rfl e34 (load_sub (later_cells (HRF1.out.trans hC) HBW1.out) [.int .i64 q1k, .int .i64 q1n, .int .i64 q1m, .string (mkS q1t), .slice Q1 r1 e1] rfl Try.underlying34 rfl (by kernel_rfl)) ⟨rfl, rfl⟩
          · -- 3: slot 36 := Op.call { value (Operand.func 38), args := #[t35], argTypes := #[34] }
            refine OwesSE.w rfl fun a w u hC hl hs => ⟨rfl, fun K hK => ?_⟩
            have e35 : a.tmps.getD 35 undef = .agg #[.int .i64 q1k, .int .i64 q1n, .int .i64 q1m, .string (mkS q1t), .slice Q1 r1 e1] := hs.dep 2 _ rfl rfl
            refine wp_of_val ?_
            refine ValWp.call #[.agg #[.int .i64 q1k, .int .i64 q1n, .int .i64 q1m, .string (mkS q1t), .slice Q1 r1 e1]] rfl rfl Try.func21 rfl rfl (by simp only [List.map_toArray, List.map_cons, List.map_nil, Act.eval, e35]) ?_
            refine (Htq.out w (HLW1.out.trans hC)).mono ?_
            rintro e w' ⟨rfl, hb⟩
            exact ⟨_, rfl, hK _ _ rfl (Later.trans hC hb)⟩
          · -- 4: slot 37 := Op.fieldAddr 59 t1 4
            refine OwesSE.q rfl fun a w j u hC hb he hs => ⟨rfl, ?_⟩
            have e1 : a.tmps.getD 1 undef = .pointer (some ⟨W.heap.size, 0, none⟩) := hs.free 1 rfl
            refine ValWp.pure (v := .pointer (some ⟨W.heap.size, 14, none⟩)) (fun K' hK' => ?_) ⟨rfl, rfl⟩
            simp only [ValWp, execOp, Act.eval, e1]
            go_simp
            all_goals exact hK'
          · -- 5: slot 38 := Op.load 36 t37
            refine OwesSE.q rfl fun a w j u hC hb he hs => ⟨rfl, ?_⟩
            have e37 : a.tmps.getD 37 undef = .pointer (some ⟨W.heap.size, 14, none⟩) := hs.dep 4 _ rfl rfl
            exact ValWp.loadR rfl e37 (load_sub (later_cells (HRF1.out.trans hC) HBW1.out) [.int .i64 a1k, .int .i64 a1e, .int .i64 a1n, .int .i64 a1m, .string (mkS a1t), .slice Q2 r2 e2, .int .i64 a1s] rfl Try.underlying36 rfl (by kernel_rfl)) ⟨rfl, rfl⟩
          · -- 6: slot 39 := Op.call { value (Operand.func 39), args := #[t38], argTypes := #[36] }
            refine OwesSE.w rfl fun a w u hC hl hs => ⟨rfl, fun K hK => ?_⟩
            have e38 : a.tmps.getD 38 undef = .agg #[.int .i64 a1k, .int .i64 a1e, .int .i64 a1n, .int .i64 a1m, .string (mkS a1t), .slice Q2 r2 e2, .int .i64 a1s] := hs.dep 5 _ rfl rfl
            refine wp_of_val ?_
            refine ValWp.call #[.agg #[.int .i64 a1k, .int .i64 a1e, .int .i64 a1n, .int .i64 a1m, .string (mkS a1t), .slice Q2 r2 e2, .int .i64 a1s]] rfl rfl Try.func22 rfl rfl (by simp only [List.map_toArray, List.map_cons, List.map_nil, Act.eval, e38]) ?_
            refine (Hta.out w (HLW1.out.trans hC)).mono ?_
            rintro e w' ⟨rfl, hb⟩
            exact ⟨_, rfl, hK _ _ rfl (Later.trans hC hb)⟩
          · -- 7: slot 40 := Op.binOp BinOp.add 9 t36 t39 9
            refine OwesSE.q rfl fun a w j u hC hb he hs => ⟨rfl, ?_⟩
            have e36 : a.tmps.getD 36 undef = .string (mkS tq) := hs.dep 3 _ rfl rfl
            have e39 : a.tmps.getD 39 undef = .string (mkS ta) := hs.dep 6 _ rfl rfl
            have hz := HZj40.out.1
            have hq := HZj40.out.2
            refine ValWp.pure (v := .string (mkS j40)) (fun K' hK' => ?_) ⟨rfl, rfl⟩
            simp only [ValWp, execOp, Act.eval, e36, e39]
            go_simp
            all_goals exact hK'
          · -- 8: slot 41 := Op.fieldAddr 59 t1 5
            refine OwesSE.q rfl fun a w j u hC hb he hs => ⟨rfl, ?_⟩
            have e1 : a.tmps.getD 1 undef = .pointer (some ⟨W.heap.size, 0, none⟩) := hs.free 1 rfl
            refine ValWp.pure (v := .pointer (some ⟨W.heap.size, 21, none⟩)) (fun K' hK' => ?_) ⟨rfl, rfl⟩
            simp only [ValWp, execOp, Act.eval, e1]
            go_simp
            all_goals exact hK'
          · -- 9: slot 42 := Op.load 37 t41
            refine OwesSE.q rfl fun a w j u hC hb he hs => ⟨rfl, ?_⟩
            have e41 : a.tmps.getD 41 undef = .pointer (some ⟨W.heap.size, 21, none⟩) := hs.dep 8 _ rfl rfl
            have q : w.cell? ⟨W.heap.size, 21, none⟩ = some (.slice A3 n3 c3) := (cell_row (later_cells (HRF1.out.trans hC) HBW1.out) 21).1
            refine ValWp.pure (v := .slice A3 n3 c3) (fun K' hK' => ?_) ⟨rfl, rfl⟩
            simp only [ValWp, execOp, Act.eval, e41]
            go_simp
            all_goals exact hK'
          · -- 10: slot 43 := Op.call { builtin len, args := #[t42], argTypes := #[37] }
            refine OwesSE.q rfl fun a w j u hC hb he hs => ⟨rfl, ?_⟩
            have e42 : a.tmps.getD 42 undef = .slice A3 n3 c3 := hs.dep 9 _ rfl rfl
            refine ValWp.pure (v := .int .i64 (n3 : Int)) (fun K' hK' => ?_) ⟨rfl, rfl⟩
            simp only [ValWp, execOp, Act.eval, e42]
            go_simp
            all_goals exact hK'
          · -- 11: slot 44 := Op.call { value (Operand.func 36), args := #[t43], argTypes := #[2] }
            refine OwesSE.w rfl fun a w u hC hl hs => ⟨rfl, fun K hK => ?_⟩
            have e43 : a.tmps.getD 43 undef = .int .i64 (n3 : Int) := hs.dep 10 _ rfl rfl
            refine wp_of_val ?_
            refine ValWp.call #[.int .i64 (n3 : Int)] rfl rfl Try.func19 rfl rfl (by simp only [List.map_toArray, List.map_cons, List.map_nil, Act.eval, e43]) ?_
            refine (Hx3.out w).mono ?_
            rintro e w' ⟨rfl, hb⟩
            exact ⟨_, rfl, hK _ _ rfl (Later.trans hC hb)⟩
          · -- 12: slot 45 := Op.binOp BinOp.add 9 t40 t44 9
            refine OwesSE.q rfl fun a w j u hC hb he hs => ⟨rfl, ?_⟩
            have e40 : a.tmps.getD 40 undef = .string (mkS j40) := hs.dep 7 _ rfl rfl
            have e44 : a.tmps.getD 44 undef = .string (mkS x3) := hs.dep 11 _ rfl rfl
            have hz := HZj45.out.1
            have hq := HZj45.out.2
            refine ValWp.pure (v := .string (mkS j45)) (fun K' hK' => ?_) ⟨rfl, rfl⟩
            simp only [ValWp, execOp, Act.eval, e40, e44]
            go_simp
            all_goals exact hK'
          · -- 13: slot 46 := Op.fieldAddr 59 t1 5
            refine OwesSE.q rfl fun a w j u hC hb he hs => ⟨rfl, ?_⟩
            have e1 : a.tmps.getD 1 undef = .pointer (some ⟨W.heap.size, 0, none⟩) := hs.free 1 rfl
            refine ValWp.pure (v := .pointer (some ⟨W.heap.size, 21, none⟩)) (fun K' hK' => ?_) ⟨rfl, rfl⟩
            simp only [ValWp, execOp, Act.eval, e1]
            go_simp
            all_goals exact hK'
          · -- 14: slot 47 := Op.load 37 t46
            refine OwesSE.q rfl fun a w j u hC hb he hs => ⟨rfl, ?_⟩
            have e46 : a.tmps.getD 46 undef = .pointer (some ⟨W.heap.size, 21, none⟩) := hs.dep 13 _ rfl rfl
            have q : w.cell? ⟨W.heap.size, 21, none⟩ = some (.slice A3 n3 c3) := (cell_row (later_cells (HRF1.out.trans hC) HBW1.out) 21).1
            refine ValWp.pure (v := .slice A3 n3 c3) (fun K' hK' => ?_) ⟨rfl, rfl⟩
            simp only [ValWp, execOp, Act.eval, e46]
            go_simp
            all_goals exact hK'
          · -- 15: slot 48 := Op.call { value (Operand.func 40), args := #[t47], argTypes := #[37] }
            refine OwesSE.w rfl fun a w u hC hl hs => ⟨rfl, fun K hK => ?_⟩
            have e47 : a.tmps.getD 47 undef = .slice A3 n3 c3 := hs.dep 14 _ rfl rfl
            refine wp_of_val ?_
            refine ValWp.call #[.slice A3 n3 c3] rfl rfl Try.func23 rfl rfl (by simp only [List.map_toArray, List.map_cons, List.map_nil, Act.eval, e47]) ?_
            refine (Ht3.out w (HLW1.out.trans hC)).mono ?_
            rintro e w' ⟨rfl, hb⟩
            exact ⟨_, rfl, hK _ _ rfl (Later.trans hC hb)⟩
          · -- 16: slot 49 := Op.binOp BinOp.add 9 t45 t48 9
            refine OwesSE.q rfl fun a w j u hC hb he hs => ⟨rfl, ?_⟩
            have e45 : a.tmps.getD 45 undef = .string (mkS j45) := hs.dep 12 _ rfl rfl
            have e48 : a.tmps.getD 48 undef = .string (mkS t3) := hs.dep 15 _ rfl rfl
            have hz := HZj49.out.1
            have hq := HZj49.out.2
            refine ValWp.pure (v := .string (mkS j49)) (fun K' hK' => ?_) ⟨rfl, rfl⟩
            simp only [ValWp, execOp, Act.eval, e45, e48]
            go_simp
            all_goals exact hK'
          · -- 17: slot 50 := Op.fieldAddr 59 t1 6
            refine OwesSE.q rfl fun a w j u hC hb he hs => ⟨rfl, ?_⟩
            have e1 : a.tmps.getD 1 undef = .pointer (some ⟨W.heap.size, 0, none⟩) := hs.free 1 rfl
            refine ValWp.pure (v := .pointer (some ⟨W.heap.size, 22, none⟩)) (fun K' hK' => ?_) ⟨rfl, rfl⟩
            simp only [ValWp, execOp, Act.eval, e1]
            go_simp
            all_goals exact hK'
          · -- 18: slot 51 := Op.load 37 t50
            refine OwesSE.q rfl fun a w j u hC hb he hs => ⟨rfl, ?_⟩
            have e50 : a.tmps.getD 50 undef = .pointer (some ⟨W.heap.size, 22, none⟩) := hs.dep 17 _ rfl rfl
            have q : w.cell? ⟨W.heap.size, 22, none⟩ = some (.slice A4 n4 c4) := (cell_row (later_cells (HRF1.out.trans hC) HBW1.out) 22).1
            refine ValWp.pure (v := .slice A4 n4 c4) (fun K' hK' => ?_) ⟨rfl, rfl⟩
            simp only [ValWp, execOp, Act.eval, e50]
            go_simp
            all_goals exact hK'
          · -- 19: slot 52 := Op.call { value (Operand.func 40), args := #[t51], argTypes := #[37] }
            refine OwesSE.w rfl fun a w u hC hl hs => ⟨rfl, fun K hK => ?_⟩
            have e51 : a.tmps.getD 51 undef = .slice A4 n4 c4 := hs.dep 18 _ rfl rfl
            refine wp_of_val ?_
            refine ValWp.call #[.slice A4 n4 c4] rfl rfl Try.func23 rfl rfl (by simp only [List.map_toArray, List.map_cons, List.map_nil, Act.eval, e51]) ?_
            refine (Ht4.out w (HLW1.out.trans hC)).mono ?_
            rintro e w' ⟨rfl, hb⟩
            exact ⟨_, rfl, hK _ _ rfl (Later.trans hC hb)⟩
          · -- 20: slot 53 := Op.binOp BinOp.add 9 t49 t52 9
            refine OwesSE.q rfl fun a w j u hC hb he hs => ⟨rfl, ?_⟩
            have e49 : a.tmps.getD 49 undef = .string (mkS j49) := hs.dep 16 _ rfl rfl
            have e52 : a.tmps.getD 52 undef = .string (mkS t4) := hs.dep 19 _ rfl rfl
            have hz := HZj53.out.1
            have hq := HZj53.out.2
            refine ValWp.pure (v := .string (mkS j53)) (fun K' hK' => ?_) ⟨rfl, rfl⟩
            simp only [ValWp, execOp, Act.eval, e49, e52]
            go_simp
            all_goals exact hK'
          · -- 21: slot 54 := Op.binOp BinOp.add 9 t33 t53 9
            refine OwesSE.q rfl fun a w j u hC hb he hs => ⟨rfl, ?_⟩
            have e33 : a.tmps.getD 33 undef = .string (mkS cur) := hs.dep 0 _ rfl rfl
            have e53 : a.tmps.getD 53 undef = .string (mkS j53) := hs.dep 20 _ rfl rfl
            have hz := HZj54.out.1
            have hq := HZj54.out.2
            refine ValWp.pure (v := .string (mkS j54)) (fun K' hK' => ?_) ⟨rfl, rfl⟩
            simp only [ValWp, execOp, Act.eval, e33, e53]
            go_simp
            all_goals exact hK'
          · -- 22: slot 3 := Op.assign t54
            refine OwesSE.w rfl fun a w u hC hl hs => ⟨rfl, fun K hK => ?_⟩
            have e54 : a.tmps.getD 54 undef = .string (mkS j54) := hs.dep 21 _ rfl rfl
            refine wp_of_val ?_
            refine ValWp.pure (v := .string (mkS j54)) (w' := w) (fun K' hK' => ?_) (hK _ _ rfl hC)
            simp only [ValWp, execOp, Act.eval, e54]
            go_simp
            all_goals exact hK'
        · intro a w u hC hl hd hsz hfree hs
          obtain ⟨u33, hu33⟩ : ∃ u, u = a.tmps.getD 33 undef := ⟨_, rfl⟩
          obtain ⟨u34, hu34⟩ : ∃ u, u = a.tmps.getD 34 undef := ⟨_, rfl⟩
          obtain ⟨u35, hu35⟩ : ∃ u, u = a.tmps.getD 35 undef := ⟨_, rfl⟩
          obtain ⟨u36, hu36⟩ : ∃ u, u = a.tmps.getD 36 undef := ⟨_, rfl⟩
          obtain ⟨u37, hu37⟩ : ∃ u, u = a.tmps.getD 37 undef := ⟨_, rfl⟩
          obtain ⟨u38, hu38⟩ : ∃ u, u = a.tmps.getD 38 undef := ⟨_, rfl⟩
          obtain ⟨u39, hu39⟩ : ∃ u, u = a.tmps.getD 39 undef := ⟨_, rfl⟩
          obtain ⟨u40, hu40⟩ : ∃ u, u = a.tmps.getD 40 undef := ⟨_, rfl⟩
          obtain ⟨u41, hu41⟩ : ∃ u, u = a.tmps.getD 41 undef := ⟨_, rfl⟩
          obtain ⟨u42, hu42⟩ : ∃ u, u = a.tmps.getD 42 undef := ⟨_, rfl⟩
          obtain ⟨u43, hu43⟩ : ∃ u, u = a.tmps.getD 43 undef := ⟨_, rfl⟩
          obtain ⟨u44, hu44⟩ : ∃ u, u = a.tmps.getD 44 undef := ⟨_, rfl⟩
          obtain ⟨u45, hu45⟩ : ∃ u, u = a.tmps.getD 45 undef := ⟨_, rfl⟩
          obtain ⟨u46, hu46⟩ : ∃ u, u = a.tmps.getD 46 undef := ⟨_, rfl⟩
          obtain ⟨u47, hu47⟩ : ∃ u, u = a.tmps.getD 47 undef := ⟨_, rfl⟩
          obtain ⟨u48, hu48⟩ : ∃ u, u = a.tmps.getD 48 undef := ⟨_, rfl⟩
          obtain ⟨u49, hu49⟩ : ∃ u, u = a.tmps.getD 49 undef := ⟨_, rfl⟩
          obtain ⟨u50, hu50⟩ : ∃ u, u = a.tmps.getD 50 undef := ⟨_, rfl⟩
          obtain ⟨u51, hu51⟩ : ∃ u, u = a.tmps.getD 51 undef := ⟨_, rfl⟩
          obtain ⟨u52, hu52⟩ : ∃ u, u = a.tmps.getD 52 undef := ⟨_, rfl⟩
          obtain ⟨u53, hu53⟩ : ∃ u, u = a.tmps.getD 53 undef := ⟨_, rfl⟩
          obtain ⟨u54, hu54⟩ : ∃ u, u = a.tmps.getD 54 undef := ⟨_, rfl⟩
          have hal : AllAt a 0 [_, _, _, .string (mkS j54), _, _, _, _, _, _, _, _, _, _, _, _, _, _, _, _, _, _, _, _, _, _, _, _, _, _, _, _, _, u33, u34, u35, u36, u37, u38, u39, u40, u41, u42, u43, u44, u45, u46, u47, u48, u49, u50, u51, u52, u53, u54, _, _, _, _, _, _, _, _, _, _, _, _, _, _, _, _, _, _, _, _] := ⟨hfree 0 rfl, hfree 1 rfl, hfree 2 rfl, hs 22 _ rfl, hfree 4 rfl, hfree 5 rfl, hfree 6 rfl, hfree 7 rfl, hfree 8 rfl, hfree 9 rfl, hfree 10 rfl, hfree 11 rfl, hfree 12 rfl, hfree 13 rfl, hfree 14 rfl, hfree 15 rfl, hfree 16 rfl, hfree 17 rfl, hfree 18 rfl, hfree 19 rfl, hfree 20 rfl, hfree 21 rfl, hfree 22 rfl, hfree 23 rfl, hfree 24 rfl, hfree 25 rfl, hfree 26 rfl, hfree 27 rfl, hfree 28 rfl, hfree 29 rfl, hfree 30 rfl, hfree 31 rfl, hfree 32 rfl, hu33.symm, hu34.symm, hu35.symm, hu36.symm, hu37.symm, hu38.symm, hu39.symm, hu40.symm, hu41.symm, hu42.symm, hu43.symm, hu44.symm, hu45.symm, hu46.symm, hu47.symm, hu48.symm, hu49.symm, hu50.symm, hu51.symm, hu52.symm, hu53.symm, hu54.symm, hfree 55 rfl, hfree 56 rfl, hfree 57 rfl, hfree 58 rfl, hfree 59 rfl, hfree 60 rfl, hfree 61 rfl, hfree 62 rfl, hfree 63 rfl, hfree 64 rfl, hfree 65 rfl, hfree 66 rfl, hfree 67 rfl, hfree 68 rfl, hfree 69 rfl, hfree 70 rfl, hfree 71 rfl, hfree 72 rfl, hfree 73 rfl, hfree 74 rfl, trivial⟩
          have hlit := fun h => act_lit hd h hal
          rw [hlit hsz]
          simp only [Array.getD_eq_getD_getElem?, List.getElem?_toArray, List.getElem?_cons_zero, List.getElem?_cons_succ, Option.getD_some]
          clear hlit hal hd hsz hfree hs hu33 hu34 hu35 hu36 hu37 hu38 hu39 hu40 hu41 hu42 hu43 hu44 hu45 hu46 hu47 hu48 hu49 hu50 hu51 hu52 hu53 hu54
          obtain ⟨a6, ha6⟩ : ∃ y, y = j54 := ⟨_, rfl⟩
          rw [← ha6] at HLENa6 HDEFa6 ⊢
          clear ha6
          rename World => w6
          have HLw6 := Lib.hid (HLW1.out.trans hC)
          have HXw6 := Lib.hid (later_cells hC HBW1.out)
          clear hC q0 hlt1
          go_wp2
          go_loopw [3, 5] (fun s i wr => ∃ k : Nat, k ≤ n5 ∧ i = .int .i64 (k : Int) ∧ s = .string (mkS (a6 ++ manyP bit (iss.take k))) ∧ Later w6 wr) (fun _ i _ => n5 - (intOf i).toNat)
          case atStart => exact ⟨0, by omega, rfl, by simp only [List.take_zero, manyP, List.flatMap_nil, List.append_nil], Later.refl _⟩
          case round =>
            obtain ⟨k2, hk, rfl, rfl, hb⟩ := hrel
            have HLW2 := Lib.hid (HLw6.out.trans hb)
            have HBW2 := Lib.hid (later_cells hb HXw6.out)
            have HRF2 := Lib.hid (Later.refl wr)
            have HST := Lib.hid hb
            have q0 := (cell_row HBW2.out 23).1
            clear hb
            by_cases hlt : k2 < n5
            · have hk0 : (0 : Int) ≤ (k2 : Int) := by omega
              have hlt1 : (k2 : Int) < (n5 : Int) := by omega
              have hkl : k2 < iss.length := by rw [← HNiss.out]; exact hlt
              obtain ⟨g, o, rfl, hg, hcell⟩ := HRiss.out.lie_bit (by omega)
              obtain ⟨p1, hp1⟩ : ∃ y, y = iss[k2] := ⟨_, rfl⟩
              have HEL := Lib.hid (show ∀ w', Later wr w' → w'.cell? ⟨g, o + k2, none⟩ = some (.bool p1) from fun w' hl => by
                have q1 := ((HLW2.out.trans hl).cell (p := ⟨g, o + k2, none⟩) hg).trans (hcell k2 hkl)
                rw [← hp1] at q1
                exact q1)
              have hoe := HOiss.out _ (List.getElem_mem hkl)
              have hbound := many_le bit iss k2 hkl
              have hone : bit.put iss[k2] = bitP p1 := by rw [hp1]; rfl
              obtain ⟨t1, ht1⟩ : ∃ y, y = bitP p1 := ⟨_, rfl⟩
              rw [← ht1] at hone
              rw [hone] at hbound
              try simp only [List.length_append] at hbound
              have hxo := HXS.out
              have hla := HLENa6.out
              have Ht1 := Lib.hid (fun w => is_v p1 w)
              rw [← ht1] at Ht1
              obtain ⟨cur, hcur⟩ : ∃ y, y = a6 ++ manyP bit (iss.take k2) := ⟨_, rfl⟩
              have hlc : cur.length = a6.length + (manyP bit (iss.take k2)).length := by rw [hcur, List.length_append]
              rw [← hcur]
              have hsum : ¬ 9223372036854775807 < (mkS cur).size + (mkS t1).size := by rw [mkS_size, mkS_size]; omega
              have HADD := Lib.hid (mkS_add cur t1)
              have HEND := Lib.hid (show cur ++ t1 = a6 ++ manyP bit (iss.take (k2 + 1)) by rw [many_snoc_put bit iss k2 hkl, hone, ← List.append_assoc, ← hcur])
              have hq := HEL.out wr (Later.refl wr)
              clear ht1 hp1 hxo hla hbound hone hlc hcur hcell hkl hg hoe
              go_wp2_with (go_at_call 24; (with_reducible refine (Ht1.out _).mono ?_); rintro e w2 ⟨rfl, hb2⟩; have HB2 := Lib.hid (Later.trans HST.out hb2); clear hb2)
              go_roundw
              case rel => exact ⟨k2 + 1, by omega, by go_num, by rw [HADD.out, HEND.out], HB2.out⟩
              case measure => simp [intOf]; omega
            · have e : iss.take k2 = iss := by rw [List.take_of_length_le]; have := HNiss.out; omega
              have hlt1 : ¬ (k2 : Int) < (n5 : Int) := by omega
              have hxo := HXS.out
              rw [e]
              clear e
              obtain ⟨cur, hcur⟩ : ∃ y, y = a6 ++ manyP bit iss := ⟨_, rfl⟩
              have hlc : cur.length = a6.length + (manyP bit iss).length := by rw [hcur, List.length_append]
              have hla := HLENa6.out
              have hsum : ¬ 9223372036854775807 < (mkS cur).size + (mkS tf).size := by rw [mkS_size, mkS_size]; omega
              have HADD := Lib.hid (mkS_add cur tf)
              have HEND := Lib.hid (show cur ++ tf = tk ++ (t1 ++ ((x2 ++ stB stack) ++ (tq ++ (ta ++ ((x3 ++ t3) ++ (t4 ++ (manyP bit iss ++ tf))))))) by rw [hcur, HDEFa6.out, HDEFa3.out]; simp only [List.append_assoc])
              rw [← hcur]
              have q1 := (cell_row HBW2.out 24).1
              clear hxo hla hlc hcur hlt
              go_wp2_with (go_at_call 19; (with_reducible refine (Htf.out _).mono ?_); rintro e w2 ⟨rfl, hb2⟩; have HB2 := Lib.hid (HLW2.out.trans hb2); clear hb2)
              go_ret
              refine ⟨?_, HB2.out⟩
              show Ending.returned (.string (mkS cur ++ mkS tf)) = _
              rw [HADD.out, HEND.out]
              try simp only [List.append_assoc]
end Ks
end Go.Proofs.Yteljmlodbnfhbaa
