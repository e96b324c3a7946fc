/- THE DOCUMENT'S bytes of a frame. No premises. -/
import Derived.Test.YteljmlodbnfhbaaKd
namespace Go.Proofs.Yteljmlodbnfhbaa
open Go.RowKit
namespace Ks
/-- A frame as the document has it: its first numbers are a row. -/
structure Fr18 where
  ints : List Int
  quiet : Bool
  a : Int
  b : Int
  text : B
  nums : List Int
  words : List B
  rows : List (B × B)
  keep : Kp
abbrev Fr18T := List Int × Bool × Int × Int × B × List Int × List B × List (B × B) × Kp
def frG (f : Fr18) : Fr18T := (f.ints, f.quiet, f.a, f.b, f.text, f.nums, f.words, f.rows, f.keep)
def frR : Rp Fr18 := riso (rseq (rrow rnum) (rseq rbit (rseq rnum (rseq rnum (rseq rtxt (rseq (rrow rnum) (rseq txtsR (rseq (rrow prR) kpR)))))))) frG
def frB (f : Fr18) : B := manyP num f.ints ++ (bitP f.quiet ++ (numP f.a ++ (numP f.b ++ (textB f.text ++ (rowP num f.nums ++ (txts.put f.words ++ (rowP prC f.rows ++ kpC.put f.keep)))))))
def frOk (f : Fr18) : Prop := (f.ints.length ≤ 100000 ∧ I64 f.a ∧ I64 f.b) ∧ (row num).ok f.nums ∧ txts.ok f.words ∧ (row prC).ok f.rows ∧ kpC.ok f.keep
/-- A frame's first numbers as a row. -/
def frOf (f : Fm) : Fr18 := ⟨[f.op, f.prog, f.node, f.phase, f.i], f.quiet, f.a, f.b, f.text, f.nums, f.words, f.rows, f.keep⟩
theorem frB_of (f : Fm) : frB (frOf f) = fmC.put f := by
  show manyP num [f.op, f.prog, f.node, f.phase, f.i] ++ _ = _
  simp only [manyP, List.flatMap_cons, List.flatMap_nil, List.append_nil, List.append_assoc]
  rfl
theorem fr_cells {w : World} {n : Nat} {cs : List Value} {f : Fr18} (h : frR.C w n cs f) : ∃ A0 c0 A1 c1 A2 c2 A3 c3 B1 d1 B2 d2 B3 d3 B4 d4 B5 d5,
    cs = [.slice A0 f.ints.length c0, .bool f.quiet, .int .i64 f.a, .int .i64 f.b, .string (mkS f.text), .slice A1 f.nums.length c1, .slice A2 f.words.length c2, .slice A3 f.rows.length c3,
      .slice B1 f.keep.vars.length d1, .slice B2 f.keep.args.length d2, .int .i64 f.keep.status, .string (mkS f.keep.flags), .slice B3 f.keep.funcs.length d3, .slice B4 f.keep.traps.length d4, .slice B5 f.keep.fds.length d5] ∧
    kpR.C w n [.slice B1 f.keep.vars.length d1, .slice B2 f.keep.args.length d2, .int .i64 f.keep.status, .string (mkS f.keep.flags), .slice B3 f.keep.funcs.length d3, .slice B4 f.keep.traps.length d4, .slice B5 f.keep.fds.length d5] f.keep ∧
    (Row rnum w n A0 f.ints ∧ Row rnum w n A1 f.nums ∧ Row rtxt w n A2 f.words ∧ Row prR w n A3 f.rows) ∧
    f.nums.length ≤ c1 ∧ c1 ≤ 9223372036854775807 ∧ f.rows.length ≤ c3 ∧ c3 ≤ 9223372036854775807 := by
  obtain ⟨x0, y0, rfl, ⟨A0, c0, rfl, _, _, h0⟩, xq, yq, rfl, hq, xa, ya, rfl, ha, xb, yb, rfl, hb, xt, yt, rfl, ht, x1, y1, rfl, ⟨A1, c1, rfl, h1, h2, h3⟩, x2, y2, rfl, ⟨A2, c2, rfl, h4, h5, h6⟩, x3, y3, rfl, ⟨A3, c3, rfl, h7, h8, h9⟩, hk⟩ := h
  have hk : kpR.C w n y3 f.keep := hk
  obtain ⟨B1, d1, B2, d2, B3, d3, B4, d4, B5, d5, rfl, _⟩ := kp_cells hk
  have hq : xq = [.bool f.quiet] := hq
  rw [hq, ha.1, hb.1, ht.1]
  exact ⟨A0, c0, A1, c1, A2, c2, A3, c3, B1, d1, B2, d2, B3, d3, B4, d4, B5, d5, rfl, hk, ⟨h0, h3, h6, h9⟩, h1, h2, h7, h8⟩
set_option maxRecDepth 100000 in
set_option maxHeartbeats 6400000 in
theorem frame_v (f : Fr18) (cs : List Value) (W : World) (h : frR.C W W.heap.size cs f) (hok : frOk f) (hx : (frB f).length ≤ 100000000) :
    Calls Try.prog 20 #[.agg cs.toArray] W fun r W' => r = .returned (.string (mkS (frB f))) ∧ Later W W' := by
  obtain ⟨A0, c0, A1, c1, A2, c2, A3, c3, B1, d1, B2, d2, B3, d3, B4, d4, B5, d5, rfl, hK, ⟨hr0, hr1, hr2, hr3⟩, hc1, he1, hc3, he3⟩ := fr_cells h
  obtain ⟨ints, quiet, fa, fb, text, nums, words, rows, keep⟩ := f
  obtain ⟨⟨hm0, hIa, hIb⟩, ho1, ho2, ho3, hoK⟩ := hok
  have hm1 : nums.length ≤ 100000 := ho1.1
  have hm2 : words.length ≤ 100000 := ho2.1
  have hm3 : rows.length ≤ 100000 := ho3.1
  have HOnums := Lib.hid (show ∀ a ∈ nums, num.ok a from ho1.2)
  have HOrows := Lib.hid (show ∀ a ∈ rows, prC.ok a from ho3.2)
  have HRnums := Lib.hid (show Row rnum W W.heap.size A1 nums from hr1)
  have HRrows := Lib.hid (show Row prR W W.heap.size A3 rows from hr3)
  clear h ho1 ho2 ho3 hr1 hr3
  dsimp only at *
  obtain ⟨n0, hn0⟩ : ∃ n, n = ints.length := ⟨_, rfl⟩
  obtain ⟨n1, hn1⟩ : ∃ n, n = nums.length := ⟨_, rfl⟩
  obtain ⟨n2, hn2⟩ : ∃ n, n = words.length := ⟨_, rfl⟩
  obtain ⟨n3, hn3⟩ : ∃ n, n = rows.length := ⟨_, rfl⟩
  obtain ⟨m1, hw1⟩ : ∃ n, n = keep.vars.length := ⟨_, rfl⟩
  obtain ⟨m2, hw2⟩ : ∃ n, n = keep.args.length := ⟨_, rfl⟩
  obtain ⟨m3, hw3⟩ : ∃ n, n = keep.funcs.length := ⟨_, rfl⟩
  obtain ⟨m4, hw4⟩ : ∃ n, n = keep.traps.length := ⟨_, rfl⟩
  obtain ⟨m5, hw5⟩ : ∃ n, n = keep.fds.length := ⟨_, rfl⟩
  obtain ⟨status, hw6⟩ : ∃ n, n = keep.status := ⟨_, rfl⟩
  obtain ⟨flags, hw7⟩ : ∃ n, n = keep.flags := ⟨_, rfl⟩
  rw [← hw1, ← hw2, ← hw3, ← hw4, ← hw5, ← hw6, ← hw7] at hK ⊢
  clear hw1 hw2 hw3 hw4 hw5 hw6 hw7
  rw [← hn1] at hc1 hm1
  rw [← hn3] at hc3 hm3
  have hput : frB ⟨ints, quiet, fa, fb, text, nums, words, rows, keep⟩ = manyP num ints ++ (bitP quiet ++ (numP fa ++ (numP fb ++ (textB text ++ ((numP n1 ++ manyP num nums) ++ (txts.put words ++ ((numP n3 ++ manyP prC rows) ++ kpC.put keep))))))) := by rw [hn1, hn3]; rfl
  rw [hput] at hx ⊢
  have hstt : text.length ≤ (textB text).length := by rw [textB, List.length_append]; omega
  obtain ⟨t0, ht0⟩ : ∃ y, y = manyP num ints := ⟨_, rfl⟩
  rw [← ht0] at hx ⊢
  obtain ⟨tq, htq⟩ : ∃ y, y = bitP quiet := ⟨_, rfl⟩
  rw [← htq] at hx ⊢
  obtain ⟨ta, hta⟩ : ∃ y, y = numP fa := ⟨_, rfl⟩
  rw [← hta] at hx ⊢
  obtain ⟨tb, htb⟩ : ∃ y, y = numP fb := ⟨_, rfl⟩
  rw [← htb] at hx ⊢
  obtain ⟨tt, htt⟩ : ∃ y, y = textB text := ⟨_, rfl⟩
  rw [← htt] at hx ⊢
  rw [← htt] at hstt
  obtain ⟨x1, hx1⟩ : ∃ y, y = numP n1 := ⟨_, rfl⟩
  rw [← hx1] at hx ⊢
  obtain ⟨t2, ht2⟩ : ∃ y, y = txts.put words := ⟨_, rfl⟩
  rw [← ht2] at hx ⊢
  obtain ⟨x3, hx3⟩ : ∃ y, y = numP n3 := ⟨_, rfl⟩
  rw [← hx3] at hx ⊢
  obtain ⟨tk, htk⟩ : ∃ y, y = kpC.put keep := ⟨_, rfl⟩
  rw [← htk] at hx ⊢
  have hxs := hx
  simp only [List.length_append] at hxs
  have Ht0 := Lib.hid (fun (w' : World) (hl : Later W w') => ints_v A0 c0 n0 ints w' (hr0.later hl) hn0 (by rw [← ht0]; omega) (by omega))
  rw [← ht0] at Ht0
  have Htq := Lib.hid (fun w => is_v quiet w)
  rw [← htq] at Htq
  have Hta := Lib.hid (fun w => n_v fa hIa w)
  rw [← hta] at Hta
  have Htb := Lib.hid (fun w => n_v fb hIb w)
  rw [← htb] at Htb
  have Htt := Lib.hid (fun w => text_v text w (by omega))
  rw [← htt] at Htt
  have Hx1 := Lib.hid (fun w => n_v (n1 : Int) ⟨by omega, by omega⟩ w)
  rw [← hx1] at Hx1
  have Ht2 := Lib.hid (fun (w' : World) (hl : Later W w') => row_v A2 c2 n2 words w' (hr2.later hl) hn2 (by rw [← ht2]; omega) (by omega))
  rw [← ht2] at Ht2
  have Hx3 := Lib.hid (fun w => n_v (n3 : Int) ⟨by omega, by omega⟩ w)
  rw [← hx3] at Hx3
  have Htk := Lib.hid (fun (w' : World) (hl : Later W w') => keep_v keep _ w' (Rp.later hK hl) hoK (by rw [← htk]; omega))
  rw [← htk] at Htk
  rw [← hn0, ← hn1, ← hn2, ← hn3]
  have HXS := Lib.hid hxs
  obtain ⟨j12, hj12⟩ : ∃ j12 : B, j12 = t0 ++ tq := ⟨_, rfl⟩
  have hlj12 : j12.length = t0.length + tq.length := by rw [hj12, List.length_append]
  have HZj12 := Lib.hid (show (¬ 9223372036854775807 < (mkS t0).size + (mkS tq).size) ∧ mkS t0 ++ mkS tq = mkS j12 from ⟨by rw [mkS_size, mkS_size]; omega, by rw [hj12]; exact mkS_add t0 tq⟩)
  obtain ⟨j16, hj16⟩ : ∃ j16 : B, j16 = j12 ++ ta := ⟨_, rfl⟩
  have hlj16 : j16.length = j12.length + ta.length := by rw [hj16, List.length_append]
  have HZj16 := Lib.hid (show (¬ 9223372036854775807 < (mkS j12).size + (mkS ta).size) ∧ mkS j12 ++ mkS ta = mkS j16 from ⟨by rw [mkS_size, mkS_size]; omega, by rw [hj16]; exact mkS_add j12 ta⟩)
  obtain ⟨j20, hj20⟩ : ∃ j20 : B, j20 = j16 ++ tb := ⟨_, rfl⟩
  have hlj20 : j20.length = j16.length + tb.length := by rw [hj20, List.length_append]
  have HZj20 := Lib.hid (show (¬ 9223372036854775807 < (mkS j16).size + (mkS tb).size) ∧ mkS j16 ++ mkS tb = mkS j20 from ⟨by rw [mkS_size, mkS_size]; omega, by rw [hj20]; exact mkS_add j16 tb⟩)
  obtain ⟨j24, hj24⟩ : ∃ j24 : B, j24 = j20 ++ tt := ⟨_, rfl⟩
  have hlj24 : j24.length = j20.length + tt.length := by rw [hj24, List.length_append]
  have HZj24 := Lib.hid (show (¬ 9223372036854775807 < (mkS j20).size + (mkS tt).size) ∧ mkS j20 ++ mkS tt = mkS j24 from ⟨by rw [mkS_size, mkS_size]; omega, by rw [hj24]; exact mkS_add j20 tt⟩)
  obtain ⟨j29, hj29⟩ : ∃ j29 : B, j29 = j24 ++ x1 := ⟨_, rfl⟩
  have hlj29 : j29.length = j24.length + x1.length := by rw [hj29, List.length_append]
  have HZj29 := Lib.hid (show (¬ 9223372036854775807 < (mkS j24).size + (mkS x1).size) ∧ mkS j24 ++ mkS x1 = mkS j29 from ⟨by rw [mkS_size, mkS_size]; omega, by rw [hj29]; exact mkS_add j24 x1⟩)
  have HLENa3 := Lib.hid (show j29.length = t0.length + tq.length + ta.length + tb.length + tt.length + x1.length by omega)
  have HDEFa3 := Lib.hid (show j29 = t0 ++ tq ++ ta ++ tb ++ tt ++ x1 by rw [hj29, hj24, hj20, hj16, hj12])
  have HNnums := Lib.hid hn1
  have HNrows := Lib.hid hn3
  have HBX := heap_alloc_new W (.cells #[.slice A0 n0 c0, .bool quiet, .int .i64 fa, .int .i64 fb, .string (mkS text), .slice A1 n1 c1, .slice A2 n2 c2, .slice A3 n3 c3, .slice B1 m1 d1, .slice B2 m2 d2, .int .i64 status, .string (mkS flags), .slice B3 m3 d3, .slice B4 m4 d4, .slice B5 m5 d5] 85)
  obtain ⟨w1, hw1⟩ : ∃ w1, w1 = W.alloc (.cells #[.slice A0 n0 c0, .bool quiet, .int .i64 fa, .int .i64 fb, .string (mkS text), .slice A1 n1 c1, .slice A2 n2 c2, .slice A3 n3 c3, .slice B1 m1 d1, .slice B2 m2 d2, .int .i64 status, .string (mkS flags), .slice B3 m3 d3, .slice B4 m4 d4, .slice B5 m5 d5] 85) := ⟨_, rfl⟩
  have HLw1 := Lib.hid (show Later W w1 by rw [hw1]; exact Later.alloc W _)
  rw [← hw1] at HBX
  have HXw1 := Lib.hid HBX
  have HRF0 := Lib.hid (Later.refl w1)
  clear HBX hj12 hlj12 hj16 hlj16 hj20 hlj20 hj24 hlj24 hj29 hlj29 ht0 htq hta htb htt hx1 ht2 hx3 htk hstt hx hxs hput hn0 hn1 hn2 hn3 hK hoK hr0 hr2 hIa hIb hm0 hm2
  go_enter Try.func20, Try.ntmps20
  go_wp2_with fail
  rw [← hw1]
  clear hw1
  refine wp_region_seq (by kernel_rfl) [2, 5, 9, 13, 17, 22] (fun _ _ w => Later w1 w) [some (.pointer (some ⟨W.heap.size, 0, none⟩)), some (.slice A0 n0 c0), some (.string (mkS t0)), some (.pointer (some ⟨W.heap.size, 1, none⟩)), some (.bool quiet), some (.string (mkS tq)), some (.string (mkS j12)), some (.pointer (some ⟨W.heap.size, 2, none⟩)), some (.int .i64 fa), some (.string (mkS ta)), some (.string (mkS j16)), some (.pointer (some ⟨W.heap.size, 3, none⟩)), some (.int .i64 fb), some (.string (mkS tb)), some (.string (mkS j20)), some (.pointer (some ⟨W.heap.size, 4, none⟩)), some (.string (mkS text)), some (.string (mkS tt)), some (.string (mkS j24)), some (.pointer (some ⟨W.heap.size, 5, none⟩)), some (.slice A1 n1 c1), some (.int .i64 (n1 : Int)), some (.string (mkS x1)), some (.string (mkS j29)), some (.string (mkS j29))] (by decide) (by decide) (by kernel_rfl) (by kernel_rfl) (Later.drew w1) ?_ ?_
  · refine ⟨?_, ?_, ?_, ?_, ?_, ?_, ?_, ?_, ?_, ?_, ?_, ?_, ?_, ?_, ?_, ?_, ?_, ?_, ?_, ?_, ?_, ?_, ?_, ?_, ?_, trivial⟩
    · -- 0: slot 6 := Op.fieldAddr 102 t1 0
      refine OwesS.q rfl fun a w j u hC hb hs => ⟨rfl, ?_⟩
      have e1 : a.tmps.getD 1 undef = .pointer (some ⟨W.heap.size, 0, none⟩) := hs.free 1 rfl
      refine ValWp.pure (v := .pointer (some ⟨W.heap.size, 0, none⟩)) (fun K' hK' => ?_) ⟨rfl, rfl⟩
      simp only [ValWp, execOp, Act.eval, e1]
      go_simp
      all_goals exact hK'
    · -- 1: slot 7 := Op.load 37 t6
      refine OwesS.q rfl fun a w j u hC hb hs => ⟨rfl, ?_⟩
      have e6 : a.tmps.getD 6 undef = .pointer (some ⟨W.heap.size, 0, none⟩) := hs.dep 0 _ rfl rfl
      have q : w.cell? ⟨W.heap.size, 0, none⟩ = some (.slice A0 n0 c0) := (cell_row (later_cells (HRF0.out.trans hC) HXw1.out) 0).1
      refine ValWp.pure (v := .slice A0 n0 c0) (fun K' hK' => ?_) ⟨rfl, rfl⟩
      simp only [ValWp, execOp, Act.eval, e6]
      go_simp
      all_goals exact hK'
    · -- 2: slot 8 := Op.call { value (Operand.func 40), args := #[t7], argTypes := #[37] }
      refine OwesS.w rfl fun a w u hC hl hs => ⟨rfl, fun K hK => ?_⟩
      have e7 : a.tmps.getD 7 undef = .slice A0 n0 c0 := hs.dep 1 _ rfl rfl
      refine wp_of_val ?_
      refine ValWp.call #[.slice A0 n0 c0] rfl rfl Try.func23 rfl rfl (by simp only [List.map_toArray, List.map_cons, List.map_nil, Act.eval, e7]) ?_
      refine (Ht0.out w (HLw1.out.trans hC)).mono ?_
      rintro e w' ⟨rfl, hb⟩
      exact ⟨_, rfl, hK _ _ rfl (Later.trans hC hb)⟩
    · -- 3: slot 9 := Op.fieldAddr 102 t1 1
      refine OwesS.q rfl fun a w j u hC hb hs => ⟨rfl, ?_⟩
      have e1 : a.tmps.getD 1 undef = .pointer (some ⟨W.heap.size, 0, none⟩) := hs.free 1 rfl
      refine ValWp.pure (v := .pointer (some ⟨W.heap.size, 1, none⟩)) (fun K' hK' => ?_) ⟨rfl, rfl⟩
      simp only [ValWp, execOp, Act.eval, e1]
      go_simp
      all_goals exact hK'
    · -- 4: slot 10 := Op.load 4 t9
      refine OwesS.q rfl fun a w j u hC hb hs => ⟨rfl, ?_⟩
      have e9 : a.tmps.getD 9 undef = .pointer (some ⟨W.heap.size, 1, none⟩) := hs.dep 3 _ rfl rfl
      have q : w.cell? ⟨W.heap.size, 1, none⟩ = some (.bool quiet) := (cell_row (later_cells (HRF0.out.trans hC) HXw1.out) 1).1
      refine ValWp.pure (v := .bool quiet) (fun K' hK' => ?_) ⟨rfl, rfl⟩
      simp only [ValWp, execOp, Act.eval, e9]
      go_simp
      all_goals exact hK'
    · -- 5: slot 11 := Op.call { value (Operand.func 41), args := #[t10], argTypes := #[4] }
      refine OwesS.w rfl fun a w u hC hl hs => ⟨rfl, fun K hK => ?_⟩
      have e10 : a.tmps.getD 10 undef = .bool quiet := hs.dep 4 _ rfl rfl
      refine wp_of_val ?_
      refine ValWp.call #[.bool quiet] rfl rfl Try.func24 rfl rfl (by simp only [List.map_toArray, List.map_cons, List.map_nil, Act.eval, e10]) ?_
      refine (Htq.out w).mono ?_
      rintro e w' ⟨rfl, hb⟩
      exact ⟨_, rfl, hK _ _ rfl (Later.trans hC hb)⟩
    · -- 6: slot 12 := Op.binOp BinOp.add 9 t8 t11 9
      refine OwesS.q rfl fun a w j u hC hb hs => ⟨rfl, ?_⟩
      have e8 : a.tmps.getD 8 undef = .string (mkS t0) := hs.dep 2 _ rfl rfl
      have e11 : a.tmps.getD 11 undef = .string (mkS tq) := hs.dep 5 _ rfl rfl
      have hz := HZj12.out.1
      have hq := HZj12.out.2
      refine ValWp.pure (v := .string (mkS j12)) (fun K' hK' => ?_) ⟨rfl, rfl⟩
      simp only [ValWp, execOp, Act.eval, e8, e11]
      go_simp
      all_goals exact hK'
    · -- 7: slot 13 := Op.fieldAddr 102 t1 2
      refine OwesS.q rfl fun a w j u hC hb hs => ⟨rfl, ?_⟩
      have e1 : a.tmps.getD 1 undef = .pointer (some ⟨W.heap.size, 0, none⟩) := hs.free 1 rfl
      refine ValWp.pure (v := .pointer (some ⟨W.heap.size, 2, none⟩)) (fun K' hK' => ?_) ⟨rfl, rfl⟩
      simp only [ValWp, execOp, Act.eval, e1]
      go_simp
      all_goals exact hK'
    · -- 8: slot 14 := Op.load 2 t13
      refine OwesS.q rfl fun a w j u hC hb hs => ⟨rfl, ?_⟩
      have e13 : a.tmps.getD 13 undef = .pointer (some ⟨W.heap.size, 2, none⟩) := hs.dep 7 _ rfl rfl
      have q : w.cell? ⟨W.heap.size, 2, none⟩ = some (.int .i64 fa) := (cell_row (later_cells (HRF0.out.trans hC) HXw1.out) 2).1
      refine ValWp.pure (v := .int .i64 fa) (fun K' hK' => ?_) ⟨rfl, rfl⟩
      simp only [ValWp, execOp, Act.eval, e13]
      go_simp
      all_goals exact hK'
    · -- 9: slot 15 := Op.call { value (Operand.func 36), args := #[t14], argTypes := #[2] }
      refine OwesS.w rfl fun a w u hC hl hs => ⟨rfl, fun K hK => ?_⟩
      have e14 : a.tmps.getD 14 undef = .int .i64 fa := hs.dep 8 _ rfl rfl
      refine wp_of_val ?_
      refine ValWp.call #[.int .i64 fa] rfl rfl Try.func19 rfl rfl (by simp only [List.map_toArray, List.map_cons, List.map_nil, Act.eval, e14]) ?_
      refine (Hta.out w).mono ?_
      rintro e w' ⟨rfl, hb⟩
      exact ⟨_, rfl, hK _ _ rfl (Later.trans hC hb)⟩
    · -- 10: slot 16 := Op.binOp BinOp.add 9 t12 t15 9
      refine OwesS.q rfl fun a w j u hC hb hs => ⟨rfl, ?_⟩
      have e12 : a.tmps.getD 12 undef = .string (mkS j12) := hs.dep 6 _ rfl rfl
      have e15 : a.tmps.getD 15 undef = .string (mkS ta) := hs.dep 9 _ rfl rfl
      have hz := HZj16.out.1
      have hq := HZj16.out.2
      refine ValWp.pure (v := .string (mkS j16)) (fun K' hK' => ?_) ⟨rfl, rfl⟩
      simp only [ValWp, execOp, Act.eval, e12, e15]
      go_simp
      all_goals exact hK'
    · -- 11: slot 17 := Op.fieldAddr 102 t1 3
      refine OwesS.q rfl fun a w j u hC hb hs => ⟨rfl, ?_⟩
      have e1 : a.tmps.getD 1 undef = .pointer (some ⟨W.heap.size, 0, none⟩) := hs.free 1 rfl
      refine ValWp.pure (v := .pointer (some ⟨W.heap.size, 3, none⟩)) (fun K' hK' => ?_) ⟨rfl, rfl⟩
      simp only [ValWp, execOp, Act.eval, e1]
      go_simp
      all_goals exact hK'
    · -- 12: slot 18 := Op.load 2 t17
      refine OwesS.q rfl fun a w j u hC hb hs => ⟨rfl, ?_⟩
      have e17 : a.tmps.getD 17 undef = .pointer (some ⟨W.heap.size, 3, none⟩) := hs.dep 11 _ rfl rfl
      have q : w.cell? ⟨W.heap.size, 3, none⟩ = some (.int .i64 fb) := (cell_row (later_cells (HRF0.out.trans hC) HXw1.out) 3).1
      refine ValWp.pure (v := .int .i64 fb) (fun K' hK' => ?_) ⟨rfl, rfl⟩
      simp only [ValWp, execOp, Act.eval, e17]
      go_simp
      all_goals exact hK'
    · -- 13: slot 19 := Op.call { value (Operand.func 36), args := #[t18], argTypes := #[2] }
      refine OwesS.w rfl fun a w u hC hl hs => ⟨rfl, fun K hK => ?_⟩
      have e18 : a.tmps.getD 18 undef = .int .i64 fb := hs.dep 12 _ rfl rfl
      refine wp_of_val ?_
      refine ValWp.call #[.int .i64 fb] rfl rfl Try.func19 rfl rfl (by simp only [List.map_toArray, List.map_cons, List.map_nil, Act.eval, e18]) ?_
      refine (Htb.out w).mono ?_
      rintro e w' ⟨rfl, hb⟩
      exact ⟨_, rfl, hK _ _ rfl (Later.trans hC hb)⟩
    · -- 14: slot 20 := Op.binOp BinOp.add 9 t16 t19 9
      refine OwesS.q rfl fun a w j u hC hb hs => ⟨rfl, ?_⟩
      have e16 : a.tmps.getD 16 undef = .string (mkS j16) := hs.dep 10 _ rfl rfl
      have e19 : a.tmps.getD 19 undef = .string (mkS tb) := hs.dep 13 _ rfl rfl
      have hz := HZj20.out.1
      have hq := HZj20.out.2
      refine ValWp.pure (v := .string (mkS j20)) (fun K' hK' => ?_) ⟨rfl, rfl⟩
      simp only [ValWp, execOp, Act.eval, e16, e19]
      go_simp
      all_goals exact hK'
    · -- 15: slot 21 := Op.fieldAddr 102 t1 4
      refine OwesS.q rfl fun a w j u hC hb hs => ⟨rfl, ?_⟩
      have e1 : a.tmps.getD 1 undef = .pointer (some ⟨W.heap.size, 0, none⟩) := hs.free 1 rfl
      refine ValWp.pure (v := .pointer (some ⟨W.heap.size, 4, none⟩)) (fun K' hK' => ?_) ⟨rfl, rfl⟩
      simp only [ValWp, execOp, Act.eval, e1]
      go_simp
      all_goals exact hK'
    · -- 16: slot 22 := Op.load 9 t21
      refine OwesS.q rfl fun a w j u hC hb hs => ⟨rfl, ?_⟩
      have e21 : a.tmps.getD 21 undef = .pointer (some ⟨W.heap.size, 4, none⟩) := hs.dep 15 _ rfl rfl
      have q : w.cell? ⟨W.heap.size, 4, none⟩ = some (.string (mkS text)) := (cell_row (later_cells (HRF0.out.trans hC) HXw1.out) 4).1
      refine ValWp.pure (v := .string (mkS text)) (fun K' hK' => ?_) ⟨rfl, rfl⟩
      simp only [ValWp, execOp, Act.eval, e21]
      go_simp
      all_goals exact hK'
    · -- 17: slot 23 := Op.call { value (Operand.func 75), args := #[t22], argTypes := #[9] }
      refine OwesS.w rfl fun a w u hC hl hs => ⟨rfl, fun K hK => ?_⟩
      have e22 : a.tmps.getD 22 undef = .string (mkS text) := hs.dep 16 _ rfl rfl
      refine wp_of_val ?_
      refine ValWp.call #[.string (mkS text)] rfl rfl Try.func41 rfl rfl (by simp only [List.map_toArray, List.map_cons, List.map_nil, Act.eval, e22]) ?_
      refine (Htt.out w).mono ?_
      rintro e w' ⟨rfl, hb⟩
      exact ⟨_, rfl, hK _ _ rfl (Later.trans hC hb)⟩
    · -- 18: slot 24 := Op.binOp BinOp.add 9 t20 t23 9
      refine OwesS.q rfl fun a w j u hC hb hs => ⟨rfl, ?_⟩
      have e20 : a.tmps.getD 20 undef = .string (mkS j20) := hs.dep 14 _ rfl rfl
      have e23 : a.tmps.getD 23 undef = .string (mkS tt) := hs.dep 17 _ rfl rfl
      have hz := HZj24.out.1
      have hq := HZj24.out.2
      refine ValWp.pure (v := .string (mkS j24)) (fun K' hK' => ?_) ⟨rfl, rfl⟩
      simp only [ValWp, execOp, Act.eval, e20, e23]
      go_simp
      all_goals exact hK'
    · -- 19: slot 25 := Op.fieldAddr 102 t1 5
      refine OwesS.q rfl fun a w j u hC hb hs => ⟨rfl, ?_⟩
      have e1 : a.tmps.getD 1 undef = .pointer (some ⟨W.heap.size, 0, none⟩) := hs.free 1 rfl
      refine ValWp.pure (v := .pointer (some ⟨W.heap.size, 5, none⟩)) (fun K' hK' => ?_) ⟨rfl, rfl⟩
      simp only [ValWp, execOp, Act.eval, e1]
      go_simp
      all_goals exact hK'
    · -- 20: slot 26 := Op.load 67 t25
      refine OwesS.q rfl fun a w j u hC hb hs => ⟨rfl, ?_⟩
      have e25 : a.tmps.getD 25 undef = .pointer (some ⟨W.heap.size, 5, none⟩) := hs.dep 19 _ rfl rfl
      have q : w.cell? ⟨W.heap.size, 5, none⟩ = some (.slice A1 n1 c1) := (cell_row (later_cells (HRF0.out.trans hC) HXw1.out) 5).1
      refine ValWp.pure (v := .slice A1 n1 c1) (fun K' hK' => ?_) ⟨rfl, rfl⟩
      simp only [ValWp, execOp, Act.eval, e25]
      go_simp
      all_goals exact hK'
    · -- 21: slot 27 := Op.call { builtin len, args := #[t26], argTypes := #[67] }
      refine OwesS.q rfl fun a w j u hC hb hs => ⟨rfl, ?_⟩
      have e26 : a.tmps.getD 26 undef = .slice A1 n1 c1 := hs.dep 20 _ rfl rfl
      refine ValWp.pure (v := .int .i64 (n1 : Int)) (fun K' hK' => ?_) ⟨rfl, rfl⟩
      simp only [ValWp, execOp, Act.eval, e26]
      go_simp
      all_goals exact hK'
    · -- 22: slot 28 := Op.call { value (Operand.func 36), args := #[t27], argTypes := #[2] }
      refine OwesS.w rfl fun a w u hC hl hs => ⟨rfl, fun K hK => ?_⟩
      have e27 : a.tmps.getD 27 undef = .int .i64 (n1 : Int) := hs.dep 21 _ rfl rfl
      refine wp_of_val ?_
      refine ValWp.call #[.int .i64 (n1 : Int)] rfl rfl Try.func19 rfl rfl (by simp only [List.map_toArray, List.map_cons, List.map_nil, Act.eval, e27]) ?_
      refine (Hx1.out w).mono ?_
      rintro e w' ⟨rfl, hb⟩
      exact ⟨_, rfl, hK _ _ rfl (Later.trans hC hb)⟩
    · -- 23: slot 29 := Op.binOp BinOp.add 9 t24 t28 9
      refine OwesS.q rfl fun a w j u hC hb hs => ⟨rfl, ?_⟩
      have e24 : a.tmps.getD 24 undef = .string (mkS j24) := hs.dep 18 _ rfl rfl
      have e28 : a.tmps.getD 28 undef = .string (mkS x1) := hs.dep 22 _ rfl rfl
      have hz := HZj29.out.1
      have hq := HZj29.out.2
      refine ValWp.pure (v := .string (mkS j29)) (fun K' hK' => ?_) ⟨rfl, rfl⟩
      simp only [ValWp, execOp, Act.eval, e24, e28]
      go_simp
      all_goals exact hK'
    · -- 24: slot 3 := Op.assign t29
      refine OwesS.q rfl fun a w j u hC hb hs => ⟨rfl, ?_⟩
      have e29 : a.tmps.getD 29 undef = .string (mkS j29) := hs.dep 23 _ rfl rfl
      refine ValWp.pure (v := .string (mkS j29)) (fun K' hK' => ?_) ⟨rfl, rfl⟩
      simp only [ValWp, execOp, Act.eval, e29]
      go_simp
      all_goals exact hK'
  · intro a w u hC hl hd hsz hfree hs
    obtain ⟨u6, hu6⟩ : ∃ u, u = a.tmps.getD 6 undef := ⟨_, rfl⟩
    obtain ⟨u7, hu7⟩ : ∃ u, u = a.tmps.getD 7 undef := ⟨_, rfl⟩
    obtain ⟨u8, hu8⟩ : ∃ u, u = a.tmps.getD 8 undef := ⟨_, rfl⟩
    obtain ⟨u9, hu9⟩ : ∃ u, u = a.tmps.getD 9 undef := ⟨_, rfl⟩
    obtain ⟨u10, hu10⟩ : ∃ u, u = a.tmps.getD 10 undef := ⟨_, rfl⟩
    obtain ⟨u11, hu11⟩ : ∃ u, u = a.tmps.getD 11 undef := ⟨_, rfl⟩
    obtain ⟨u12, hu12⟩ : ∃ u, u = a.tmps.getD 12 undef := ⟨_, rfl⟩
    obtain ⟨u13, hu13⟩ : ∃ u, u = a.tmps.getD 13 undef := ⟨_, rfl⟩
    obtain ⟨u14, hu14⟩ : ∃ u, u = a.tmps.getD 14 undef := ⟨_, rfl⟩
    obtain ⟨u15, hu15⟩ : ∃ u, u = a.tmps.getD 15 undef := ⟨_, rfl⟩
    obtain ⟨u16, hu16⟩ : ∃ u, u = a.tmps.getD 16 undef := ⟨_, rfl⟩
    obtain ⟨u17, hu17⟩ : ∃ u, u = a.tmps.getD 17 undef := ⟨_, rfl⟩
    obtain ⟨u18, hu18⟩ : ∃ u, u = a.tmps.getD 18 undef := ⟨_, rfl⟩
    obtain ⟨u19, hu19⟩ : ∃ u, u = a.tmps.getD 19 undef := ⟨_, rfl⟩
    obtain ⟨u20, hu20⟩ : ∃ u, u = a.tmps.getD 20 undef := ⟨_, rfl⟩
    obtain ⟨u21, hu21⟩ : ∃ u, u = a.tmps.getD 21 undef := ⟨_, rfl⟩
    obtain ⟨u22, hu22⟩ : ∃ u, u = a.tmps.getD 22 undef := ⟨_, rfl⟩
    obtain ⟨u23, hu23⟩ : ∃ u, u = a.tmps.getD 23 undef := ⟨_, rfl⟩
    obtain ⟨u24, hu24⟩ : ∃ u, u = a.tmps.getD 24 undef := ⟨_, rfl⟩
    obtain ⟨u25, hu25⟩ : ∃ u, u = a.tmps.getD 25 undef := ⟨_, rfl⟩
    obtain ⟨u26, hu26⟩ : ∃ u, u = a.tmps.getD 26 undef := ⟨_, rfl⟩
    obtain ⟨u27, hu27⟩ : ∃ u, u = a.tmps.getD 27 undef := ⟨_, rfl⟩
    obtain ⟨u28, hu28⟩ : ∃ u, u = a.tmps.getD 28 undef := ⟨_, rfl⟩
    obtain ⟨u29, hu29⟩ : ∃ u, u = a.tmps.getD 29 undef := ⟨_, rfl⟩
    have hal : AllAt a 0 [_, _, _, .string (mkS j29), _, _, u6, u7, u8, u9, u10, u11, u12, u13, u14, u15, u16, u17, u18, u19, u20, u21, u22, u23, u24, u25, u26, u27, u28, u29, _, _, _, _, _, _, _, _, _, _, _, _, _, _, _, _, _, _, _, _, _, _, _, _, _, _, _, _, _, _, _, _, _, _, _, _, _, _, _, _, _, _, _, _, _, _, _, _, _, _, _, _, _, _] := ⟨hfree 0 rfl, hfree 1 rfl, hfree 2 rfl, hs 24 _ rfl, hfree 4 rfl, hfree 5 rfl, hu6.symm, hu7.symm, hu8.symm, hu9.symm, hu10.symm, hu11.symm, hu12.symm, hu13.symm, hu14.symm, hu15.symm, hu16.symm, hu17.symm, hu18.symm, hu19.symm, hu20.symm, hu21.symm, hu22.symm, hu23.symm, hu24.symm, hu25.symm, hu26.symm, hu27.symm, hu28.symm, hu29.symm, hfree 30 rfl, hfree 31 rfl, hfree 32 rfl, hfree 33 rfl, hfree 34 rfl, hfree 35 rfl, hfree 36 rfl, hfree 37 rfl, hfree 38 rfl, hfree 39 rfl, hfree 40 rfl, hfree 41 rfl, hfree 42 rfl, hfree 43 rfl, hfree 44 rfl, hfree 45 rfl, hfree 46 rfl, hfree 47 rfl, hfree 48 rfl, hfree 49 rfl, hfree 50 rfl, hfree 51 rfl, hfree 52 rfl, hfree 53 rfl, hfree 54 rfl, hfree 55 rfl, hfree 56 rfl, hfree 57 rfl, hfree 58 rfl, hfree 59 rfl, hfree 60 rfl, hfree 61 rfl, hfree 62 rfl, hfree 63 rfl, hfree 64 rfl, hfree 65 rfl, hfree 66 rfl, hfree 67 rfl, hfree 68 rfl, hfree 69 rfl, hfree 70 rfl, hfree 71 rfl, hfree 72 rfl, hfree 73 rfl, hfree 74 rfl, hfree 75 rfl, hfree 76 rfl, hfree 77 rfl, hfree 78 rfl, hfree 79 rfl, hfree 80 rfl, hfree 81 rfl, hfree 82 rfl, hfree 83 rfl, trivial⟩
    have hlit := fun h => act_lit hd h hal
    rw [hlit hsz]
    simp only [Array.getD_eq_getD_getElem?, List.getElem?_toArray, List.getElem?_cons_zero, List.getElem?_cons_succ, Option.getD_some]
    clear hlit hal hd hsz hfree hs hu6 hu7 hu8 hu9 hu10 hu11 hu12 hu13 hu14 hu15 hu16 hu17 hu18 hu19 hu20 hu21 hu22 hu23 hu24 hu25 hu26 hu27 hu28 hu29
    obtain ⟨a3, ha3⟩ : ∃ y, y = j29 := ⟨_, rfl⟩
    rw [← ha3] at HLENa3 HDEFa3 ⊢
    clear ha3
    rename World => w2a
    have HLw2a := Lib.hid (HLw1.out.trans hC)
    have HXw2a := Lib.hid (later_cells hC HXw1.out)
    clear hC
    go_wp2
    go_loopw [3, 4] (fun s i wr => ∃ k : Nat, k ≤ n1 ∧ i = .int .i64 (k : Int) ∧ s = .string (mkS (a3 ++ manyP num (nums.take k))) ∧ Later w2a wr) (fun _ i _ => n1 - (intOf i).toNat)
    case atStart => exact ⟨0, by omega, rfl, by simp only [List.take_zero, manyP, List.flatMap_nil, List.append_nil], Later.refl _⟩
    case round =>
      obtain ⟨k1, hk, rfl, rfl, hb⟩ := hrel
      have HLW1 := Lib.hid (HLw2a.out.trans hb)
      have HBW1 := Lib.hid (later_cells hb HXw2a.out)
      have HRF1 := Lib.hid (Later.refl wr)
      have HST := Lib.hid hb
      have q0 := (cell_row HBW1.out 5).1
      clear hb
      by_cases hlt : k1 < n1
      · have hk0 : (0 : Int) ≤ (k1 : Int) := by omega
        have hlt1 : (k1 : Int) < (n1 : Int) := by omega
        have hkl : k1 < nums.length := by rw [← HNnums.out]; exact hlt
        obtain ⟨g, o, rfl, hg, hcell⟩ := HRnums.out.lie_num (by omega)
        obtain ⟨p1, hp1⟩ : ∃ y, y = nums[k1] := ⟨_, rfl⟩
        have HEL := Lib.hid (show ∀ w', Later wr w' → w'.cell? ⟨g, o + k1, none⟩ = some (.int .i64 p1) from fun w' hl => by
          have q1 := ((HLW1.out.trans hl).cell (p := ⟨g, o + k1, none⟩) hg).trans (hcell k1 hkl)
          rw [← hp1] at q1
          exact q1)
        have hoe := HOnums.out _ (List.getElem_mem hkl)
        have hi1 : I64 p1 := by rw [hp1]; exact hoe
        have hbound := many_le num nums k1 hkl
        have hone : num.put nums[k1] = numP p1 := by rw [hp1]; rfl
        obtain ⟨t1, ht1⟩ : ∃ y, y = numP p1 := ⟨_, rfl⟩
        rw [← ht1] at hone
        rw [hone] at hbound
        try simp only [List.length_append] at hbound
        have hxo := HXS.out
        have hla := HLENa3.out
        have Ht1 := Lib.hid (fun w => n_v p1 hi1 w)
        rw [← ht1] at Ht1
        obtain ⟨cur, hcur⟩ : ∃ y, y = a3 ++ manyP num (nums.take k1) := ⟨_, rfl⟩
        have hlc : cur.length = a3.length + (manyP num (nums.take k1)).length := by rw [hcur, List.length_append]
        rw [← hcur]
        have hsum : ¬ 9223372036854775807 < (mkS cur).size + (mkS t1).size := by rw [mkS_size, mkS_size]; omega
        have HADD := Lib.hid (mkS_add cur t1)
        have HEND := Lib.hid (show cur ++ t1 = a3 ++ manyP num (nums.take (k1 + 1)) by rw [many_snoc_put num nums k1 hkl, hone, ← List.append_assoc, ← hcur])
        have hq := HEL.out wr (Later.refl wr)
        clear ht1 hp1 hi1 hxo hla hbound hone hlc hcur hcell hkl hg hoe
        go_wp2_with (go_at_call 19; (with_reducible refine (Ht1.out _).mono ?_); rintro e w2 ⟨rfl, hb2⟩; have HB2 := Lib.hid (Later.trans HST.out hb2); clear hb2)
        go_roundw
        case rel => exact ⟨k1 + 1, by omega, by go_num, by rw [HADD.out, HEND.out], HB2.out⟩
        case measure => simp [intOf]; omega
      · have e : nums.take k1 = nums := by rw [List.take_of_length_le]; have := HNnums.out; omega
        have hlt1 : ¬ (k1 : Int) < (n1 : Int) := by omega
        have hxo := HXS.out
        rw [e]
        clear e
        obtain ⟨cur, hcur⟩ : ∃ y, y = a3 ++ manyP num nums := ⟨_, rfl⟩
        have hlc : cur.length = a3.length + (manyP num nums).length := by rw [hcur, List.length_append]
        have hla := HLENa3.out
        rw [← hcur]
        obtain ⟨j53, hj53⟩ : ∃ j53 : B, j53 = t2 ++ x3 := ⟨_, rfl⟩
        have hlj53 : j53.length = t2.length + x3.length := by rw [hj53, List.length_append]
        have HZj53 := Lib.hid (show (¬ 9223372036854775807 < (mkS t2).size + (mkS x3).size) ∧ mkS t2 ++ mkS x3 = mkS j53 from ⟨by rw [mkS_size, mkS_size]; omega, by rw [hj53]; exact mkS_add t2 x3⟩)
        obtain ⟨j54, hj54⟩ : ∃ j54 : B, j54 = cur ++ j53 := ⟨_, rfl⟩
        have hlj54 : j54.length = cur.length + j53.length := by rw [hj54, List.length_append]
        have HZj54 := Lib.hid (show (¬ 9223372036854775807 < (mkS cur).size + (mkS j53).size) ∧ mkS cur ++ mkS j53 = mkS j54 from ⟨by rw [mkS_size, mkS_size]; omega, by rw [hj54]; exact mkS_add cur j53⟩)
        have HLENa6 := Lib.hid (show j54.length = t0.length + tq.length + ta.length + tb.length + tt.length + x1.length + (manyP num nums).length + t2.length + x3.length by omega)
        have HDEFa6 := Lib.hid (show j54 = a3 ++ manyP num nums ++ (t2 ++ x3) by rw [hj54, hj53, hcur])
        clear hj53 hlj53 hj54 hlj54 hxo hla hlc hcur hlt
        go_wp2_with fail
        refine wp_region_seqE (by kernel_rfl) [3, 7, 10] (fun _ _ w => Later wr w) [some (.string (mkS cur)), some (.pointer (some ⟨W.heap.size, 6, none⟩)), some (.slice A2 n2 c2), some (.string (mkS t2)), some (.pointer (some ⟨W.heap.size, 7, none⟩)), some (.slice A3 n3 c3), some (.int .i64 (n3 : Int)), some (.string (mkS x3)), some (.string (mkS j53)), some (.string (mkS j54)), some (.string (mkS j54))] (by decide) (by decide) (by kernel_rfl) (by kernel_rfl) 3 (by kernel_rfl) (Later.drew wr) ?_ ?_
        · refine ⟨?_, ?_, ?_, ?_, ?_, ?_, ?_, ?_, ?_, ?_, ?_, trivial⟩
          · -- 0: slot 45 := Op.move t3
            refine OwesSE.q rfl fun a w j u hC hb he hs => ⟨rfl, ?_⟩
            have e3 : a.tmps.getD 3 undef = .string (mkS cur) := he (by have := hb 2 10 rfl rfl; simp only [List.length_cons, List.length_nil]; omega)
            refine ValWp.pure (v := .string (mkS cur)) (fun K' hK' => ?_) ⟨rfl, rfl⟩
            simp only [ValWp, execOp, Act.eval, e3]
            go_simp
            all_goals exact hK'
          · -- 1: slot 46 := Op.fieldAddr 102 t1 6
            refine OwesSE.q rfl fun a w j u hC hb he hs => ⟨rfl, ?_⟩
            have e1 : a.tmps.getD 1 undef = .pointer (some ⟨W.heap.size, 0, none⟩) := hs.free 1 rfl
            refine ValWp.pure (v := .pointer (some ⟨W.heap.size, 6, none⟩)) (fun K' hK' => ?_) ⟨rfl, rfl⟩
            simp only [ValWp, execOp, Act.eval, e1]
            go_simp
            all_goals exact hK'
          · -- 2: slot 47 := Op.load 23 t46
            refine OwesSE.q rfl fun a w j u hC hb he hs => ⟨rfl, ?_⟩
            have e46 : a.tmps.getD 46 undef = .pointer (some ⟨W.heap.size, 6, none⟩) := hs.dep 1 _ rfl rfl
            have q : w.cell? ⟨W.heap.size, 6, none⟩ = some (.slice A2 n2 c2) := (cell_row (later_cells (HRF1.out.trans hC) HBW1.out) 6).1
            refine ValWp.pure (v := .slice A2 n2 c2) (fun K' hK' => ?_) ⟨rfl, rfl⟩
            simp only [ValWp, execOp, Act.eval, e46]
            go_simp
            all_goals exact hK'
          · -- 3: slot 48 := Op.call { value (Operand.func 35), args := #[t47], argTypes := #[23] }
            refine OwesSE.w rfl fun a w u hC hl hs => ⟨rfl, fun K hK => ?_⟩
            have e47 : a.tmps.getD 47 undef = .slice A2 n2 c2 := hs.dep 2 _ rfl rfl
            refine wp_of_val ?_
            refine ValWp.call #[.slice A2 n2 c2] rfl rfl Try.func18 rfl rfl (by simp only [List.map_toArray, List.map_cons, List.map_nil, Act.eval, e47]) ?_
            refine (Ht2.out w (HLW1.out.trans hC)).mono ?_
            rintro e w' ⟨rfl, hb⟩
            exact ⟨_, rfl, hK _ _ rfl (Later.trans hC hb)⟩
          · -- 4: slot 49 := Op.fieldAddr 102 t1 7
            refine OwesSE.q rfl fun a w j u hC hb he hs => ⟨rfl, ?_⟩
            have e1 : a.tmps.getD 1 undef = .pointer (some ⟨W.heap.size, 0, none⟩) := hs.free 1 rfl
            refine ValWp.pure (v := .pointer (some ⟨W.heap.size, 7, none⟩)) (fun K' hK' => ?_) ⟨rfl, rfl⟩
            simp only [ValWp, execOp, Act.eval, e1]
            go_simp
            all_goals exact hK'
          · -- 5: slot 50 := Op.load 100 t49
            refine OwesSE.q rfl fun a w j u hC hb he hs => ⟨rfl, ?_⟩
            have e49 : a.tmps.getD 49 undef = .pointer (some ⟨W.heap.size, 7, none⟩) := hs.dep 4 _ rfl rfl
            have q : w.cell? ⟨W.heap.size, 7, none⟩ = some (.slice A3 n3 c3) := (cell_row (later_cells (HRF1.out.trans hC) HBW1.out) 7).1
            refine ValWp.pure (v := .slice A3 n3 c3) (fun K' hK' => ?_) ⟨rfl, rfl⟩
            simp only [ValWp, execOp, Act.eval, e49]
            go_simp
            all_goals exact hK'
          · -- 6: slot 51 := Op.call { builtin len, args := #[t50], argTypes := #[100] }
            refine OwesSE.q rfl fun a w j u hC hb he hs => ⟨rfl, ?_⟩
            have e50 : a.tmps.getD 50 undef = .slice A3 n3 c3 := hs.dep 5 _ rfl rfl
            refine ValWp.pure (v := .int .i64 (n3 : Int)) (fun K' hK' => ?_) ⟨rfl, rfl⟩
            simp only [ValWp, execOp, Act.eval, e50]
            go_simp
            all_goals exact hK'
          · -- 7: slot 52 := Op.call { value (Operand.func 36), args := #[t51], argTypes := #[2] }
            refine OwesSE.w rfl fun a w u hC hl hs => ⟨rfl, fun K hK => ?_⟩
            have e51 : a.tmps.getD 51 undef = .int .i64 (n3 : Int) := hs.dep 6 _ rfl rfl
            refine wp_of_val ?_
            refine ValWp.call #[.int .i64 (n3 : Int)] rfl rfl Try.func19 rfl rfl (by simp only [List.map_toArray, List.map_cons, List.map_nil, Act.eval, e51]) ?_
            refine (Hx3.out w).mono ?_
            rintro e w' ⟨rfl, hb⟩
            exact ⟨_, rfl, hK _ _ rfl (Later.trans hC hb)⟩
          · -- 8: slot 53 := Op.binOp BinOp.add 9 t48 t52 9
            refine OwesSE.q rfl fun a w j u hC hb he hs => ⟨rfl, ?_⟩
            have e48 : a.tmps.getD 48 undef = .string (mkS t2) := hs.dep 3 _ rfl rfl
            have e52 : a.tmps.getD 52 undef = .string (mkS x3) := hs.dep 7 _ rfl rfl
            have hz := HZj53.out.1
            have hq := HZj53.out.2
            refine ValWp.pure (v := .string (mkS j53)) (fun K' hK' => ?_) ⟨rfl, rfl⟩
            simp only [ValWp, execOp, Act.eval, e48, e52]
            go_simp
            all_goals exact hK'
          · -- 9: slot 54 := Op.binOp BinOp.add 9 t45 t53 9
            refine OwesSE.q rfl fun a w j u hC hb he hs => ⟨rfl, ?_⟩
            have e45 : a.tmps.getD 45 undef = .string (mkS cur) := hs.dep 0 _ rfl rfl
            have e53 : a.tmps.getD 53 undef = .string (mkS j53) := hs.dep 8 _ rfl rfl
            have hz := HZj54.out.1
            have hq := HZj54.out.2
            refine ValWp.pure (v := .string (mkS j54)) (fun K' hK' => ?_) ⟨rfl, rfl⟩
            simp only [ValWp, execOp, Act.eval, e45, e53]
            go_simp
            all_goals exact hK'
          · -- 10: slot 3 := Op.assign t54
            refine OwesSE.w rfl fun a w u hC hl hs => ⟨rfl, fun K hK => ?_⟩
            have e54 : a.tmps.getD 54 undef = .string (mkS j54) := hs.dep 9 _ rfl rfl
            refine wp_of_val ?_
            refine ValWp.pure (v := .string (mkS j54)) (w' := w) (fun K' hK' => ?_) (hK _ _ rfl hC)
            simp only [ValWp, execOp, Act.eval, e54]
            go_simp
            all_goals exact hK'
        · intro a w u hC hl hd hsz hfree hs
          obtain ⟨u45, hu45⟩ : ∃ u, u = a.tmps.getD 45 undef := ⟨_, rfl⟩
          obtain ⟨u46, hu46⟩ : ∃ u, u = a.tmps.getD 46 undef := ⟨_, rfl⟩
          obtain ⟨u47, hu47⟩ : ∃ u, u = a.tmps.getD 47 undef := ⟨_, rfl⟩
          obtain ⟨u48, hu48⟩ : ∃ u, u = a.tmps.getD 48 undef := ⟨_, rfl⟩
          obtain ⟨u49, hu49⟩ : ∃ u, u = a.tmps.getD 49 undef := ⟨_, rfl⟩
          obtain ⟨u50, hu50⟩ : ∃ u, u = a.tmps.getD 50 undef := ⟨_, rfl⟩
          obtain ⟨u51, hu51⟩ : ∃ u, u = a.tmps.getD 51 undef := ⟨_, rfl⟩
          obtain ⟨u52, hu52⟩ : ∃ u, u = a.tmps.getD 52 undef := ⟨_, rfl⟩
          obtain ⟨u53, hu53⟩ : ∃ u, u = a.tmps.getD 53 undef := ⟨_, rfl⟩
          obtain ⟨u54, hu54⟩ : ∃ u, u = a.tmps.getD 54 undef := ⟨_, rfl⟩
          have hal : AllAt a 0 [_, _, _, .string (mkS j54), _, _, _, _, _, _, _, _, _, _, _, _, _, _, _, _, _, _, _, _, _, _, _, _, _, _, _, _, _, _, _, _, _, _, _, _, _, _, _, _, _, u45, u46, u47, u48, u49, u50, u51, u52, u53, u54, _, _, _, _, _, _, _, _, _, _, _, _, _, _, _, _, _, _, _, _, _, _, _, _, _, _, _, _, _] := ⟨hfree 0 rfl, hfree 1 rfl, hfree 2 rfl, hs 10 _ rfl, hfree 4 rfl, hfree 5 rfl, hfree 6 rfl, hfree 7 rfl, hfree 8 rfl, hfree 9 rfl, hfree 10 rfl, hfree 11 rfl, hfree 12 rfl, hfree 13 rfl, hfree 14 rfl, hfree 15 rfl, hfree 16 rfl, hfree 17 rfl, hfree 18 rfl, hfree 19 rfl, hfree 20 rfl, hfree 21 rfl, hfree 22 rfl, hfree 23 rfl, hfree 24 rfl, hfree 25 rfl, hfree 26 rfl, hfree 27 rfl, hfree 28 rfl, hfree 29 rfl, hfree 30 rfl, hfree 31 rfl, hfree 32 rfl, hfree 33 rfl, hfree 34 rfl, hfree 35 rfl, hfree 36 rfl, hfree 37 rfl, hfree 38 rfl, hfree 39 rfl, hfree 40 rfl, hfree 41 rfl, hfree 42 rfl, hfree 43 rfl, hfree 44 rfl, hu45.symm, hu46.symm, hu47.symm, hu48.symm, hu49.symm, hu50.symm, hu51.symm, hu52.symm, hu53.symm, hu54.symm, hfree 55 rfl, hfree 56 rfl, hfree 57 rfl, hfree 58 rfl, hfree 59 rfl, hfree 60 rfl, hfree 61 rfl, hfree 62 rfl, hfree 63 rfl, hfree 64 rfl, hfree 65 rfl, hfree 66 rfl, hfree 67 rfl, hfree 68 rfl, hfree 69 rfl, hfree 70 rfl, hfree 71 rfl, hfree 72 rfl, hfree 73 rfl, hfree 74 rfl, hfree 75 rfl, hfree 76 rfl, hfree 77 rfl, hfree 78 rfl, hfree 79 rfl, hfree 80 rfl, hfree 81 rfl, hfree 82 rfl, hfree 83 rfl, trivial⟩
          have hlit := fun h => act_lit hd h hal
          rw [hlit hsz]
          simp only [Array.getD_eq_getD_getElem?, List.getElem?_toArray, List.getElem?_cons_zero, List.getElem?_cons_succ, Option.getD_some]
          clear hlit hal hd hsz hfree hs hu45 hu46 hu47 hu48 hu49 hu50 hu51 hu52 hu53 hu54
          obtain ⟨a6, ha6⟩ : ∃ y, y = j54 := ⟨_, rfl⟩
          rw [← ha6] at HLENa6 HDEFa6 ⊢
          clear ha6
          rename World => w6
          have HLw6 := Lib.hid (HLW1.out.trans hC)
          have HXw6 := Lib.hid (later_cells hC HBW1.out)
          clear hC q0 hlt1
          go_wp2
          go_loopw [3, 5] (fun s i wr => ∃ k : Nat, k ≤ n3 ∧ i = .int .i64 (k : Int) ∧ s = .string (mkS (a6 ++ manyP prC (rows.take k))) ∧ Later w6 wr) (fun _ i _ => n3 - (intOf i).toNat)
          case atStart => exact ⟨0, by omega, rfl, by simp only [List.take_zero, manyP, List.flatMap_nil, List.append_nil], Later.refl _⟩
          case round =>
            obtain ⟨k2, hk, rfl, rfl, hb⟩ := hrel
            have HLW2 := Lib.hid (HLw6.out.trans hb)
            have HBW2 := Lib.hid (later_cells hb HXw6.out)
            have HRF2 := Lib.hid (Later.refl wr)
            have HST := Lib.hid hb
            have q0 := (cell_row HBW2.out 7).1
            clear hb
            by_cases hlt : k2 < n3
            · have hk0 : (0 : Int) ≤ (k2 : Int) := by omega
              have hlt1 : (k2 : Int) < (n3 : Int) := by omega
              have hkl : k2 < rows.length := by rw [← HNrows.out]; exact hlt
              obtain ⟨g, o, rfl, hg, hcell⟩ := HRrows.out.lie_pr (by omega)
              obtain ⟨p1, hp1⟩ : ∃ y, y = rows[k2].1 := ⟨_, rfl⟩
              obtain ⟨p2, hp2⟩ : ∃ y, y = rows[k2].2 := ⟨_, rfl⟩
              have HEL := Lib.hid (show ∀ w', Later wr w' → w'.cell? ⟨g, o + k2 * 2, none⟩ = some (.string (mkS p1)) ∧ w'.cell? ⟨g, o + k2 * 2 + 1, none⟩ = some (.string (mkS p2)) from fun w' hl => by
                have q1 := ((HLW2.out.trans hl).cell (p := ⟨g, o + k2 * 2, none⟩) hg).trans (hcell k2 hkl).1
                rw [← hp1] at q1
                have q2 := ((HLW2.out.trans hl).cell (p := ⟨g, o + k2 * 2 + 1, none⟩) hg).trans (hcell k2 hkl).2
                rw [← hp2] at q2
                exact ⟨q1, q2⟩)
              have hoe := HOrows.out _ (List.getElem_mem hkl)
              have hbound := many_le prC rows k2 hkl
              have hone : prC.put rows[k2] = textB p1 ++ (textB p2) := by rw [hp1, hp2]; rfl
              have hst1 : p1.length ≤ (textB p1).length := by rw [textB, List.length_append]; omega
              have hst2 : p2.length ≤ (textB p2).length := by rw [textB, List.length_append]; omega
              obtain ⟨t1, ht1⟩ : ∃ y, y = textB p1 := ⟨_, rfl⟩
              rw [← ht1] at hone
              rw [← ht1] at hst1
              obtain ⟨t2, ht2⟩ : ∃ y, y = textB p2 := ⟨_, rfl⟩
              rw [← ht2] at hone
              rw [← ht2] at hst2
              rw [hone] at hbound
              try simp only [List.length_append] at hbound
              have hxo := HXS.out
              have hla := HLENa6.out
              have Ht1 := Lib.hid (fun w => text_v p1 w (by omega))
              rw [← ht1] at Ht1
              have Ht2 := Lib.hid (fun w => text_v p2 w (by omega))
              rw [← ht2] at Ht2
              obtain ⟨cur, hcur⟩ : ∃ y, y = a6 ++ manyP prC (rows.take k2) := ⟨_, rfl⟩
              have hlc : cur.length = a6.length + (manyP prC (rows.take k2)).length := by rw [hcur, List.length_append]
              rw [← hcur]
              obtain ⟨j77, hj77⟩ : ∃ j77 : B, j77 = t1 ++ t2 := ⟨_, rfl⟩
              have hlj77 : j77.length = t1.length + t2.length := by rw [hj77, List.length_append]
              have HZj77 := Lib.hid (show (¬ 9223372036854775807 < (mkS t1).size + (mkS t2).size) ∧ mkS t1 ++ mkS t2 = mkS j77 from ⟨by rw [mkS_size, mkS_size]; omega, by rw [hj77]; exact mkS_add t1 t2⟩)
              obtain ⟨j78, hj78⟩ : ∃ j78 : B, j78 = cur ++ j77 := ⟨_, rfl⟩
              have hlj78 : j78.length = cur.length + j77.length := by rw [hj78, List.length_append]
              have HZj78 := Lib.hid (show (¬ 9223372036854775807 < (mkS cur).size + (mkS j77).size) ∧ mkS cur ++ mkS j77 = mkS j78 from ⟨by rw [mkS_size, mkS_size]; omega, by rw [hj78]; exact mkS_add cur j77⟩)
              have HEND := Lib.hid (show j78 = a6 ++ manyP prC (rows.take (k2 + 1)) by rw [many_snoc_put prC rows k2 hkl, hone, ← List.append_assoc, ← hcur, hj78, hj77] <;> simp only [List.append_assoc])
              clear hj77 hlj77 hj78 hlj78 ht1 ht2 hst1 hst2 hp1 hp2 hxo hla hbound hone hlc hcur hcell hkl hg hoe
              go_wp2_with fail
              refine wp_region_seqE (by kernel_rfl) [7, 14, 17] (fun _ _ w => Later wr w) [some (.string (mkS cur)), some (.pointer (some ⟨W.heap.size, 7, none⟩)), some (.slice (some ⟨g, o, none⟩) n3 c3), some (.int .i64 (k2 : Int)), some (.pointer (some ⟨g, o + k2 * 2, none⟩)), some (.pointer (some ⟨g, o + k2 * 2, none⟩)), some (.string (mkS p1)), some (.string (mkS t1)), some (.pointer (some ⟨W.heap.size, 7, none⟩)), some (.slice (some ⟨g, o, none⟩) n3 c3), some (.int .i64 (k2 : Int)), some (.pointer (some ⟨g, o + k2 * 2, none⟩)), some (.pointer (some ⟨g, o + k2 * 2 + 1, none⟩)), some (.string (mkS p2)), some (.string (mkS t2)), some (.string (mkS j77)), some (.string (mkS j78)), some (.string (mkS j78))] (by decide) (by decide) (by kernel_rfl) (by kernel_rfl) 3 (by kernel_rfl) (Later.drew wr) ?_ ?_
              · refine ⟨?_, ?_, ?_, ?_, ?_, ?_, ?_, ?_, ?_, ?_, ?_, ?_, ?_, ?_, ?_, ?_, ?_, ?_, trivial⟩
                · -- 0: slot 62 := Op.move t3
                  refine OwesSE.q rfl fun a w j u hC hb he hs => ⟨rfl, ?_⟩
                  have e3 : a.tmps.getD 3 undef = .string (mkS cur) := he (by have := hb 2 17 rfl rfl; simp only [List.length_cons, List.length_nil]; omega)
                  refine ValWp.pure (v := .string (mkS cur)) (fun K' hK' => ?_) ⟨rfl, rfl⟩
                  simp only [ValWp, execOp, Act.eval, e3]
                  go_simp
                  all_goals exact hK'
                · -- 1: slot 63 := Op.fieldAddr 102 t1 7
                  refine OwesSE.q rfl fun a w j u hC hb he hs => ⟨rfl, ?_⟩
                  have e1 : a.tmps.getD 1 undef = .pointer (some ⟨W.heap.size, 0, none⟩) := hs.free 1 rfl
                  refine ValWp.pure (v := .pointer (some ⟨W.heap.size, 7, none⟩)) (fun K' hK' => ?_) ⟨rfl, rfl⟩
                  simp only [ValWp, execOp, Act.eval, e1]
                  go_simp
                  all_goals exact hK'
                · -- 2: slot 64 := Op.load 100 t63
                  refine OwesSE.q rfl fun a w j u hC hb he hs => ⟨rfl, ?_⟩
                  have e63 : a.tmps.getD 63 undef = .pointer (some ⟨W.heap.size, 7, none⟩) := hs.dep 1 _ rfl rfl
                  have q : w.cell? ⟨W.heap.size, 7, none⟩ = some (.slice (some ⟨g, o, none⟩) n3 c3) := (cell_row (later_cells (HRF2.out.trans hC) HBW2.out) 7).1
                  refine ValWp.pure (v := .slice (some ⟨g, o, none⟩) n3 c3) (fun K' hK' => ?_) ⟨rfl, rfl⟩
                  simp only [ValWp, execOp, Act.eval, e63]
                  go_simp
                  all_goals exact hK'
                · -- 3: slot 65 := Op.move t5
                  refine OwesSE.q rfl fun a w j u hC hb he hs => ⟨rfl, ?_⟩
                  have e5 : a.tmps.getD 5 undef = .int .i64 (k2 : Int) := hs.free 5 rfl
                  refine ValWp.pure (v := .int .i64 (k2 : Int)) (fun K' hK' => ?_) ⟨rfl, rfl⟩
                  simp only [ValWp, execOp, Act.eval, e5]
                  go_simp
                  all_goals exact hK'
                · -- 4: slot 66 := Op.indexAddr 100 t64 t65
                  refine OwesSE.q rfl fun a w j u hC hb he hs => ⟨rfl, ?_⟩
                  have e64 : a.tmps.getD 64 undef = .slice (some ⟨g, o, none⟩) n3 c3 := hs.dep 2 _ rfl rfl
                  have e65 : a.tmps.getD 65 undef = .int .i64 (k2 : Int) := hs.dep 3 _ rfl rfl
                  refine ValWp.pure (v := .pointer (some ⟨g, o + k2 * 2, none⟩)) (fun K' hK' => ?_) ⟨rfl, rfl⟩
                  simp only [ValWp, execOp, Act.eval, e64, e65]
                  go_simp
                  all_goals exact hK'
                · -- 5: slot 67 := Op.fieldAddr 109 t66 0
                  refine OwesSE.q rfl fun a w j u hC hb he hs => ⟨rfl, ?_⟩
                  have e66 : a.tmps.getD 66 undef = .pointer (some ⟨g, o + k2 * 2, none⟩) := hs.dep 4 _ rfl rfl
                  refine ValWp.pure (v := .pointer (some ⟨g, o + k2 * 2, none⟩)) (fun K' hK' => ?_) ⟨rfl, rfl⟩
                  simp only [ValWp, execOp, Act.eval, e66]
                  go_simp
                  all_goals exact hK'
                · -- 6: slot 68 := Op.load 9 t67
                  refine OwesSE.q rfl fun a w j u hC hb he hs => ⟨rfl, ?_⟩
                  have e67 : a.tmps.getD 67 undef = .pointer (some ⟨g, o + k2 * 2, none⟩) := hs.dep 5 _ rfl rfl
                  have q := (HEL.out w hC).1
                  refine ValWp.pure (v := .string (mkS p1)) (fun K' hK' => ?_) ⟨rfl, rfl⟩
                  simp only [ValWp, execOp, Act.eval, e67]
                  go_simp
                  all_goals exact hK'
                · -- 7: slot 69 := Op.call { value (Operand.func 75), args := #[t68], argTypes := #[9] }
                  refine OwesSE.w rfl fun a w u hC hl hs => ⟨rfl, fun K hK => ?_⟩
                  have e68 : a.tmps.getD 68 undef = .string (mkS p1) := hs.dep 6 _ rfl rfl
                  refine wp_of_val ?_
                  refine ValWp.call #[.string (mkS p1)] rfl rfl Try.func41 rfl rfl (by simp only [List.map_toArray, List.map_cons, List.map_nil, Act.eval, e68]) ?_
                  refine (Ht1.out w).mono ?_
                  rintro e w' ⟨rfl, hb⟩
                  exact ⟨_, rfl, hK _ _ rfl (Later.trans hC hb)⟩
                · -- 8: slot 70 := Op.fieldAddr 102 t1 7
                  refine OwesSE.q rfl fun a w j u hC hb he hs => ⟨rfl, ?_⟩
                  have e1 : a.tmps.getD 1 undef = .pointer (some ⟨W.heap.size, 0, none⟩) := hs.free 1 rfl
                  refine ValWp.pure (v := .pointer (some ⟨W.heap.size, 7, none⟩)) (fun K' hK' => ?_) ⟨rfl, rfl⟩
                  simp only [ValWp, execOp, Act.eval, e1]
                  go_simp
                  all_goals exact hK'
                · -- 9: slot 71 := Op.load 100 t70
                  refine OwesSE.q rfl fun a w j u hC hb he hs => ⟨rfl, ?_⟩
                  have e70 : a.tmps.getD 70 undef = .pointer (some ⟨W.heap.size, 7, none⟩) := hs.dep 8 _ rfl rfl
                  have q : w.cell? ⟨W.heap.size, 7, none⟩ = some (.slice (some ⟨g, o, none⟩) n3 c3) := (cell_row (later_cells (HRF2.out.trans hC) HBW2.out) 7).1
                  refine ValWp.pure (v := .slice (some ⟨g, o, none⟩) n3 c3) (fun K' hK' => ?_) ⟨rfl, rfl⟩
                  simp only [ValWp, execOp, Act.eval, e70]
                  go_simp
                  all_goals exact hK'
                · -- 10: slot 72 := Op.move t5
                  refine OwesSE.q rfl fun a w j u hC hb he hs => ⟨rfl, ?_⟩
                  have e5 : a.tmps.getD 5 undef = .int .i64 (k2 : Int) := hs.free 5 rfl
                  refine ValWp.pure (v := .int .i64 (k2 : Int)) (fun K' hK' => ?_) ⟨rfl, rfl⟩
                  simp only [ValWp, execOp, Act.eval, e5]
                  go_simp
                  all_goals exact hK'
                · -- 11: slot 73 := Op.indexAddr 100 t71 t72
                  refine OwesSE.q rfl fun a w j u hC hb he hs => ⟨rfl, ?_⟩
                  have e71 : a.tmps.getD 71 undef = .slice (some ⟨g, o, none⟩) n3 c3 := hs.dep 9 _ rfl rfl
                  have e72 : a.tmps.getD 72 undef = .int .i64 (k2 : Int) := hs.dep 10 _ rfl rfl
                  refine ValWp.pure (v := .pointer (some ⟨g, o + k2 * 2, none⟩)) (fun K' hK' => ?_) ⟨rfl, rfl⟩
                  simp only [ValWp, execOp, Act.eval, e71, e72]
                  go_simp
                  all_goals exact hK'
                · -- 12: slot 74 := Op.fieldAddr 109 t73 1
                  refine OwesSE.q rfl fun a w j u hC hb he hs => ⟨rfl, ?_⟩
                  have e73 : a.tmps.getD 73 undef = .pointer (some ⟨g, o + k2 * 2, none⟩) := hs.dep 11 _ rfl rfl
                  refine ValWp.pure (v := .pointer (some ⟨g, o + k2 * 2 + 1, none⟩)) (fun K' hK' => ?_) ⟨rfl, rfl⟩
                  simp only [ValWp, execOp, Act.eval, e73]
                  go_simp
                  all_goals exact hK'
                · -- 13: slot 75 := Op.load 9 t74
                  refine OwesSE.q rfl fun a w j u hC hb he hs => ⟨rfl, ?_⟩
                  have e74 : a.tmps.getD 74 undef = .pointer (some ⟨g, o + k2 * 2 + 1, none⟩) := hs.dep 12 _ rfl rfl
                  have q := (HEL.out w hC).2
                  refine ValWp.pure (v := .string (mkS p2)) (fun K' hK' => ?_) ⟨rfl, rfl⟩
                  simp only [ValWp, execOp, Act.eval, e74]
                  go_simp
                  all_goals exact hK'
                · -- 14: slot 76 := Op.call { value (Operand.func 75), args := #[t75], argTypes := #[9] }
                  refine OwesSE.w rfl fun a w u hC hl hs => ⟨rfl, fun K hK => ?_⟩
                  have e75 : a.tmps.getD 75 undef = .string (mkS p2) := hs.dep 13 _ rfl rfl
                  refine wp_of_val ?_
                  refine ValWp.call #[.string (mkS p2)] rfl rfl Try.func41 rfl rfl (by simp only [List.map_toArray, List.map_cons, List.map_nil, Act.eval, e75]) ?_
                  refine (Ht2.out w).mono ?_
                  rintro e w' ⟨rfl, hb⟩
                  exact ⟨_, rfl, hK _ _ rfl (Later.trans hC hb)⟩
                · -- 15: slot 77 := Op.binOp BinOp.add 9 t69 t76 9
                  refine OwesSE.q rfl fun a w j u hC hb he hs => ⟨rfl, ?_⟩
                  have e69 : a.tmps.getD 69 undef = .string (mkS t1) := hs.dep 7 _ rfl rfl
                  have e76 : a.tmps.getD 76 undef = .string (mkS t2) := hs.dep 14 _ rfl rfl
                  have hz := HZj77.out.1
                  have hq := HZj77.out.2
                  refine ValWp.pure (v := .string (mkS j77)) (fun K' hK' => ?_) ⟨rfl, rfl⟩
                  simp only [ValWp, execOp, Act.eval, e69, e76]
                  go_simp
                  all_goals exact hK'
                · -- 16: slot 78 := Op.binOp BinOp.add 9 t62 t77 9
                  refine OwesSE.q rfl fun a w j u hC hb he hs => ⟨rfl, ?_⟩
                  have e62 : a.tmps.getD 62 undef = .string (mkS cur) := hs.dep 0 _ rfl rfl
                  have e77 : a.tmps.getD 77 undef = .string (mkS j77) := hs.dep 15 _ rfl rfl
                  have hz := HZj78.out.1
                  have hq := HZj78.out.2
                  refine ValWp.pure (v := .string (mkS j78)) (fun K' hK' => ?_) ⟨rfl, rfl⟩
                  simp only [ValWp, execOp, Act.eval, e62, e77]
                  go_simp
                  all_goals exact hK'
                · -- 17: slot 3 := Op.assign t78
                  refine OwesSE.w rfl fun a w u hC hl hs => ⟨rfl, fun K hK => ?_⟩
                  have e78 : a.tmps.getD 78 undef = .string (mkS j78) := hs.dep 16 _ rfl rfl
                  refine wp_of_val ?_
                  refine ValWp.pure (v := .string (mkS j78)) (w' := w) (fun K' hK' => ?_) (hK _ _ rfl hC)
                  simp only [ValWp, execOp, Act.eval, e78]
                  go_simp
                  all_goals exact hK'
              · intro a w u hC hl hd hsz hfree hs
                obtain ⟨u62, hu62⟩ : ∃ u, u = a.tmps.getD 62 undef := ⟨_, rfl⟩
                obtain ⟨u63, hu63⟩ : ∃ u, u = a.tmps.getD 63 undef := ⟨_, rfl⟩
                obtain ⟨u64, hu64⟩ : ∃ u, u = a.tmps.getD 64 undef := ⟨_, rfl⟩
                obtain ⟨u65, hu65⟩ : ∃ u, u = a.tmps.getD 65 undef := ⟨_, rfl⟩
                obtain ⟨u66, hu66⟩ : ∃ u, u = a.tmps.getD 66 undef := ⟨_, rfl⟩
                obtain ⟨u67, hu67⟩ : ∃ u, u = a.tmps.getD 67 undef := ⟨_, rfl⟩
                obtain ⟨u68, hu68⟩ : ∃ u, u = a.tmps.getD 68 undef := ⟨_, rfl⟩
                obtain ⟨u69, hu69⟩ : ∃ u, u = a.tmps.getD 69 undef := ⟨_, rfl⟩
                obtain ⟨u70, hu70⟩ : ∃ u, u = a.tmps.getD 70 undef := ⟨_, rfl⟩
                obtain ⟨u71, hu71⟩ : ∃ u, u = a.tmps.getD 71 undef := ⟨_, rfl⟩
                obtain ⟨u72, hu72⟩ : ∃ u, u = a.tmps.getD 72 undef := ⟨_, rfl⟩
                obtain ⟨u73, hu73⟩ : ∃ u, u = a.tmps.getD 73 undef := ⟨_, rfl⟩
                obtain ⟨u74, hu74⟩ : ∃ u, u = a.tmps.getD 74 undef := ⟨_, rfl⟩
                obtain ⟨u75, hu75⟩ : ∃ u, u = a.tmps.getD 75 undef := ⟨_, rfl⟩
                obtain ⟨u76, hu76⟩ : ∃ u, u = a.tmps.getD 76 undef := ⟨_, rfl⟩
                obtain ⟨u77, hu77⟩ : ∃ u, u = a.tmps.getD 77 undef := ⟨_, rfl⟩
                obtain ⟨u78, hu78⟩ : ∃ u, u = a.tmps.getD 78 undef := ⟨_, rfl⟩
                have hal : AllAt a 0 [_, _, _, .string (mkS j78), _, _, _, _, _, _, _, _, _, _, _, _, _, _, _, _, _, _, _, _, _, _, _, _, _, _, _, _, _, _, _, _, _, _, _, _, _, _, _, _, _, _, _, _, _, _, _, _, _, _, _, _, _, _, _, _, _, _, u62, u63, u64, u65, u66, u67, u68, u69, u70, u71, u72, u73, u74, u75, u76, u77, u78, _, _, _, _, _] := ⟨hfree 0 rfl, hfree 1 rfl, hfree 2 rfl, hs 17 _ rfl, hfree 4 rfl, hfree 5 rfl, hfree 6 rfl, hfree 7 rfl, hfree 8 rfl, hfree 9 rfl, hfree 10 rfl, hfree 11 rfl, hfree 12 rfl, hfree 13 rfl, hfree 14 rfl, hfree 15 rfl, hfree 16 rfl, hfree 17 rfl, hfree 18 rfl, hfree 19 rfl, hfree 20 rfl, hfree 21 rfl, hfree 22 rfl, hfree 23 rfl, hfree 24 rfl, hfree 25 rfl, hfree 26 rfl, hfree 27 rfl, hfree 28 rfl, hfree 29 rfl, hfree 30 rfl, hfree 31 rfl, hfree 32 rfl, hfree 33 rfl, hfree 34 rfl, hfree 35 rfl, hfree 36 rfl, hfree 37 rfl, hfree 38 rfl, hfree 39 rfl, hfree 40 rfl, hfree 41 rfl, hfree 42 rfl, hfree 43 rfl, hfree 44 rfl, hfree 45 rfl, hfree 46 rfl, hfree 47 rfl, hfree 48 rfl, hfree 49 rfl, hfree 50 rfl, hfree 51 rfl, hfree 52 rfl, hfree 53 rfl, hfree 54 rfl, hfree 55 rfl, hfree 56 rfl, hfree 57 rfl, hfree 58 rfl, hfree 59 rfl, hfree 60 rfl, hfree 61 rfl, hu62.symm, hu63.symm, hu64.symm, hu65.symm, hu66.symm, hu67.symm, hu68.symm, hu69.symm, hu70.symm, hu71.symm, hu72.symm, hu73.symm, hu74.symm, hu75.symm, hu76.symm, hu77.symm, hu78.symm, hfree 79 rfl, hfree 80 rfl, hfree 81 rfl, hfree 82 rfl, hfree 83 rfl, trivial⟩
                have hlit := fun h => act_lit hd h hal
                rw [hlit hsz]
                simp only [Array.getD_eq_getD_getElem?, List.getElem?_toArray, List.getElem?_cons_zero, List.getElem?_cons_succ, Option.getD_some]
                clear hlit hal hd hsz hfree hs hu62 hu63 hu64 hu65 hu66 hu67 hu68 hu69 hu70 hu71 hu72 hu73 hu74 hu75 hu76 hu77 hu78
                go_wp2
                go_roundw
                case rel => exact ⟨k2 + 1, by omega, by go_num, by rw [HEND.out], HST.out.trans hC⟩
                case measure => simp [intOf]; omega
            · have e : rows.take k2 = rows := by rw [List.take_of_length_le]; have := HNrows.out; omega
              have hlt1 : ¬ (k2 : Int) < (n3 : Int) := by omega
              have hxo := HXS.out
              rw [e]
              clear e
              obtain ⟨cur, hcur⟩ : ∃ y, y = a6 ++ manyP prC rows := ⟨_, rfl⟩
              have hlc : cur.length = a6.length + (manyP prC rows).length := by rw [hcur, List.length_append]
              have hla := HLENa6.out
              have hsum : ¬ 9223372036854775807 < (mkS cur).size + (mkS tk).size := by rw [mkS_size, mkS_size]; omega
              have HADD := Lib.hid (mkS_add cur tk)
              have HEND := Lib.hid (show cur ++ tk = t0 ++ (tq ++ (ta ++ (tb ++ (tt ++ ((x1 ++ manyP num nums) ++ (t2 ++ ((x3 ++ manyP prC rows) ++ tk))))))) by rw [hcur, HDEFa6.out, HDEFa3.out]; simp only [List.append_assoc])
              rw [← hcur]
              have HLD := Lib.hid (load_sub HBW2.out (o := 8) [.slice B1 m1 d1, .slice B2 m2 d2, .int .i64 status, .string (mkS flags), .slice B3 m3 d3, .slice B4 m4 d4, .slice B5 m5 d5] rfl Try.underlying55 rfl (by kernel_rfl))
              clear hxo hla hlc hcur hlt
              go_wp2_with (first
                | (refine wpList_loadRun rfl 55 (.tmp 80) rfl _ _ rfl HLD.out ?_)
                | (go_at_call 17; (with_reducible refine (Htk.out _ HLW2.out).mono ?_); rintro e w2 ⟨rfl, hb2⟩; have HB2 := Lib.hid (HLW2.out.trans hb2); clear hb2))
              go_ret
              refine ⟨?_, HB2.out⟩
              show Ending.returned (.string (mkS cur ++ mkS tk)) = _
              rw [HADD.out, HEND.out]
              try simp only [List.append_assoc]
end Ks
end Go.Proofs.Yteljmlodbnfhbaa
