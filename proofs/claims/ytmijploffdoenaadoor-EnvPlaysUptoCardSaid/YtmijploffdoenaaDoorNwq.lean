/- Set. No premises. -/
import Derived.Test.YtmijploffdoenaaDoorEf
namespace Go.Proofs.YtmijploffdoenaaDoor
open Go.RowKit Go.Maps
namespace En
theorem Cx.insert {W : World} {b0 b1 b2 b3 : Value} {vs : Vs} {n0 : Nat} {mk : Vs → E} (h : Cx W b0 b1 b2 b3 vs n0 mk) (g gv i : Nat) (x : B × B) (hi : i ≤ n0) (W' : World) (hp : PrB W' g vs []) (hv : PrB W' gv [x] []) : Calls Tryd.prog 28 #[.slice (some ⟨g, 0, none⟩) n0 n0, .int .i64 (i : Int), .slice (some ⟨gv, 0, none⟩) 1 1] W' fun e W'' => InsOk W' W'' e (vs.take i ++ x :: vs.drop i) := by
  have h1 := h.few
  rw [h.len] at h1 hi ⊢
  exact insert_v g gv vs x i hi W' hp hv (by omega)
/-- A value written at its place, in a row of the call's own. -/
theorem wrote {W w : World} {b0 b1 b2 b3 : Value} {g k : Nat} {ls fs : Vs} {z : List Value} {y : B} (hb : Bx W w b0 b1 b2 b3) (hp : PrB w g ls z) (hg : W.heap.size + 1 < g) (hk : k < ls.length) (hf : fs = ls.take k ++ (ls[k].1, y) :: ls.drop (k + 1)) : ∃ w7, w7 = w.setCell ⟨g, k * 2 + 1, none⟩ (.string (mkS y)) ∧ Bx W w7 b0 b1 b2 b3 ∧ PrB w7 g fs z ∧ fs.length = ls.length := by
  refine ⟨_, rfl, hb.set (set_only _ _ _ _) hg, by rw [hf]; exact hp.value hk y, ?_⟩
  rw [hf, List.length_append, List.length_cons, List.length_take, List.length_drop]; omega
set_option maxRecDepth 100000 in
set_option maxHeartbeats 6400000 in
theorem set_v (va : Value) (e : E) (s y : B) (W : World) (h : RdE W va e) (hr : Rises e.vars) (hn : e.vars.length ≤ 999998) (ha : e.args.length ≤ 1000000) (hs : s.length ≤ 2000000) : Calls Tryd.prog 8 #[va, .string (mkS s), .string (mkS y)] W fun x W' => Told W W' x (set nm e s y) := by
  have HNM := Lib.hid (fun W => Ar.name_v s hs W)
  obtain ⟨Av, n0, cv, A, n, c, st, fl, rfl, hcx⟩ := Cx.of h hr (by omega) ha
  have HCX := Lib.hid hcx
  have HB := Lib.hid (Bx.new W (.slice Av n0 cv) (.slice A n c) (.int .i64 st) (.string fl))
  have hn0 : n0 ≤ 999998 := by rw [hcx.len]; exact hn
  obtain ⟨b, hb⟩ : ∃ b, b = Ar.nameB s := ⟨_, rfl⟩
  rw [← hb] at HNM
  have HNB := Lib.hid hb
  clear h hcx hr hn ha hs hb
  go_enter Tryd.func8, Tryd.ntmps8
  go_wp2_with fail
  go_at_call 24
  with_reducible refine (HCX.out.vars _ HB.out.low).mono ?_
  rintro x w3 ⟨⟨g, rfl, hg, hp⟩, hl3⟩
  have hs2 := lt_of_block HB.out.rs
  have HG := Lib.hid (show W.heap.size + 1 < g by omega)
  have HP := Lib.hid hp
  have HB3 := Lib.hid (HB.out.later hl3)
  clear hg hp hl3 hs2
  go_wp2_with fail
  go_at_call 25
  with_reducible refine (HNM.out _).mono ?_
  rintro x w4 ⟨rfl, hl4⟩
  have HB4 := Lib.hid (HB3.out.later hl4)
  have HP4 := Lib.hid (HP.out.later hl4)
  clear hl4
  cases b with
  | false =>
    obtain ⟨q0, q1, q2, q3⟩ := HB4.out.c
    have HRD := Lib.hid (HP4.out.rd (c := n0) (by have := HCX.out.len; omega) (by omega))
    rw [← HCX.out.len] at HRD
    go_wp2_with (go_at_call 29; (with_reducible refine (HCX.out.made _ _ _ HB4.out.low HRD.out (by have := HCX.out.len; omega)).mono ?_); rintro x w8 ⟨⟨v, rfl, hf⟩, hl8⟩; (have HF := Lib.hid hf); obtain ⟨v0, A4, n4, c4, rfl, hv4, _⟩ := hf.rd; obtain ⟨A5, c5, rfl, _⟩ := hv4.le; (have HB5 := Lib.hid (HB4.out.later hl8)); obtain ⟨r0, r1, r2, r3, r4⟩ := HB5.out.r; clear hf hl8 hv4)
    have hs5 := lt_of_block HB4.out.rs
    obtain ⟨w9, hw9, hl9, hr9, hf9⟩ := HB5.out.tell HF.out hs5
    rw [← hw9]
    refine bodyPost_ret (results_Env rfl _ _ (W.heap.size + 1) _ (0, 0) rfl hr9 rfl) rfl ?_
    have e1 : set nm e s y = { e with vars := e.vars } := by unfold set; rw [if_neg (fun h => by have h2 : true = false := (HNB.out.trans h).symm; cases h2)]
    rw [e1]
    exact ⟨⟨_, rfl, hf9.less (by omega)⟩, hl9⟩
  | true =>
    go_wp2_with fail
    go_at_call 26
    with_reducible refine (HCX.out.search s g _ HP4.out).mono ?_
    rintro x w5 ⟨⟨k, b, rfl, hpl⟩, hl5⟩
    have HPL := Lib.hid hpl
    have HB5 := Lib.hid (HB4.out.later hl5)
    have HP5 := Lib.hid (HP4.out.later hl5)
    have hkn : k ≤ n0 := by have := hpl.1; have := HCX.out.len; omega
    have hk0 : (0 : Int) ≤ (k : Int) := by omega
    clear hl5 hpl
    cases b with
    | true =>
      obtain ⟨hk, hks, hse, _⟩ := set_old y HPL.out HCX.out.rises
      obtain ⟨fs, hfs⟩ : ∃ fs, fs = setV e.vars s y := ⟨_, rfl⟩
      have HFS := Lib.hid hfs
      obtain ⟨w7, hw7, hb7, hp7, hln⟩ := wrote (y := y) (fs := fs) HB5.out HP5.out HG.out hk (by rw [hfs, hse, hks])
      have HW7 := Lib.hid hw7
      have HB7 := Lib.hid hb7
      have HLN := Lib.hid (show fs.length = n0 by rw [hln, HCX.out.len])
      have hrd := hp7.rd (c := n0) (by rw [HLN.out]; exact Nat.le_refl _) (by omega)
      rw [HLN.out] at hrd
      have HRD := Lib.hid hrd
      have hk1 : (k : Int) < (n0 : Int) := by have := HCX.out.len; omega
      obtain ⟨yv, qv⟩ : ∃ yv, w5.cell? ⟨g, k * 2 + 1, none⟩ = some (.string yv) := ⟨_, (HP5.out.cells k hk).2⟩
      have qz : w5.frozen? ⟨g, k * 2 + 1, none⟩ = false := (cell_row HP5.out _).2
      obtain ⟨q0, q1, q2, q3⟩ := HB7.out.c
      have HQ := Lib.hid (And.intro q0 (And.intro q1 (And.intro q2 q3)))
      obtain ⟨p0, p1, p2, p3⟩ := HB5.out.c
      clear hk hks hse hfs hw7 hb7 hp7 hln hrd q0 q1 q2 q3
      have HNE := Lib.hid (show ∀ j, (⟨W.heap.size, j, none⟩ : Addr) ≠ ⟨g, k * 2 + 1, none⟩ from fun j h => by injection h with h; have := HG.out; omega)
      have hgn : ¬ W.heap.size = g := by have := HG.out; omega
      have hgn2 : ¬ g = W.heap.size := by have := HG.out; omega
      go_wp2_with fail
      rw [← HW7.out]
      clear p0 p1 p2 p3 qv qz
      go_at_call 29
      with_reducible refine (HCX.out.made _ _ _ HB7.out.low HRD.out (by rw [HLN.out]; omega)).mono ?_
      rintro x w8 ⟨⟨v, rfl, hf⟩, hl8⟩
      have HF := Lib.hid hf
      obtain ⟨v0, A4, n4, c4, rfl, hv4, _⟩ := hf.rd
      obtain ⟨A5, c5, rfl, _⟩ := hv4.le
      have HB8 := Lib.hid (HB7.out.later hl8)
      obtain ⟨r0, r1, r2, r3, r4⟩ := HB8.out.r
      clear hf hl8 hv4
      go_wp2
      have hs5 := lt_of_block HB7.out.rs
      obtain ⟨w9, hw9, hl9, hr9, hf9⟩ := HB8.out.tell HF.out hs5
      rw [← hw9]
      refine bodyPost_ret (results_Env rfl _ _ (W.heap.size + 1) _ (0, 0) rfl hr9 rfl) rfl ?_
      have e1 : set nm e s y = { e with vars := fs } := by unfold set; rw [if_pos HNB.out.symm, HFS.out]
      rw [e1]
      exact ⟨⟨_, rfl, hf9.less (by omega)⟩, hl9⟩
    | false =>
      have HIN := Lib.hid (HCX.out.insert g w5.heap.size k (s, []) hkn (w5.alloc (.cells #[.string (mkS s), .string ⟨#[]⟩] 62)) (HP5.out.later (Later.alloc _ _)) (lit_pair w5 (s, [])))
      have HBA := Lib.hid (HB5.out.later (Later.alloc w5 (.cells #[.string (mkS s), .string ⟨#[]⟩] 62)))
      have hll : (e.vars.take k ++ (s, []) :: e.vars.drop k).length = n0 + 1 := by have := HCX.out.len; rw [List.length_append, List.length_cons, List.length_take, List.length_drop]; omega
      obtain ⟨ls, hls⟩ : ∃ ls, ls = e.vars.take k ++ (s, []) :: e.vars.drop k := ⟨_, rfl⟩
      rw [← hls] at HIN hll
      have HLS := Lib.hid hls
      have HLL := Lib.hid hll
      have HSV := Lib.hid (set_new y HPL.out HCX.out.rises)
      clear hls hll
      go_wp2_with fail
      go_at_call 28
      with_reducible refine HIN.out.mono ?_
      rintro x w6 ⟨⟨g6, c6, z, rfl, hp6, hc6, hc7, hg6⟩, hl6⟩
      have HB6 := Lib.hid (HBA.out.later hl6)
      have hs6 := lt_of_block HBA.out.rs
      have HG6 := Lib.hid (show W.heap.size + 1 < g6 by omega)
      have hk : k < ls.length := by rw [HLL.out]; omega
      obtain ⟨fs, hfs⟩ : ∃ fs, fs = setV e.vars s y := ⟨_, rfl⟩
      have HFS := Lib.hid hfs
      have hfs2 : fs = ls.take k ++ (ls[k].1, y) :: ls.drop (k + 1) := by
        have htk : (e.vars.take k).length = k := by have := HCX.out.len; rw [List.length_take]; omega
        have h1 : ls.take k = e.vars.take k := by rw [HLS.out, List.take_append_of_le_length (by omega), List.take_of_length_le (by omega)]
        have h2 : ls[k].1 = s := by
          have h3 : ls[k]? = some (s, []) := by rw [HLS.out, List.getElem?_append_right (by omega), htk, Nat.sub_self]; rfl
          rw [List.getElem?_eq_getElem hk] at h3
          injection h3 with h3
          rw [h3]
        have h4 : ls.drop (k + 1) = e.vars.drop k := by
          rw [HLS.out, List.drop_append, List.drop_of_length_le (by omega), List.nil_append, htk, show k + 1 - k = 1 by omega]
          rfl
        rw [h1, h2, h4, hfs, HSV.out]
      obtain ⟨w7, hw7, hb7, hp7, hln⟩ := wrote (y := y) (fs := fs) HB6.out hp6 HG6.out hk hfs2
      have HW7 := Lib.hid hw7
      have HB7 := Lib.hid hb7
      have HLN := Lib.hid (show fs.length = n0 + 1 by rw [hln, HLL.out])
      have hrd := hp7.rd (c := c6) (by rw [hln]; exact hc6) hc7
      rw [HLN.out] at hrd
      have HRD := Lib.hid hrd
      have hk1 : (k : Int) < (n0 : Int) + 1 := by omega
      obtain ⟨yv, qv⟩ : ∃ yv, w6.cell? ⟨g6, k * 2 + 1, none⟩ = some (.string yv) := ⟨_, (hp6.cells k hk).2⟩
      have qz : w6.frozen? ⟨g6, k * 2 + 1, none⟩ = false := (cell_row hp6 _).2
      obtain ⟨q0, q1, q2, q3⟩ := HB7.out.c
      have HQ := Lib.hid (And.intro q0 (And.intro q1 (And.intro q2 q3)))
      obtain ⟨p0, p1, p2, p3⟩ := HB6.out.c
      rw [HLL.out]
      clear hk hfs2 hfs hw7 hb7 hp7 hln hrd q0 q1 q2 q3 hp6 hg6 hl6 hs6 hc6 hc7
      have hgn : ¬ W.heap.size = g6 := by have := HG6.out; omega
      have hgn2 : ¬ g6 = W.heap.size := by have := HG6.out; omega
      go_wp2_with fail
      rw [← HW7.out]
      clear p0 p1 p2 p3 qv qz
      go_at_call 29
      with_reducible refine (HCX.out.made _ _ _ HB7.out.low HRD.out (by rw [HLN.out]; omega)).mono ?_
      rintro x w8 ⟨⟨v, rfl, hf⟩, hl8⟩
      have HF := Lib.hid hf
      obtain ⟨v0, A4, n4, c4, rfl, hv4, _⟩ := hf.rd
      obtain ⟨A5, c5, rfl, _⟩ := hv4.le
      have HB8 := Lib.hid (HB7.out.later hl8)
      obtain ⟨r0, r1, r2, r3, r4⟩ := HB8.out.r
      clear hf hl8 hv4
      go_wp2
      have hs5 := lt_of_block HB7.out.rs
      obtain ⟨w9, hw9, hl9, hr9, hf9⟩ := HB8.out.tell HF.out hs5
      rw [← hw9]
      refine bodyPost_ret (results_Env rfl _ _ (W.heap.size + 1) _ (0, 0) rfl hr9 rfl) rfl ?_
      have e1 : set nm e s y = { e with vars := fs } := by unfold set; rw [if_pos HNB.out.symm, HFS.out]
      rw [e1]
      exact ⟨⟨_, rfl, hf9.less (by omega)⟩, hl9⟩
end En
end Go.Proofs.YtmijploffdoenaaDoor
