/- Set. No premises. -/
import Derived.Test.YtmijploffdoenaaDoorEe
namespace Go.Proofs.YtmijploffdoenaaDoor
open Go.RowKit Go.Maps
namespace En
theorem Bx.set {W w w' : World} {b0 b1 b2 b3 : Value} {x : Nat} (h : Bx W w b0 b1 b2 b3) (hg : w.grownBy w' (some x)) (hx : W.heap.size + 1 < x) : Bx W w' b0 b1 b2 b3 :=
  ⟨later_of_new h.low hg (by omega), grown_cells hg h.bx (by omega), grown_cells hg h.rs (by omega)⟩
/-- The value at a place is written. -/
theorem PrB.value {w : World} {g : Nat} {l : Vs} {z : List Value} (h : PrB w g l z) {k : Nat} (hk : k < l.length) (y : B) : PrB (w.setCell ⟨g, k * 2 + 1, none⟩ (.string (mkS y))) g (l.take k ++ (l[k].1, y) :: l.drop (k + 1)) z := by
  unfold PrB
  rw [set_row h]
  have hA : (prs (l.take k)).length = k * 2 := by rw [prs_len, List.length_take]; omega
  have hl : l = l.take k ++ l[k] :: l.drop (k + 1) := by
    rw [← List.drop_eq_getElem_cons hk, List.take_append_drop]
  have e : ∀ b : B, prs (l.take k ++ (l[k].1, b) :: l.drop (k + 1)) = prs (l.take k) ++ ([.string (mkS l[k].1), .string (mkS b)] ++ prs (l.drop (k + 1))) := fun b => by
    rw [prs_app]; rfl
  have e0 : prs l = prs (l.take k) ++ ([.string (mkS l[k].1), .string (mkS l[k].2)] ++ prs (l.drop (k + 1))) := (congrArg prs hl).trans (e l[k].2)
  rw [e y, e0]
  congr 2
  apply Array.ext'
  rw [Array.toList_setIfInBounds]
  show List.set _ _ _ = _
  rw [List.append_assoc, List.set_append_right _ _ (by omega), hA, show k * 2 + 1 - k * 2 = 1 by omega, List.append_assoc]
  show _ = prs (l.take k) ++ ([.string (mkS l[k].1), .string (mkS y)] ++ prs (l.drop (k + 1))) ++ z
  rw [List.append_assoc, List.append_assoc]
  rfl
theorem place_lt {vs : Vs} {s : B} {k : Nat} {b : Bool} (h : Place vs s k b) : ∀ q ∈ vs.take k, q.1 < s := fun q hq => by
  obtain ⟨j, hj, rfl⟩ := List.mem_iff_getElem.1 hq
  rw [List.length_take] at hj
  rw [List.getElem_take]
  exact h.2.1 j (by omega) (by omega)
theorem place_gt {vs : Vs} {s : B} {k : Nat} {b : Bool} (h : Place vs s k b) {m : Nat} (hm : k ≤ m) (hne : ∀ j (hj : j < vs.length), m ≤ j → vs[j].1 ≠ s) : ∀ q ∈ vs.drop m, s < q.1 := fun q hq => by
  obtain ⟨j, hj, rfl⟩ := List.mem_iff_getElem.1 hq
  rw [List.length_drop] at hj
  rw [List.getElem_drop]
  exact lt_of (h.2.2.1 (m + j) (by omega) (by omega)) (hne (m + j) (by omega) (by omega))
/-- Put in where there is none of that name. -/
theorem set_new {vs : Vs} {s : B} {k : Nat} (y : B) (h : Place vs s k false) (hr : Rises vs) : setV vs s y = vs.take k ++ (s, y) :: vs.drop k := by
  have hne : ∀ j (hj : j < vs.length), k ≤ j → vs[j].1 ≠ s := fun j hj hkj e => by
    rcases Nat.lt_or_ge k j with h1 | h1
    · have h2 := rises_at hr (by omega) hj h1
      rw [e] at h2
      exact h.2.2.1 k (by omega) (Nat.le_refl _) h2
    · have e2 : j = k := by omega
      subst e2
      have := h.2.2.2.2 ⟨hj, e⟩
      cases this
  have := set_split (a := vs.take k) (m := []) (b := vs.drop k) y (place_lt h) (place_gt h (Nat.le_refl _) hne) (.inl rfl)
  rwa [List.append_nil, List.take_append_drop] at this
/-- Written over where there is one. -/
theorem set_old {vs : Vs} {s : B} {k : Nat} (y : B) (h : Place vs s k true) (hr : Rises vs) : ∃ hk : k < vs.length, vs[k].1 = s ∧ setV vs s y = vs.take k ++ (s, y) :: vs.drop (k + 1) ∧ unset vs s = vs.take k ++ vs.drop (k + 1) := by
  obtain ⟨hk, e⟩ := h.2.2.2.1 rfl
  have hne : ∀ j (hj : j < vs.length), k + 1 ≤ j → vs[j].1 ≠ s := fun j hj hkj e2 => by
    have h2 := rises_at hr hk hj (by omega)
    rw [e, e2] at h2
    exact lt_irrefl _ h2
  have hl : vs.take k ++ [(s, vs[k].2)] ++ vs.drop (k + 1) = vs := by
    rw [← e, List.append_assoc]
    show vs.take k ++ (vs[k] :: vs.drop (k + 1)) = vs
    rw [← List.drop_eq_getElem_cons hk, List.take_append_drop]
  have h1 := set_split (a := vs.take k) (m := [(s, vs[k].2)]) (b := vs.drop (k + 1)) y (place_lt h) (place_gt h (by omega) hne) (.inr ⟨_, rfl⟩)
  have h2 := unset_split (a := vs.take k) (m := [(s, vs[k].2)]) (b := vs.drop (k + 1)) (place_lt h) (place_gt h (by omega) hne) (.inr ⟨_, rfl⟩)
  rw [hl] at h1 h2
  exact ⟨hk, e, h1, h2⟩
theorem unset_none {vs : Vs} {s : B} {k : Nat} (h : Place vs s k false) (hr : Rises vs) : unset vs s = vs := unset_of fun q hq e => by
  obtain ⟨j, hj, rfl⟩ := List.mem_iff_getElem.1 hq
  rcases Nat.lt_or_ge j k with h1 | h1
  · have := h.2.1 j hj h1
    rw [e] at this
    exact lt_irrefl _ this
  · rcases Nat.lt_or_ge k j with h3 | h3
    · have h2 := rises_at hr (by omega) hj h3
      rw [e] at h2
      exact h.2.2.1 k (by omega) (Nat.le_refl _) h2
    · have e2 : j = k := by omega
      subst e2
      have := h.2.2.2.2 ⟨hj, e⟩
      cases this
end En
end Go.Proofs.YtmijploffdoenaaDoor
/- Set and Unset. No premises. -/
namespace Go.Proofs.YtmijploffdoenaaDoor
open Go.RowKit Go.Maps
namespace En
/-- An Env's box and what its methods' calls give, in any later world. -/
structure Cx (W : World) (b0 b1 b2 b3 : Value) (vs : Vs) (n0 : Nat) (mk : Vs → E) : Prop where
  vars : ∀ W', Later W W' → Calls Tryd.prog 24 #[.agg #[b0, b1, b2, b3]] W' fun x W'' => (∃ g, x = .returned (.slice (some ⟨g, 0, none⟩) n0 n0) ∧ W'.heap.size ≤ g ∧ PrB W'' g vs []) ∧ Later W' W''
  made : ∀ W' lv ls, Later W W' → RdP W' W'.heap.size lv ls → ls.length ≤ 1000000 → Calls Tryd.prog 29 #[.agg #[b0, b1, b2, b3], lv] W' fun x W'' => Told W' W'' x (mk ls)
  len : n0 = vs.length
  few : n0 ≤ 999999
  rises : Rises vs
theorem Cx.of {W : World} {va : Value} {e : E} (h : RdE W va e) (hr : Rises e.vars) (hn : e.vars.length ≤ 999999) (ha : e.args.length ≤ 1000000) : ∃ Av n0 cv A n c st fl, va = .agg #[.slice Av n0 cv, .slice A n c, .int .i64 st, .string fl] ∧ Cx W (.slice Av n0 cv) (.slice A n c) (.int .i64 st) (.string fl) e.vars n0 (fun ls => { e with vars := ls }) := by
  have hh := h
  obtain ⟨v0, A, n, c, rfl, hv, hr', hc1, hc2⟩ := h
  obtain ⟨Av, cv, rfl, _⟩ := hv.le
  exact ⟨Av, _, cv, A, n, c, _, _, rfl, fun W' hl => variables_v _ _ e.vars _ _ W' (hv.later hl) (by omega), fun W' lv ls hl h1 h2 => with_v _ lv e ls W' (hh.later hl) h1 h2 ha, rfl, hn, hr⟩
/-- The search at a row of the call's own. -/
theorem Cx.search {W : World} {b0 b1 b2 b3 : Value} {vs : Vs} {n0 : Nat} {mk : Vs → E} (h : Cx W b0 b1 b2 b3 vs n0 mk) (s : B) (g : Nat) (W' : World) (hp : PrB W' g vs []) : Calls Tryd.prog 26 #[.slice (some ⟨g, 0, none⟩) n0 n0, .string (mkS s), .func (.func 27) #[] #[]] W' fun e W'' => SrOk vs s e ∧ Later W' W'' := by
  have h1 := h.few
  rw [h.len] at h1 ⊢
  exact search_v g vs s [] W' hp h.rises (by omega)
theorem Cx.delete {W : World} {b0 b1 b2 b3 : Value} {vs : Vs} {n0 : Nat} {mk : Vs → E} (h : Cx W b0 b1 b2 b3 vs n0 mk) (g i : Nat) (hi : i < vs.length) (W' : World) (hp : PrB W' g vs []) : Calls Tryd.prog 31 #[.slice (some ⟨g, 0, none⟩) n0 n0, .int .i64 (i : Int), .int .i64 ((i : Int) + 1)] W' fun e W'' => (∃ z, e = .returned (.slice (some ⟨g, 0, none⟩) (n0 - 1) n0) ∧ PrB W'' g (vs.take i ++ vs.drop (i + 1)) z) ∧ W'.grownBy W'' (some g) := by
  have h1 := h.few
  rw [h.len] at h1 ⊢
  exact delete_v g vs i hi W' hp (by omega)
set_option maxRecDepth 100000 in
set_option maxHeartbeats 6400000 in
theorem unset_v (va : Value) (e : E) (s : B) (W : World) (h : RdE W va e) (hr : Rises e.vars) (hn : e.vars.length ≤ 999999) (ha : e.args.length ≤ 1000000) : Calls Tryd.prog 10 #[va, .string (mkS s)] W fun x W' => Told W W' x (unsetE e s) := by
  obtain ⟨Av, n0, cv, A, n, c, st, fl, rfl, hcx⟩ := Cx.of h hr hn ha
  have HCX := Lib.hid hcx
  have HB := Lib.hid (Bx.new W (.slice Av n0 cv) (.slice A n c) (.int .i64 st) (.string fl))
  have hn0 := hcx.few
  clear h hcx hr hn ha
  go_enter Tryd.func10, Tryd.ntmps10
  go_wp2_with fail
  go_at_call 24
  with_reducible refine (HCX.out.vars _ HB.out.low).mono ?_
  rintro x w3 ⟨⟨g, rfl, hg, hp⟩, hl3⟩
  have hs2 := lt_of_block HB.out.rs
  have HG := Lib.hid (show W.heap.size + 1 < g by omega)
  have HP := Lib.hid hp
  have HB3 := Lib.hid (HB.out.later hl3)
  clear hg hp hl3 hs2
  go_wp2_with fail
  go_at_call 26
  with_reducible refine (HCX.out.search s g _ HP.out).mono ?_
  rintro x w4 ⟨⟨k, b, rfl, hpl⟩, hl4⟩
  have HPL := Lib.hid hpl
  have HB4 := Lib.hid (HB3.out.later hl4)
  have HP4 := Lib.hid (HP.out.later hl4)
  have hkn : k ≤ n0 := by have := hpl.1; have := HCX.out.len; omega
  obtain ⟨q0, q1, q2, q3⟩ := HB4.out.c
  clear hl4 hpl
  cases b with
  | false =>
    have HRD := Lib.hid (HP4.out.rd (c := n0) (by have := HCX.out.len; omega) (by omega))
    rw [← HCX.out.len] at HRD
    go_wp2_with (go_at_call 29; (with_reducible refine (HCX.out.made _ _ _ HB4.out.low HRD.out (by have := HCX.out.len; omega)).mono ?_); rintro x w5 ⟨⟨v, rfl, hf⟩, hl5⟩; (have HF := Lib.hid hf); obtain ⟨v0, A4, n4, c4, rfl, hv4, _⟩ := hf.rd; obtain ⟨A5, c5, rfl, _⟩ := hv4.le; (have HB5 := Lib.hid (HB4.out.later hl5)); obtain ⟨r0, r1, r2, r3, r4⟩ := HB5.out.r; clear hf hl5 hv4)
    have hs5 := lt_of_block HB4.out.rs
    obtain ⟨w9, hw9, hl9, hr9, hf9⟩ := HB5.out.tell HF.out hs5
    rw [← hw9]
    refine bodyPost_ret (results_Env rfl _ _ (W.heap.size + 1) _ (0, 0) rfl hr9 rfl) rfl ?_
    have e1 : unsetE e s = { e with vars := e.vars } := by unfold unsetE; rw [unset_none HPL.out HCX.out.rises]
    rw [e1]
    exact ⟨⟨_, rfl, hf9.less (by omega)⟩, hl9⟩
  | true =>
    obtain ⟨hk, hks, _, hun⟩ := set_old [] HPL.out HCX.out.rises
    have HUN := Lib.hid hun
    have HDE := Lib.hid (HCX.out.delete g k hk w4 HP4.out)
    have hk1 : (k : Int) < (n0 : Int) := by have := HCX.out.len; omega
    have hk0 : (0 : Int) ≤ (k : Int) := by omega
    have hll : (e.vars.take k ++ e.vars.drop (k + 1)).length = n0 - 1 := by have := HCX.out.len; rw [List.length_append, List.length_take, List.length_drop]; omega
    obtain ⟨ls, hls⟩ : ∃ ls, ls = e.vars.take k ++ e.vars.drop (k + 1) := ⟨_, rfl⟩
    rw [← hls] at HDE HUN hll
    have HLL := Lib.hid hll
    clear hk hks hun hll hls
    go_wp2_with (first
      | (go_at_call 31; (with_reducible refine (HDE.out).mono ?_); rintro x w6 ⟨⟨z, rfl, hp6⟩, hg6⟩; (have HB6 := Lib.hid (HB4.out.set hg6 HG.out)); (have hrd := PrB.rd hp6 (c := n0) (by rw [HLL.out]; omega) (by omega)); rw [HLL.out] at hrd; (have HRD := Lib.hid hrd); clear q0 q1 q2 q3; obtain ⟨q0, q1, q2, q3⟩ := HB6.out.c; clear hp6 hg6 hrd)
      | (go_at_call 29; (with_reducible refine (HCX.out.made _ _ _ HB6.out.low HRD.out (by rw [HLL.out]; omega)).mono ?_); rintro x w5 ⟨⟨v, rfl, hf⟩, hl5⟩; (have HF := Lib.hid hf); obtain ⟨v0, A4, n4, c4, rfl, hv4, _⟩ := hf.rd; obtain ⟨A5, c5, rfl, _⟩ := hv4.le; (have HB5 := Lib.hid (HB6.out.later hl5)); obtain ⟨r0, r1, r2, r3, r4⟩ := HB5.out.r; clear hf hl5 hv4))
    have hs5 := lt_of_block HB6.out.rs
    obtain ⟨w9, hw9, hl9, hr9, hf9⟩ := HB5.out.tell HF.out hs5
    rw [← hw9]
    refine bodyPost_ret (results_Env rfl _ _ (W.heap.size + 1) _ (0, 0) rfl hr9 rfl) rfl ?_
    have e1 : unsetE e s = { e with vars := ls } := by unfold unsetE; rw [HUN.out]
    rw [e1]
    exact ⟨⟨_, rfl, hf9.less (by omega)⟩, hl9⟩
end En
end Go.Proofs.YtmijploffdoenaaDoor
