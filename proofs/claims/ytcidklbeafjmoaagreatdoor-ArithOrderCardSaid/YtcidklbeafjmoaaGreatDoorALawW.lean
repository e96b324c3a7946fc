/- ArithLaws: its walk. No premises. -/
import Derived.Test.YtcidklbeafjmoaaGreatDoorAzd
namespace Go.Proofs.YtcidklbeafjmoaaGreatDoor
open Go.RowKit Go.Maps
namespace Ar
/-- Three variables, and their numbers. -/
def vs3 (x y z : Int) : Vars := [([120], numT x), ([121], numT y), ([122], numT z)]
def In (x : Int) : Prop := -9223372036854775808 < x ∧ x < 9223372036854775808
theorem look3 {x y z : Int} (hx : In x) (hy : In y) (hz : In z) : look (vs3 x y z) [120] = some x ∧ look (vs3 x y z) [121] = some y ∧ look (vs3 x y z) [122] = some z :=
  ⟨numV_own x hx.1 hx.2, numV_own y hy.1 hy.2, numV_own z hz.1 hz.2⟩
theorem vars3 (W : World) (N : Nat) (hN : N = W.heap.size) {x y z : Int} (hx : In x) (hy : In y) (hz : In z) : Vars0 (W.alloc (.cells #[.string ⟨#[120]⟩, .string (mkS (numT x)), .string ⟨#[121]⟩, .string (mkS (numT y)), .string ⟨#[122]⟩, .string (mkS (numT z))] 25)) (.slice (some ⟨N, 0, none⟩) 3 3) (vs3 x y z) := by
  subst hN
  refine ⟨.inr ⟨W.heap.size, rfl, heap_alloc_new W _⟩, fun p hp => ?_, by show (3 : Nat) ≤ 4000; omega⟩
  have hl := fun (a : Int) (ha : In a) => (numT_ok a ha.1 ha.2).2
  simp only [vs3, List.mem_cons, List.not_mem_nil, or_false] at hp
  rcases hp with rfl | rfl | rfl
  · have := hl x hx; exact ⟨by show (1 : Nat) ≤ 4000; omega, by dsimp only; omega⟩
  · have := hl y hy; exact ⟨by show (1 : Nat) ≤ 4000; omega, by dsimp only; omega⟩
  · have := hl z hz; exact ⟨by show (1 : Nat) ≤ 4000; omega, by dsimp only; omega⟩
namespace Laws
def p0 : E := .bin [61, 61] (.bin [42] (.var [120]) (.par (.bin [43] (.var [121]) (.var [122])))) (.bin [43] (.bin [42] (.var [120]) (.var [121])) (.bin [42] (.var [120]) (.var [122])))
def p1 : E := .bin [61, 61] (.bin [45] (.par (.bin [43] (.var [120]) (.var [121]))) (.var [121])) (.var [120])
def p2 : E := .bin [61, 61] (.par (.bin [94] (.par (.bin [94] (.var [120]) (.var [121]))) (.var [121]))) (.var [120])
def p3 : E := .bin [61, 61] (.un [126] (.var [120])) (.bin [45] (.un [45] (.var [120])) (.num [49] 1))
def p4 : E := .bin [61, 61] (.un [33] (.par (.bin [60] (.var [120]) (.var [121])))) (.par (.bin [60, 61] (.var [121]) (.var [120])))
def p5 : E := .bin [61, 61] (.par (.bin [33, 61] (.var [120]) (.var [121]))) (.par (.bin [124, 124] (.bin [60] (.var [120]) (.var [121])) (.bin [60] (.var [121]) (.var [120]))))
def big : E := .bin [38, 38] (.bin [38, 38] (.bin [38, 38] (.bin [38, 38] (.bin [38, 38] p0 p1) p2) p3) p4) p5
def sec : E := .cond (.var [121]) (.bin [61, 61] (.bin [43] (.bin [42] (.bin [47] (.var [120]) (.var [121])) (.var [121])) (.bin [37] (.var [120]) (.var [121]))) (.var [120])) (.num [49] 1)
section
variable {x y z : Int}
theorem okv (hx : In x) (hy : In y) (hz : In z) : (nameB [120] = true ∧ (look (vs3 x y z) [120]).isSome = true) ∧ (nameB [121] = true ∧ (look (vs3 x y z) [121]).isSome = true) ∧ (nameB [122] = true ∧ (look (vs3 x y z) [122]).isSome = true) := by
  obtain ⟨h1, h2, h3⟩ := look3 hx hy hz
  rw [h1, h2, h3]
  exact ⟨⟨by decide, rfl⟩, ⟨by decide, rfl⟩, ⟨by decide, rfl⟩⟩
theorem names_ok (hx : In x) (hy : In y) (hz : In z) : ∀ t ∈ ([[120], [121], [122]] : List L), nameB t = true ∧ (look (vs3 x y z) t).isSome = true := by
  obtain ⟨h1, h2, h3⟩ := okv hx hy hz
  intro t ht
  simp only [List.mem_cons, List.not_mem_nil, or_false] at ht
  rcases ht with rfl | rfl | rfl
  · exact h1
  · exact h2
  · exact h3
theorem ok_big (hx : In x) (hy : In y) (hz : In z) : ok (vs3 x y z) big 0 0 := ok_of (names_ok hx hy hz) big 0 0 (by decide +kernel)
theorem ok_sec (hx : In x) (hy : In y) (hz : In z) : ok (vs3 x y z) sec 0 0 := ok_of (names_ok hx hy hz) sec 0 0 (by decide +kernel)
theorem lx_big : Lx [120, 42, 40, 121, 43, 122, 41, 61, 61, 120, 42, 121, 43, 120, 42, 122, 32, 38, 38, 32, 40, 120, 43, 121, 41, 45, 121, 61, 61, 120, 32, 38, 38, 32, 40, 40, 120, 94, 121, 41, 94, 121, 41, 61, 61, 120, 32, 38, 38, 32, 126, 120, 61, 61, 45, 120, 45, 49, 32, 38, 38, 32, 33, 40, 120, 60, 121, 41, 61, 61, 40, 121, 60, 61, 120, 41, 32, 38, 38, 32, 40, 120, 33, 61, 121, 41, 61, 61, 40, 120, 60, 121, 124, 124, 121, 60, 120, 41] (toks big) := lx_of (n := 100) (by decide +kernel)
theorem lx_sec : Lx [121, 32, 63, 32, 120, 47, 121, 42, 121, 43, 120, 37, 121, 61, 61, 120, 32, 58, 32, 49] (toks sec) := lx_of (n := 100) (by decide +kernel)
theorem get3 (hx : In x) (hy : In y) (hz : In z) : (look (vs3 x y z) [120]).getD 0 = x ∧ (look (vs3 x y z) [121]).getD 0 = y ∧ (look (vs3 x y z) [122]).getD 0 = z := by
  obtain ⟨h1, h2, h3⟩ := look3 hx hy hz
  rw [h1, h2, h3]
  exact ⟨rfl, rfl, rfl⟩
theorem one_iff {b : Bool} (h : b = true) : bit b = 1 := by rw [h]; rfl
theorem and_one {a b : Int} (ha : a = 1) (hb : b = 1) : op2 [38, 38] a b = 1 := by rw [ha, hb]; rfl
theorem eq_one {a b : Int} (h : a = b) : op2 [61, 61] a b = 1 := by rw [h]; show bit (b == b) = 1; rw [beq_self_eq_true]; rfl
theorem va_big (hx : In x) (hy : In y) (hz : In z) : va (vs3 x y z) big = 1 := by
  obtain ⟨g1, g2, g3⟩ := get3 hx hy hz
  have e1 : va (vs3 x y z) (.var [120]) = x := g1
  have e2 : va (vs3 x y z) (.var [121]) = y := g2
  have e3 : va (vs3 x y z) (.var [122]) = z := g3
  have q0 : va (vs3 x y z) p0 = 1 := eq_one (by
    show op2 [42] (va (vs3 x y z) (.var [120])) (op2 [43] (va (vs3 x y z) (.var [121])) (va (vs3 x y z) (.var [122]))) = op2 [43] (op2 [42] (va (vs3 x y z) (.var [120])) (va (vs3 x y z) (.var [121]))) (op2 [42] (va (vs3 x y z) (.var [120])) (va (vs3 x y z) (.var [122])))
    rw [e1, e2, e3]
    exact mul_add x y z)
  have q1 : va (vs3 x y z) p1 = 1 := eq_one (by
    show op2 [45] (op2 [43] (va (vs3 x y z) (.var [120])) (va (vs3 x y z) (.var [121]))) (va (vs3 x y z) (.var [121])) = va (vs3 x y z) (.var [120])
    rw [e1, e2]
    exact add_sub x y (by unfold In at hx; omega))
  have q2 : va (vs3 x y z) p2 = 1 := eq_one (by
    show op2 [94] (op2 [94] (va (vs3 x y z) (.var [120])) (va (vs3 x y z) (.var [121]))) (va (vs3 x y z) (.var [121])) = va (vs3 x y z) (.var [120])
    rw [e1, e2]
    exact xor_xor x y (by unfold In at hx; omega))
  have q3 : va (vs3 x y z) p3 = 1 := eq_one (by
    show op1 [126] (va (vs3 x y z) (.var [120])) = op2 [45] (op1 [45] (va (vs3 x y z) (.var [120]))) 1
    rw [e1]
    exact not_neg x hx)
  have q4 : va (vs3 x y z) p4 = 1 := by
    show op2 [61, 61] (op1 [33] (op2 [60] (va (vs3 x y z) (.var [120])) (va (vs3 x y z) (.var [121])))) (op2 [60, 61] (va (vs3 x y z) (.var [121])) (va (vs3 x y z) (.var [120]))) = 1
    rw [e1, e2]
    exact one_iff (not_lt x y)
  have q5 : va (vs3 x y z) p5 = 1 := by
    show op2 [61, 61] (op2 [33, 61] (va (vs3 x y z) (.var [120])) (va (vs3 x y z) (.var [121]))) (op2 [124, 124] (op2 [60] (va (vs3 x y z) (.var [120])) (va (vs3 x y z) (.var [121]))) (op2 [60] (va (vs3 x y z) (.var [121])) (va (vs3 x y z) (.var [120])))) = 1
    rw [e1, e2]
    exact one_iff (ne_lt x y)
  exact and_one (and_one (and_one (and_one (and_one q0 q1) q2) q3) q4) q5
theorem ev_big (hx : In x) (hy : In y) (hz : In z) : ev (vs3 x y z) big 0 0 = (1, 0) :=
  Prod.ext ((ev_fst _ _ _ _).trans (va_big hx hy hz)) (ev_snd _ big (by decide) 0 0)
theorem ev_sec_of {vs : Vars} {x y : Int} (h1 : (look vs [120]).getD 0 = x) (h2 : (look vs [121]).getD 0 = y) (hx : In x) : ev vs sec 0 0 = (1, 0) := by
  refine Prod.ext ((ev_fst _ _ _ _).trans ?_) ?_
  · show (if (look vs [121]).getD 0 != 0 then op2 [61, 61] (op2 [43] (op2 [42] (op2 [47] ((look vs [120]).getD 0) ((look vs [121]).getD 0)) ((look vs [121]).getD 0)) (op2 [37] ((look vs [120]).getD 0) ((look vs [121]).getD 0))) ((look vs [120]).getD 0) else 1) = 1
    rw [h1, h2]
    by_cases h : y = 0
    · rw [if_neg (by simp [h])]
    · rw [if_pos (by simp [h])]
      refine eq_one ?_
      show wrap64 (wrap64 (wrap64 (x.tdiv (if y = 0 then 1 else y)) * y) + x.tmod (if y = 0 then 1 else y)) = x
      rw [if_neg h]
      exact div_mod x y hx
  · by_cases h : y = 0
    · rw [h] at h2
      simp [sec, ev, h1, h2, needs]
    · simp [sec, ev, h1, h2, h, needs]
theorem ev_sec (hx : In x) (hy : In y) (hz : In z) : ev (vs3 x y z) sec 0 0 = (1, 0) := ev_sec_of (get3 hx hy hz).1 (get3 hx hy hz).2.1 hx
theorem ev_x (hx : In x) (hy : In y) (hz : In z) : ev (vs3 x y z) (.var [120]) 0 0 = (x, 0) := by
  obtain ⟨g1, g2, g3⟩ := get3 hx hy hz
  show ((look (vs3 x y z) [120]).getD 0, 0) = _
  rw [g1]
theorem evals {W : World} (hT : Tb0 W) {v : Value} (hx : In x) (hy : In y) (hz : In z) (hV : Vars0 W v (vs3 x y z)) : EvalIs W [120, 42, 40, 121, 43, 122, 41, 61, 61, 120, 42, 121, 43, 120, 42, 122, 32, 38, 38, 32, 40, 120, 43, 121, 41, 45, 121, 61, 61, 120, 32, 38, 38, 32, 40, 40, 120, 94, 121, 41, 94, 121, 41, 61, 61, 120, 32, 38, 38, 32, 126, 120, 61, 61, 45, 120, 45, 49, 32, 38, 38, 32, 33, 40, 120, 60, 121, 41, 61, 61, 40, 121, 60, 61, 120, 41, 32, 38, 38, 32, 40, 120, 33, 61, 121, 41, 61, 61, 40, 120, 60, 121, 124, 124, 121, 60, 120, 41] v 1 0 ∧ EvalIs W [121, 32, 63, 32, 120, 47, 121, 42, 121, 43, 120, 37, 121, 61, 61, 120, 32, 58, 32, 49] v 1 0 ∧ EvalIs W [120] v x 0 :=
  ⟨eval_is hT hV (by decide) big lx_big (ok_big hx hy hz) (ev_big hx hy hz), eval_is hT hV (by decide) sec lx_sec (ok_sec hx hy hz) (ev_sec hx hy hz), eval_is hT hV (by decide) (.var [120]) (lx_of (n := 9) (by decide +kernel)) (okv hx hy hz).1 (ev_x hx hy hz)⟩
end
end Laws
end Ar
namespace arithLaws
open Ar
set_option maxHeartbeats 3200000 in
set_option maxRecDepth 100000 in
theorem walkIn (w : World) (hg : Tb0 w) (x y z : Int) (hx : In x) (hy : In y) (hz : In z) : Calls Tryz.prog 3 #[.int .i64 x, .int .i64 y, .int .i64 z] w fun e w' => e = .returned (.bool true) ∧ Below w.heap.size w w' := by
  have HA := Lib.hid (awake_v w hg)
  have HG := Lib.hid hg
  have HX := Lib.hid (numT_ok x hx.1 hx.2).1
  have HY := Lib.hid (numT_ok y hy.1 hy.2).1
  have HZ := Lib.hid (numT_ok z hz.1 hz.2).1
  have HI := Lib.hid (And.intro hx (And.intro hy hz))
  have n1 : (x == -9223372036854775808) = false := by unfold In at hx; simp; omega
  have n2 : (y == -9223372036854775808) = false := by unfold In at hy; simp; omega
  have n3 : (z == -9223372036854775808) = false := by unfold In at hz; simp; omega
  clear hg hx hy hz
  go_enter Tryz.func3, Tryz.ntmps3
  go_wp2_with (first
    | (go_at_call 6; (with_reducible refine HA.out.mono ?_); rintro e w1 ⟨rfl, hl1⟩; have HL1 := Lib.hid hl1; clear hl1)
    | (go_at_call 7; (with_reducible refine (HX.out _).mono ?_); rintro e w2 ⟨rfl, hl2⟩; have HL2 := Lib.hid (HL1.out.trans hl2); clear hl2)
    | (go_at_call 7; (with_reducible refine (HY.out _).mono ?_); rintro e w3 ⟨rfl, hl3⟩; have HL3 := Lib.hid (HL2.out.trans hl3); clear hl3)
    | (go_at_call 7; (with_reducible refine (HZ.out _).mono ?_); rintro e w4 ⟨rfl, hl4⟩; have HL4 := Lib.hid (HL3.out.trans hl4); clear hl4)
    | (go_at_call 8; have hV5 := vars3 w4 w4.heap.size rfl HI.out.1 HI.out.2.1 HI.out.2.2; have hl5 := HL4.out.trans (Later.alloc w4 (.cells #[.string ⟨#[120]⟩, .string (mkS (numT x)), .string ⟨#[121]⟩, .string (mkS (numT y)), .string ⟨#[122]⟩, .string (mkS (numT z))] 25)); (with_reducible refine (evalC (Laws.evals (HG.out.later hl5) HI.out.1 HI.out.2.1 HI.out.2.2 hV5).1 ⟨#[120, 42, 40, 121, 43, 122, 41, 61, 61, 120, 42, 121, 43, 120, 42, 122, 32, 38, 38, 32, 40, 120, 43, 121, 41, 45, 121, 61, 61, 120, 32, 38, 38, 32, 40, 40, 120, 94, 121, 41, 94, 121, 41, 61, 61, 120, 32, 38, 38, 32, 126, 120, 61, 61, 45, 120, 45, 49, 32, 38, 38, 32, 33, 40, 120, 60, 121, 41, 61, 61, 40, 121, 60, 61, 120, 41, 32, 38, 38, 32, 40, 120, 33, 61, 121, 41, 61, 61, 40, 120, 60, 121, 124, 124, 121, 60, 120, 41]⟩ rfl 0 rfl).mono ?_); rintro e w6 ⟨rfl, hl6⟩; have HL6 := Lib.hid (hl5.trans hl6); have HV6 := Lib.hid (hV5.later hl6); clear hl6 hV5 hl5)
    | (go_at_call 8; (with_reducible refine (evalC (Laws.evals (HG.out.later HL6.out) HI.out.1 HI.out.2.1 HI.out.2.2 HV6.out).2.1 ⟨#[121, 32, 63, 32, 120, 47, 121, 42, 121, 43, 120, 37, 121, 61, 61, 120, 32, 58, 32, 49]⟩ rfl 0 rfl).mono ?_); rintro e w7 ⟨rfl, hl7⟩; have HL7 := Lib.hid (HL6.out.trans hl7); have HV7 := Lib.hid (HV6.out.later hl7); clear hl7)
    | (go_at_call 8; (with_reducible refine (evalC (Laws.evals (HG.out.later HL7.out) HI.out.1 HI.out.2.1 HI.out.2.2 HV7.out).2.2 ⟨#[120]⟩ rfl 0 rfl).mono ?_); rintro e w8 ⟨rfl, hl8⟩; have HL8 := Lib.hid (HL7.out.trans hl8); clear hl8))
  go_ret
  exact ⟨rfl, HL8.out⟩
set_option maxHeartbeats 1600000 in
set_option maxRecDepth 100000 in
theorem walk (w : World) (hg : Tb0 w) (x : Int) (hx : (Lit.int .i64 x).wf = true) (y : Int) (hy : (Lit.int .i64 y).wf = true) (z : Int) (hz : (Lit.int .i64 z).wf = true) :
    Calls Tryz.prog 3 #[.int .i64 x, .int .i64 y, .int .i64 z] w fun e w' => e = .returned (.bool true) ∧ Below w.heap.size w w' := by
  obtain ⟨x0, x1⟩ := bounds_i64 hx
  obtain ⟨y0, y1⟩ := bounds_i64 hy
  obtain ⟨z0, z1⟩ := bounds_i64 hz
  clear hx hy hz
  by_cases hn : x = -9223372036854775808 ∨ y = -9223372036854775808 ∨ z = -9223372036854775808
  · have HA := Lib.hid (awake_v w hg)
    have HG := Lib.hid hg
    clear hg
    by_cases hx : x = -9223372036854775808
    · have n1 : (x == -9223372036854775808) = true := by simp [hx]
      clear hn x0 x1 y0 y1 z0 z1 hx
      go_enter Tryz.func3, Tryz.ntmps3
      go_wp2_with (go_at_call 6; (with_reducible refine HA.out.mono ?_); rintro e w1 ⟨rfl, hl1⟩)
      go_ret
      exact ⟨rfl, hl1⟩
    · have n1 : (x == -9223372036854775808) = false := by simp [hx]
      by_cases hy : y = -9223372036854775808
      · have n2 : (y == -9223372036854775808) = true := by simp [hy]
        clear hn x0 x1 y0 y1 z0 z1 hx hy
        go_enter Tryz.func3, Tryz.ntmps3
        go_wp2_with (go_at_call 6; (with_reducible refine HA.out.mono ?_); rintro e w1 ⟨rfl, hl1⟩)
        go_ret
        exact ⟨rfl, hl1⟩
      · have n2 : (y == -9223372036854775808) = false := by simp [hy]
        have n3 : (z == -9223372036854775808) = true := by simp; omega
        clear hn x0 x1 y0 y1 z0 z1 hx hy
        go_enter Tryz.func3, Tryz.ntmps3
        go_wp2_with (go_at_call 6; (with_reducible refine HA.out.mono ?_); rintro e w1 ⟨rfl, hl1⟩)
        go_ret
        exact ⟨rfl, hl1⟩
  · exact walkIn w hg x y z (by unfold In; omega) (by unfold In; omega) (by unfold In; omega)
end arithLaws
end Go.Proofs.YtcidklbeafjmoaaGreatDoor
