/- The functions that go over a struct: the calls that they make, one behind the other. No premises. -/
import Derived.Test.YteljmlodbnfhbaaKa
import Derived.Test.YteljmlodbnfhbaaWm
namespace Go.Proofs.Yteljmlodbnfhbaa
open Go.RowKit
namespace Ks
set_option maxRecDepth 100000
theorem variable_cps (g bs o : Nat) (w0 : World) (R : Ending → World → Prop) (h : Calls Try.prog 29 #[.pointer (some ⟨g, 0, none⟩), .pointer (some ⟨bs, o, none⟩)] w0 fun e w1 => e = .returned (.tuple #[]) ∧ Calls Try.prog 29 #[.pointer (some ⟨g, 0, none⟩), .pointer (some ⟨bs, o + 1, none⟩)] w1 fun e w2 => e = .returned (.tuple #[]) ∧ R (.returned (.tuple #[])) w2) : Calls Try.prog 67 #[.pointer (some ⟨g, 0, none⟩), .pointer (some ⟨bs, o, none⟩)] w0 R := by
  have H0 := Lib.hid h
  clear h
  go_enter Try.func67, Try.ntmps67
  go_wp2_with (first
    | (go_at_call 29; with_reducible refine H0.out.mono ?_; rintro e w1 ⟨rfl, h1⟩; have H1 := Lib.hid h1; clear h1)
    | (go_at_call 29; with_reducible refine H1.out.mono ?_; rintro e w2 ⟨rfl, h2⟩; have H2 := Lib.hid h2; clear h2))
  go_end0
  exact H2.out
theorem masked_cps (g bs o : Nat) (w0 : World) (R : Ending → World → Prop) (h : Calls Try.prog 29 #[.pointer (some ⟨g, 0, none⟩), .pointer (some ⟨bs, o, none⟩)] w0 fun e w1 => e = .returned (.tuple #[]) ∧ Calls Try.prog 29 #[.pointer (some ⟨g, 0, none⟩), .pointer (some ⟨bs, o + 1, none⟩)] w1 fun e w2 => e = .returned (.tuple #[]) ∧ R (.returned (.tuple #[])) w2) : Calls Try.prog 59 #[.pointer (some ⟨g, 0, none⟩), .pointer (some ⟨bs, o, none⟩)] w0 R := by
  have H0 := Lib.hid h
  clear h
  go_enter Try.func59, Try.ntmps59
  go_wp2_with (first
    | (go_at_call 29; with_reducible refine H0.out.mono ?_; rintro e w1 ⟨rfl, h1⟩; have H1 := Lib.hid h1; clear h1)
    | (go_at_call 29; with_reducible refine H1.out.mono ?_; rintro e w2 ⟨rfl, h2⟩; have H2 := Lib.hid h2; clear h2))
  go_end0
  exact H2.out
theorem trap_cps (g bs o : Nat) (w0 : World) (R : Ending → World → Prop) (h : Calls Try.prog 35 #[.pointer (some ⟨g, 0, none⟩), .pointer (some ⟨bs, o, none⟩)] w0 fun e w1 => e = .returned (.tuple #[]) ∧ Calls Try.prog 29 #[.pointer (some ⟨g, 0, none⟩), .pointer (some ⟨bs, o + 1, none⟩)] w1 fun e w2 => e = .returned (.tuple #[]) ∧ R (.returned (.tuple #[])) w2) : Calls Try.prog 48 #[.pointer (some ⟨g, 0, none⟩), .pointer (some ⟨bs, o, none⟩)] w0 R := by
  have H0 := Lib.hid h
  clear h
  go_enter Try.func48, Try.ntmps48
  go_wp2_with (first
    | (go_at_call 35; with_reducible refine H0.out.mono ?_; rintro e w1 ⟨rfl, h1⟩; have H1 := Lib.hid h1; clear h1)
    | (go_at_call 29; with_reducible refine H1.out.mono ?_; rintro e w2 ⟨rfl, h2⟩; have H2 := Lib.hid h2; clear h2))
  go_end0
  exact H2.out
theorem pair_cps (g bs o : Nat) (w0 : World) (R : Ending → World → Prop) (h : Calls Try.prog 35 #[.pointer (some ⟨g, 0, none⟩), .pointer (some ⟨bs, o, none⟩)] w0 fun e w1 => e = .returned (.tuple #[]) ∧ Calls Try.prog 57 #[.pointer (some ⟨g, 0, none⟩), .pointer (some ⟨bs, o + 1, none⟩)] w1 fun e w2 => e = .returned (.tuple #[]) ∧ R (.returned (.tuple #[])) w2) : Calls Try.prog 50 #[.pointer (some ⟨g, 0, none⟩), .pointer (some ⟨bs, o, none⟩)] w0 R := by
  have H0 := Lib.hid h
  clear h
  go_enter Try.func50, Try.ntmps50
  go_wp2_with (first
    | (go_at_call 35; with_reducible refine H0.out.mono ?_; rintro e w1 ⟨rfl, h1⟩; have H1 := Lib.hid h1; clear h1)
    | (go_at_call 57; with_reducible refine H1.out.mono ?_; rintro e w2 ⟨rfl, h2⟩; have H2 := Lib.hid h2; clear h2))
  go_end0
  exact H2.out
theorem function_cps (g bs o : Nat) (w0 : World) (R : Ending → World → Prop) (h : Calls Try.prog 29 #[.pointer (some ⟨g, 0, none⟩), .pointer (some ⟨bs, o, none⟩)] w0 fun e w1 => e = .returned (.tuple #[]) ∧ Calls Try.prog 36 #[.pointer (some ⟨g, 0, none⟩), .slice (some ⟨w1.heap.size, 0, none⟩) 2 2] (w1.drew.alloc (.cells #[.pointer (some ⟨bs, o + 1, none⟩), .pointer (some ⟨bs, o + 2, none⟩)] 111)) fun e w2 => e = .returned (.tuple #[]) ∧ R (.returned (.tuple #[])) w2) : Calls Try.prog 46 #[.pointer (some ⟨g, 0, none⟩), .pointer (some ⟨bs, o, none⟩)] w0 R := by
  have H0 := Lib.hid h
  clear h
  go_enter Try.func46, Try.ntmps46
  go_wp2_with (first
    | (go_at_call 29; with_reducible refine H0.out.mono ?_; rintro e w1 ⟨rfl, h1⟩; have H1 := Lib.hid h1; clear h1))
  refine wp_region_seq (by kernel_rfl) [7, 8] (fun j _ x => match j with | 0 => x = w1.drew | 1 => x = w1.drew.alloc (.cells #[.pointer (some ⟨bs, o + 1, none⟩), .pointer (some ⟨bs, o + 2, none⟩)] 111) | _ => R (.returned (.tuple #[])) x) [some (.pointer (some ⟨g, 0, none⟩)), some (.pointer (some ⟨bs, o, none⟩)), some (.pointer (some ⟨bs, o, none⟩)), some (.pointer (some ⟨bs, o + 1, none⟩)), some (.pointer (some ⟨bs, o, none⟩)), some (.pointer (some ⟨bs, o, none⟩)), some (.pointer (some ⟨bs, o + 2, none⟩)), some (.slice (some ⟨w1.heap.size, 0, none⟩) 2 2), some (.tuple #[])] (by decide) (by decide) (by kernel_rfl) (by kernel_rfl) (rfl) ?_ ?_
  · refine ⟨?_, ?_, ?_, ?_, ?_, ?_, ?_, ?_, ?_, trivial⟩
    · -- 0: slot 9 := Op.move t0
      refine OwesS.q rfl fun a w j u hC hb hs => ⟨rfl, ?_⟩
      have e0 : a.tmps.getD 0 undef = .pointer (some ⟨g, 0, none⟩) := hs.free 0 rfl
      refine ValWp.pure (v := .pointer (some ⟨g, 0, none⟩)) (fun K' hK' => ?_) ⟨rfl, rfl⟩
      simp only [ValWp, execOp, Act.eval, e0]
      go_simp
      all_goals exact hK'
    · -- 1: slot 10 := Op.move t1
      refine OwesS.q rfl fun a w j u hC hb hs => ⟨rfl, ?_⟩
      have e1 : a.tmps.getD 1 undef = .pointer (some ⟨bs, o, none⟩) := hs.free 1 rfl
      refine ValWp.pure (v := .pointer (some ⟨bs, o, none⟩)) (fun K' hK' => ?_) ⟨rfl, rfl⟩
      simp only [ValWp, execOp, Act.eval, e1]
      go_simp
      all_goals exact hK'
    · -- 2: slot 11 := Op.nilCheck t10
      refine OwesS.q rfl fun a w j u hC hb hs => ⟨rfl, ?_⟩
      have e10 : a.tmps.getD 10 undef = .pointer (some ⟨bs, o, none⟩) := hs.dep 1 _ rfl rfl
      refine ValWp.pure (v := .pointer (some ⟨bs, o, none⟩)) (fun K' hK' => ?_) ⟨rfl, rfl⟩
      simp only [ValWp, execOp, Act.eval, e10]
      go_simp
      all_goals exact hK'
    · -- 3: slot 12 := Op.fieldAddr 132 t11 1
      refine OwesS.q rfl fun a w j u hC hb hs => ⟨rfl, ?_⟩
      have e11 : a.tmps.getD 11 undef = .pointer (some ⟨bs, o, none⟩) := hs.dep 2 _ rfl rfl
      refine ValWp.pure (v := .pointer (some ⟨bs, o + 1, none⟩)) (fun K' hK' => ?_) ⟨rfl, rfl⟩
      simp only [ValWp, execOp, Act.eval, e11]
      go_simp
      all_goals exact hK'
    · -- 4: slot 13 := Op.move t1
      refine OwesS.q rfl fun a w j u hC hb hs => ⟨rfl, ?_⟩
      have e1 : a.tmps.getD 1 undef = .pointer (some ⟨bs, o, none⟩) := hs.free 1 rfl
      refine ValWp.pure (v := .pointer (some ⟨bs, o, none⟩)) (fun K' hK' => ?_) ⟨rfl, rfl⟩
      simp only [ValWp, execOp, Act.eval, e1]
      go_simp
      all_goals exact hK'
    · -- 5: slot 14 := Op.nilCheck t13
      refine OwesS.q rfl fun a w j u hC hb hs => ⟨rfl, ?_⟩
      have e13 : a.tmps.getD 13 undef = .pointer (some ⟨bs, o, none⟩) := hs.dep 4 _ rfl rfl
      refine ValWp.pure (v := .pointer (some ⟨bs, o, none⟩)) (fun K' hK' => ?_) ⟨rfl, rfl⟩
      simp only [ValWp, execOp, Act.eval, e13]
      go_simp
      all_goals exact hK'
    · -- 6: slot 15 := Op.fieldAddr 132 t14 2
      refine OwesS.q rfl fun a w j u hC hb hs => ⟨rfl, ?_⟩
      have e14 : a.tmps.getD 14 undef = .pointer (some ⟨bs, o, none⟩) := hs.dep 5 _ rfl rfl
      refine ValWp.pure (v := .pointer (some ⟨bs, o + 2, none⟩)) (fun K' hK' => ?_) ⟨rfl, rfl⟩
      simp only [ValWp, execOp, Act.eval, e14]
      go_simp
      all_goals exact hK'
    · -- 7: slot 16 := Op.buildSlice 163 2 #[(0, t12), (1, t15)]
      refine OwesS.w rfl fun a w u hC hl hs => ⟨rfl, fun K hK => ?_⟩
      have e12 : a.tmps.getD 12 undef = .pointer (some ⟨bs, o + 1, none⟩) := hs.dep 3 _ rfl rfl
      have e15 : a.tmps.getD 15 undef = .pointer (some ⟨bs, o + 2, none⟩) := hs.dep 6 _ rfl rfl
      subst hC
      refine wp_of_val ?_
      refine ValWp.pure (v := .slice (some ⟨w1.heap.size, 0, none⟩) 2 2) (w' := w1.drew.alloc (.cells #[.pointer (some ⟨bs, o + 1, none⟩), .pointer (some ⟨bs, o + 2, none⟩)] 111)) (fun K' hK' => ?_) (hK _ _ rfl rfl)
      simp only [ValWp, execOp, Act.eval, List.map_toArray, List.map_cons, List.map_nil, e12, e15]
      go_simp
      all_goals exact hK'
    · -- 8: slot 17 := Op.call { value (Operand.func 36), args := #[t9, t16], argTypes := #[75, 163] }
      refine OwesS.w rfl fun a w u hC hl hs => ⟨rfl, fun K hK => ?_⟩
      have e9 : a.tmps.getD 9 undef = .pointer (some ⟨g, 0, none⟩) := hs.dep 0 _ rfl rfl
      have e16 : a.tmps.getD 16 undef = .slice (some ⟨w1.heap.size, 0, none⟩) 2 2 := hs.dep 7 _ rfl rfl
      subst hC
      refine wp_of_val ?_
      refine ValWp.call #[.pointer (some ⟨g, 0, none⟩), .slice (some ⟨w1.heap.size, 0, none⟩) 2 2] rfl rfl Try.func36 rfl rfl (by simp only [List.map_toArray, List.map_cons, List.map_nil, Act.eval, e9, e16]) ?_
      refine H1.out.mono ?_
      rintro e w' ⟨rfl, hb⟩
      exact ⟨_, rfl, hK _ _ rfl hb⟩
  · intro a w u hC hl hd hsz hfree hs
    obtain ⟨u9, hu9⟩ : ∃ u, u = a.tmps.getD 9 undef := ⟨_, rfl⟩
    obtain ⟨u10, hu10⟩ : ∃ u, u = a.tmps.getD 10 undef := ⟨_, rfl⟩
    obtain ⟨u11, hu11⟩ : ∃ u, u = a.tmps.getD 11 undef := ⟨_, rfl⟩
    obtain ⟨u12, hu12⟩ : ∃ u, u = a.tmps.getD 12 undef := ⟨_, rfl⟩
    obtain ⟨u13, hu13⟩ : ∃ u, u = a.tmps.getD 13 undef := ⟨_, rfl⟩
    obtain ⟨u14, hu14⟩ : ∃ u, u = a.tmps.getD 14 undef := ⟨_, rfl⟩
    obtain ⟨u15, hu15⟩ : ∃ u, u = a.tmps.getD 15 undef := ⟨_, rfl⟩
    obtain ⟨u16, hu16⟩ : ∃ u, u = a.tmps.getD 16 undef := ⟨_, rfl⟩
    obtain ⟨u17, hu17⟩ : ∃ u, u = a.tmps.getD 17 undef := ⟨_, rfl⟩
    have hal : AllAt a 0 [_, _, _, _, _, _, _, _, _, u9, u10, u11, u12, u13, u14, u15, u16, u17] := ⟨hfree 0 rfl, hfree 1 rfl, hfree 2 rfl, hfree 3 rfl, hfree 4 rfl, hfree 5 rfl, hfree 6 rfl, hfree 7 rfl, hfree 8 rfl, hu9.symm, hu10.symm, hu11.symm, hu12.symm, hu13.symm, hu14.symm, hu15.symm, hu16.symm, hu17.symm, trivial⟩
    have hlit := fun h => act_lit hd h hal
    rw [hlit hsz]
    simp only [Array.getD_eq_getD_getElem?, List.getElem?_toArray, List.getElem?_cons_zero, List.getElem?_cons_succ, Option.getD_some]
    clear hlit hal hd hsz hfree hs hu9 hu10 hu11 hu12 hu13 hu14 hu15 hu16 hu17
    have H2 := Lib.hid (show R (.returned (.tuple #[])) w from hC)
    clear hC hl
    go_wp2
    go_end0
    exact H2.out
theorem known_cps (g bs o : Nat) (w0 : World) (R : Ending → World → Prop) (h : Calls Try.prog 66 #[.pointer (some ⟨g, 0, none⟩), .pointer (some ⟨bs, o, none⟩), .func (.func 67) #[] #[]] w0 fun e w1 => e = .returned (.tuple #[]) ∧ Calls Try.prog 28 #[.pointer (some ⟨g, 0, none⟩), .pointer (some ⟨bs, o + 1, none⟩), .func (.func 29) #[] #[]] w1 fun e w2 => e = .returned (.tuple #[]) ∧ Calls Try.prog 35 #[.pointer (some ⟨g, 0, none⟩), .pointer (some ⟨bs, o + 2, none⟩)] w2 fun e w3 => e = .returned (.tuple #[]) ∧ Calls Try.prog 29 #[.pointer (some ⟨g, 0, none⟩), .pointer (some ⟨bs, o + 3, none⟩)] w3 fun e w4 => e = .returned (.tuple #[]) ∧ R (.returned (.tuple #[])) w4) : Calls Try.prog 44 #[.pointer (some ⟨g, 0, none⟩), .pointer (some ⟨bs, o, none⟩)] w0 R := by
  have H0 := Lib.hid h
  clear h
  go_enter Try.func44, Try.ntmps44
  go_wp2_with (first
    | (go_at_call 66; with_reducible refine H0.out.mono ?_; rintro e w1 ⟨rfl, h1⟩; have H1 := Lib.hid h1; clear h1)
    | (go_at_call 28; with_reducible refine H1.out.mono ?_; rintro e w2 ⟨rfl, h2⟩; have H2 := Lib.hid h2; clear h2)
    | (go_at_call 35; with_reducible refine H2.out.mono ?_; rintro e w3 ⟨rfl, h3⟩; have H3 := Lib.hid h3; clear h3)
    | (go_at_call 29; with_reducible refine H3.out.mono ?_; rintro e w4 ⟨rfl, h4⟩; have H4 := Lib.hid h4; clear h4))
  go_end0
  exact H4.out
theorem kept_cps (g bs o : Nat) (w0 : World) (R : Ending → World → Prop) (h : Calls Try.prog 44 #[.pointer (some ⟨g, 0, none⟩), .pointer (some ⟨bs, o, none⟩)] w0 fun e w1 => e = .returned (.tuple #[]) ∧ Calls Try.prog 45 #[.pointer (some ⟨g, 0, none⟩), .pointer (some ⟨bs, o + 4, none⟩), .func (.func 46) #[] #[]] w1 fun e w2 => e = .returned (.tuple #[]) ∧ Calls Try.prog 47 #[.pointer (some ⟨g, 0, none⟩), .pointer (some ⟨bs, o + 5, none⟩), .func (.func 48) #[] #[]] w2 fun e w3 => e = .returned (.tuple #[]) ∧ Calls Try.prog 49 #[.pointer (some ⟨g, 0, none⟩), .pointer (some ⟨bs, o + 6, none⟩), .func (.func 50) #[] #[]] w3 fun e w4 => e = .returned (.tuple #[]) ∧ R (.returned (.tuple #[])) w4) : Calls Try.prog 27 #[.pointer (some ⟨g, 0, none⟩), .pointer (some ⟨bs, o, none⟩)] w0 R := by
  have H0 := Lib.hid h
  clear h
  go_enter Try.func27, Try.ntmps27
  go_wp2_with (first
    | (go_at_call 44; with_reducible refine H0.out.mono ?_; rintro e w1 ⟨rfl, h1⟩; have H1 := Lib.hid h1; clear h1)
    | (go_at_call 45; with_reducible refine H1.out.mono ?_; rintro e w2 ⟨rfl, h2⟩; have H2 := Lib.hid h2; clear h2)
    | (go_at_call 47; with_reducible refine H2.out.mono ?_; rintro e w3 ⟨rfl, h3⟩; have H3 := Lib.hid h3; clear h3)
    | (go_at_call 49; with_reducible refine H3.out.mono ?_; rintro e w4 ⟨rfl, h4⟩; have H4 := Lib.hid h4; clear h4))
  go_end0
  exact H4.out
theorem request_cps (g bs o : Nat) (w0 : World) (R : Ending → World → Prop) (h : Calls Try.prog 35 #[.pointer (some ⟨g, 0, none⟩), .pointer (some ⟨bs, o, none⟩)] w0 fun e w1 => e = .returned (.tuple #[]) ∧ Calls Try.prog 55 #[.pointer (some ⟨g, 0, none⟩), .slice (some ⟨w1.heap.size, 0, none⟩) 2 2] (w1.drew.alloc (.cells #[.pointer (some ⟨bs, o + 1, none⟩), .pointer (some ⟨bs, o + 2, none⟩)] 153)) fun e w2 => e = .returned (.tuple #[]) ∧ Calls Try.prog 29 #[.pointer (some ⟨g, 0, none⟩), .pointer (some ⟨bs, o + 3, none⟩)] w2 fun e w3 => e = .returned (.tuple #[]) ∧ Calls Try.prog 28 #[.pointer (some ⟨g, 0, none⟩), .pointer (some ⟨bs, o + 4, none⟩), .func (.func 29) #[] #[]] w3 fun e w4 => e = .returned (.tuple #[]) ∧ R (.returned (.tuple #[])) w4) : Calls Try.prog 32 #[.pointer (some ⟨g, 0, none⟩), .pointer (some ⟨bs, o, none⟩)] w0 R := by
  have H0 := Lib.hid h
  clear h
  go_enter Try.func32, Try.ntmps32
  go_wp2_with (first
    | (go_at_call 35; with_reducible refine H0.out.mono ?_; rintro e w1 ⟨rfl, h1⟩; have H1 := Lib.hid h1; clear h1))
  refine wp_region_seq (by kernel_rfl) [7, 8] (fun j _ x => match j with | 0 => x = w1.drew | 1 => x = w1.drew.alloc (.cells #[.pointer (some ⟨bs, o + 1, none⟩), .pointer (some ⟨bs, o + 2, none⟩)] 153) | _ => Calls Try.prog 29 #[.pointer (some ⟨g, 0, none⟩), .pointer (some ⟨bs, o + 3, none⟩)] x fun e w3 => e = .returned (.tuple #[]) ∧ Calls Try.prog 28 #[.pointer (some ⟨g, 0, none⟩), .pointer (some ⟨bs, o + 4, none⟩), .func (.func 29) #[] #[]] w3 fun e w4 => e = .returned (.tuple #[]) ∧ R (.returned (.tuple #[])) w4) [some (.pointer (some ⟨g, 0, none⟩)), some (.pointer (some ⟨bs, o, none⟩)), some (.pointer (some ⟨bs, o, none⟩)), some (.pointer (some ⟨bs, o + 1, none⟩)), some (.pointer (some ⟨bs, o, none⟩)), some (.pointer (some ⟨bs, o, none⟩)), some (.pointer (some ⟨bs, o + 2, none⟩)), some (.slice (some ⟨w1.heap.size, 0, none⟩) 2 2), some (.tuple #[])] (by decide) (by decide) (by kernel_rfl) (by kernel_rfl) (rfl) ?_ ?_
  · refine ⟨?_, ?_, ?_, ?_, ?_, ?_, ?_, ?_, ?_, trivial⟩
    · -- 0: slot 9 := Op.move t0
      refine OwesS.q rfl fun a w j u hC hb hs => ⟨rfl, ?_⟩
      have e0 : a.tmps.getD 0 undef = .pointer (some ⟨g, 0, none⟩) := hs.free 0 rfl
      refine ValWp.pure (v := .pointer (some ⟨g, 0, none⟩)) (fun K' hK' => ?_) ⟨rfl, rfl⟩
      simp only [ValWp, execOp, Act.eval, e0]
      go_simp
      all_goals exact hK'
    · -- 1: slot 10 := Op.move t1
      refine OwesS.q rfl fun a w j u hC hb hs => ⟨rfl, ?_⟩
      have e1 : a.tmps.getD 1 undef = .pointer (some ⟨bs, o, none⟩) := hs.free 1 rfl
      refine ValWp.pure (v := .pointer (some ⟨bs, o, none⟩)) (fun K' hK' => ?_) ⟨rfl, rfl⟩
      simp only [ValWp, execOp, Act.eval, e1]
      go_simp
      all_goals exact hK'
    · -- 2: slot 11 := Op.nilCheck t10
      refine OwesS.q rfl fun a w j u hC hb hs => ⟨rfl, ?_⟩
      have e10 : a.tmps.getD 10 undef = .pointer (some ⟨bs, o, none⟩) := hs.dep 1 _ rfl rfl
      refine ValWp.pure (v := .pointer (some ⟨bs, o, none⟩)) (fun K' hK' => ?_) ⟨rfl, rfl⟩
      simp only [ValWp, execOp, Act.eval, e10]
      go_simp
      all_goals exact hK'
    · -- 3: slot 12 := Op.fieldAddr 34 t11 1
      refine OwesS.q rfl fun a w j u hC hb hs => ⟨rfl, ?_⟩
      have e11 : a.tmps.getD 11 undef = .pointer (some ⟨bs, o, none⟩) := hs.dep 2 _ rfl rfl
      refine ValWp.pure (v := .pointer (some ⟨bs, o + 1, none⟩)) (fun K' hK' => ?_) ⟨rfl, rfl⟩
      simp only [ValWp, execOp, Act.eval, e11]
      go_simp
      all_goals exact hK'
    · -- 4: slot 13 := Op.move t1
      refine OwesS.q rfl fun a w j u hC hb hs => ⟨rfl, ?_⟩
      have e1 : a.tmps.getD 1 undef = .pointer (some ⟨bs, o, none⟩) := hs.free 1 rfl
      refine ValWp.pure (v := .pointer (some ⟨bs, o, none⟩)) (fun K' hK' => ?_) ⟨rfl, rfl⟩
      simp only [ValWp, execOp, Act.eval, e1]
      go_simp
      all_goals exact hK'
    · -- 5: slot 14 := Op.nilCheck t13
      refine OwesS.q rfl fun a w j u hC hb hs => ⟨rfl, ?_⟩
      have e13 : a.tmps.getD 13 undef = .pointer (some ⟨bs, o, none⟩) := hs.dep 4 _ rfl rfl
      refine ValWp.pure (v := .pointer (some ⟨bs, o, none⟩)) (fun K' hK' => ?_) ⟨rfl, rfl⟩
      simp only [ValWp, execOp, Act.eval, e13]
      go_simp
      all_goals exact hK'
    · -- 6: slot 15 := Op.fieldAddr 34 t14 2
      refine OwesS.q rfl fun a w j u hC hb hs => ⟨rfl, ?_⟩
      have e14 : a.tmps.getD 14 undef = .pointer (some ⟨bs, o, none⟩) := hs.dep 5 _ rfl rfl
      refine ValWp.pure (v := .pointer (some ⟨bs, o + 2, none⟩)) (fun K' hK' => ?_) ⟨rfl, rfl⟩
      simp only [ValWp, execOp, Act.eval, e14]
      go_simp
      all_goals exact hK'
    · -- 7: slot 16 := Op.buildSlice 176 2 #[(0, t12), (1, t15)]
      refine OwesS.w rfl fun a w u hC hl hs => ⟨rfl, fun K hK => ?_⟩
      have e12 : a.tmps.getD 12 undef = .pointer (some ⟨bs, o + 1, none⟩) := hs.dep 3 _ rfl rfl
      have e15 : a.tmps.getD 15 undef = .pointer (some ⟨bs, o + 2, none⟩) := hs.dep 6 _ rfl rfl
      subst hC
      refine wp_of_val ?_
      refine ValWp.pure (v := .slice (some ⟨w1.heap.size, 0, none⟩) 2 2) (w' := w1.drew.alloc (.cells #[.pointer (some ⟨bs, o + 1, none⟩), .pointer (some ⟨bs, o + 2, none⟩)] 153)) (fun K' hK' => ?_) (hK _ _ rfl rfl)
      simp only [ValWp, execOp, Act.eval, List.map_toArray, List.map_cons, List.map_nil, e12, e15]
      go_simp
      all_goals exact hK'
    · -- 8: slot 17 := Op.call { value (Operand.func 55), args := #[t9, t16], argTypes := #[75, 176] }
      refine OwesS.w rfl fun a w u hC hl hs => ⟨rfl, fun K hK => ?_⟩
      have e9 : a.tmps.getD 9 undef = .pointer (some ⟨g, 0, none⟩) := hs.dep 0 _ rfl rfl
      have e16 : a.tmps.getD 16 undef = .slice (some ⟨w1.heap.size, 0, none⟩) 2 2 := hs.dep 7 _ rfl rfl
      subst hC
      refine wp_of_val ?_
      refine ValWp.call #[.pointer (some ⟨g, 0, none⟩), .slice (some ⟨w1.heap.size, 0, none⟩) 2 2] rfl rfl Try.func55 rfl rfl (by simp only [List.map_toArray, List.map_cons, List.map_nil, Act.eval, e9, e16]) ?_
      refine H1.out.mono ?_
      rintro e w' ⟨rfl, hb⟩
      exact ⟨_, rfl, hK _ _ rfl hb⟩
  · intro a w u hC hl hd hsz hfree hs
    obtain ⟨u9, hu9⟩ : ∃ u, u = a.tmps.getD 9 undef := ⟨_, rfl⟩
    obtain ⟨u10, hu10⟩ : ∃ u, u = a.tmps.getD 10 undef := ⟨_, rfl⟩
    obtain ⟨u11, hu11⟩ : ∃ u, u = a.tmps.getD 11 undef := ⟨_, rfl⟩
    obtain ⟨u12, hu12⟩ : ∃ u, u = a.tmps.getD 12 undef := ⟨_, rfl⟩
    obtain ⟨u13, hu13⟩ : ∃ u, u = a.tmps.getD 13 undef := ⟨_, rfl⟩
    obtain ⟨u14, hu14⟩ : ∃ u, u = a.tmps.getD 14 undef := ⟨_, rfl⟩
    obtain ⟨u15, hu15⟩ : ∃ u, u = a.tmps.getD 15 undef := ⟨_, rfl⟩
    obtain ⟨u16, hu16⟩ : ∃ u, u = a.tmps.getD 16 undef := ⟨_, rfl⟩
    obtain ⟨u17, hu17⟩ : ∃ u, u = a.tmps.getD 17 undef := ⟨_, rfl⟩
    have hal : AllAt a 0 [_, _, _, _, _, _, _, _, _, u9, u10, u11, u12, u13, u14, u15, u16, u17, _, _, _, _, _, _, _, _, _, _] := ⟨hfree 0 rfl, hfree 1 rfl, hfree 2 rfl, hfree 3 rfl, hfree 4 rfl, hfree 5 rfl, hfree 6 rfl, hfree 7 rfl, hfree 8 rfl, hu9.symm, hu10.symm, hu11.symm, hu12.symm, hu13.symm, hu14.symm, hu15.symm, hu16.symm, hu17.symm, hfree 18 rfl, hfree 19 rfl, hfree 20 rfl, hfree 21 rfl, hfree 22 rfl, hfree 23 rfl, hfree 24 rfl, hfree 25 rfl, hfree 26 rfl, hfree 27 rfl, trivial⟩
    have hlit := fun h => act_lit hd h hal
    rw [hlit hsz]
    simp only [Array.getD_eq_getD_getElem?, List.getElem?_toArray, List.getElem?_cons_zero, List.getElem?_cons_succ, Option.getD_some]
    clear hlit hal hd hsz hfree hs hu9 hu10 hu11 hu12 hu13 hu14 hu15 hu16 hu17
    have H2 := Lib.hid (show Calls Try.prog 29 #[.pointer (some ⟨g, 0, none⟩), .pointer (some ⟨bs, o + 3, none⟩)] w fun e w3 => e = .returned (.tuple #[]) ∧ Calls Try.prog 28 #[.pointer (some ⟨g, 0, none⟩), .pointer (some ⟨bs, o + 4, none⟩), .func (.func 29) #[] #[]] w3 fun e w4 => e = .returned (.tuple #[]) ∧ R (.returned (.tuple #[])) w4 from hC)
    clear hC hl
    obtain ⟨w2, hw2⟩ : ∃ x, x = w := ⟨_, rfl⟩
    rw [← hw2] at H2 ⊢
    clear hw2
    go_wp2_with (first
      | (go_at_call 29; with_reducible refine H2.out.mono ?_; rintro e w3 ⟨rfl, h3⟩; have H3 := Lib.hid h3; clear h3)
      | (go_at_call 28; with_reducible refine H3.out.mono ?_; rintro e w4 ⟨rfl, h4⟩; have H4 := Lib.hid h4; clear h4))
    go_end0
    exact H4.out
theorem answer_cps (g bs o : Nat) (w0 : World) (R : Ending → World → Prop) (h : Calls Try.prog 36 #[.pointer (some ⟨g, 0, none⟩), .slice (some ⟨w0.heap.size, 0, none⟩) 2 2] (w0.drew.alloc (.cells #[.pointer (some ⟨bs, o, none⟩), .pointer (some ⟨bs, o + 1, none⟩)] 111)) fun e w1 => e = .returned (.tuple #[]) ∧ Calls Try.prog 55 #[.pointer (some ⟨g, 0, none⟩), .slice (some ⟨w1.heap.size, 0, none⟩) 2 2] (w1.drew.alloc (.cells #[.pointer (some ⟨bs, o + 2, none⟩), .pointer (some ⟨bs, o + 3, none⟩)] 153)) fun e w2 => e = .returned (.tuple #[]) ∧ Calls Try.prog 29 #[.pointer (some ⟨g, 0, none⟩), .pointer (some ⟨bs, o + 4, none⟩)] w2 fun e w3 => e = .returned (.tuple #[]) ∧ Calls Try.prog 28 #[.pointer (some ⟨g, 0, none⟩), .pointer (some ⟨bs, o + 5, none⟩), .func (.func 29) #[] #[]] w3 fun e w4 => e = .returned (.tuple #[]) ∧ Calls Try.prog 35 #[.pointer (some ⟨g, 0, none⟩), .pointer (some ⟨bs, o + 6, none⟩)] w4 fun e w5 => e = .returned (.tuple #[]) ∧ R (.returned (.tuple #[])) w5) : Calls Try.prog 33 #[.pointer (some ⟨g, 0, none⟩), .pointer (some ⟨bs, o, none⟩)] w0 R := by
  have H0 := Lib.hid h
  clear h
  go_enter Try.func33, Try.ntmps33
  go_wp2_with fail
  refine wp_region_seq (by kernel_rfl) [7, 8] (fun j _ x => match j with | 0 => x = w0.drew | 1 => x = w0.drew.alloc (.cells #[.pointer (some ⟨bs, o, none⟩), .pointer (some ⟨bs, o + 1, none⟩)] 111) | _ => Calls Try.prog 55 #[.pointer (some ⟨g, 0, none⟩), .slice (some ⟨x.heap.size, 0, none⟩) 2 2] (x.drew.alloc (.cells #[.pointer (some ⟨bs, o + 2, none⟩), .pointer (some ⟨bs, o + 3, none⟩)] 153)) fun e w2 => e = .returned (.tuple #[]) ∧ Calls Try.prog 29 #[.pointer (some ⟨g, 0, none⟩), .pointer (some ⟨bs, o + 4, none⟩)] w2 fun e w3 => e = .returned (.tuple #[]) ∧ Calls Try.prog 28 #[.pointer (some ⟨g, 0, none⟩), .pointer (some ⟨bs, o + 5, none⟩), .func (.func 29) #[] #[]] w3 fun e w4 => e = .returned (.tuple #[]) ∧ Calls Try.prog 35 #[.pointer (some ⟨g, 0, none⟩), .pointer (some ⟨bs, o + 6, none⟩)] w4 fun e w5 => e = .returned (.tuple #[]) ∧ R (.returned (.tuple #[])) w5) [some (.pointer (some ⟨g, 0, none⟩)), some (.pointer (some ⟨bs, o, none⟩)), some (.pointer (some ⟨bs, o, none⟩)), some (.pointer (some ⟨bs, o, none⟩)), some (.pointer (some ⟨bs, o, none⟩)), some (.pointer (some ⟨bs, o, none⟩)), some (.pointer (some ⟨bs, o + 1, none⟩)), some (.slice (some ⟨w0.heap.size, 0, none⟩) 2 2), some (.tuple #[])] (by decide) (by decide) (by kernel_rfl) (by kernel_rfl) (rfl) ?_ ?_
  · refine ⟨?_, ?_, ?_, ?_, ?_, ?_, ?_, ?_, ?_, trivial⟩
    · -- 0: slot 4 := Op.move t0
      refine OwesS.q rfl fun a w j u hC hb hs => ⟨rfl, ?_⟩
      have e0 : a.tmps.getD 0 undef = .pointer (some ⟨g, 0, none⟩) := hs.free 0 rfl
      refine ValWp.pure (v := .pointer (some ⟨g, 0, none⟩)) (fun K' hK' => ?_) ⟨rfl, rfl⟩
      simp only [ValWp, execOp, Act.eval, e0]
      go_simp
      all_goals exact hK'
    · -- 1: slot 5 := Op.move t1
      refine OwesS.q rfl fun a w j u hC hb hs => ⟨rfl, ?_⟩
      have e1 : a.tmps.getD 1 undef = .pointer (some ⟨bs, o, none⟩) := hs.free 1 rfl
      refine ValWp.pure (v := .pointer (some ⟨bs, o, none⟩)) (fun K' hK' => ?_) ⟨rfl, rfl⟩
      simp only [ValWp, execOp, Act.eval, e1]
      go_simp
      all_goals exact hK'
    · -- 2: slot 6 := Op.nilCheck t5
      refine OwesS.q rfl fun a w j u hC hb hs => ⟨rfl, ?_⟩
      have e5 : a.tmps.getD 5 undef = .pointer (some ⟨bs, o, none⟩) := hs.dep 1 _ rfl rfl
      refine ValWp.pure (v := .pointer (some ⟨bs, o, none⟩)) (fun K' hK' => ?_) ⟨rfl, rfl⟩
      simp only [ValWp, execOp, Act.eval, e5]
      go_simp
      all_goals exact hK'
    · -- 3: slot 7 := Op.fieldAddr 36 t6 0
      refine OwesS.q rfl fun a w j u hC hb hs => ⟨rfl, ?_⟩
      have e6 : a.tmps.getD 6 undef = .pointer (some ⟨bs, o, none⟩) := hs.dep 2 _ rfl rfl
      refine ValWp.pure (v := .pointer (some ⟨bs, o, none⟩)) (fun K' hK' => ?_) ⟨rfl, rfl⟩
      simp only [ValWp, execOp, Act.eval, e6]
      go_simp
      all_goals exact hK'
    · -- 4: slot 8 := Op.move t1
      refine OwesS.q rfl fun a w j u hC hb hs => ⟨rfl, ?_⟩
      have e1 : a.tmps.getD 1 undef = .pointer (some ⟨bs, o, none⟩) := hs.free 1 rfl
      refine ValWp.pure (v := .pointer (some ⟨bs, o, none⟩)) (fun K' hK' => ?_) ⟨rfl, rfl⟩
      simp only [ValWp, execOp, Act.eval, e1]
      go_simp
      all_goals exact hK'
    · -- 5: slot 9 := Op.nilCheck t8
      refine OwesS.q rfl fun a w j u hC hb hs => ⟨rfl, ?_⟩
      have e8 : a.tmps.getD 8 undef = .pointer (some ⟨bs, o, none⟩) := hs.dep 4 _ rfl rfl
      refine ValWp.pure (v := .pointer (some ⟨bs, o, none⟩)) (fun K' hK' => ?_) ⟨rfl, rfl⟩
      simp only [ValWp, execOp, Act.eval, e8]
      go_simp
      all_goals exact hK'
    · -- 6: slot 10 := Op.fieldAddr 36 t9 1
      refine OwesS.q rfl fun a w j u hC hb hs => ⟨rfl, ?_⟩
      have e9 : a.tmps.getD 9 undef = .pointer (some ⟨bs, o, none⟩) := hs.dep 5 _ rfl rfl
      refine ValWp.pure (v := .pointer (some ⟨bs, o + 1, none⟩)) (fun K' hK' => ?_) ⟨rfl, rfl⟩
      simp only [ValWp, execOp, Act.eval, e9]
      go_simp
      all_goals exact hK'
    · -- 7: slot 11 := Op.buildSlice 163 2 #[(0, t7), (1, t10)]
      refine OwesS.w rfl fun a w u hC hl hs => ⟨rfl, fun K hK => ?_⟩
      have e7 : a.tmps.getD 7 undef = .pointer (some ⟨bs, o, none⟩) := hs.dep 3 _ rfl rfl
      have e10 : a.tmps.getD 10 undef = .pointer (some ⟨bs, o + 1, none⟩) := hs.dep 6 _ rfl rfl
      subst hC
      refine wp_of_val ?_
      refine ValWp.pure (v := .slice (some ⟨w0.heap.size, 0, none⟩) 2 2) (w' := w0.drew.alloc (.cells #[.pointer (some ⟨bs, o, none⟩), .pointer (some ⟨bs, o + 1, none⟩)] 111)) (fun K' hK' => ?_) (hK _ _ rfl rfl)
      simp only [ValWp, execOp, Act.eval, List.map_toArray, List.map_cons, List.map_nil, e7, e10]
      go_simp
      all_goals exact hK'
    · -- 8: slot 12 := Op.call { value (Operand.func 36), args := #[t4, t11], argTypes := #[75, 163] }
      refine OwesS.w rfl fun a w u hC hl hs => ⟨rfl, fun K hK => ?_⟩
      have e4 : a.tmps.getD 4 undef = .pointer (some ⟨g, 0, none⟩) := hs.dep 0 _ rfl rfl
      have e11 : a.tmps.getD 11 undef = .slice (some ⟨w0.heap.size, 0, none⟩) 2 2 := hs.dep 7 _ rfl rfl
      subst hC
      refine wp_of_val ?_
      refine ValWp.call #[.pointer (some ⟨g, 0, none⟩), .slice (some ⟨w0.heap.size, 0, none⟩) 2 2] rfl rfl Try.func36 rfl rfl (by simp only [List.map_toArray, List.map_cons, List.map_nil, Act.eval, e4, e11]) ?_
      refine H0.out.mono ?_
      rintro e w' ⟨rfl, hb⟩
      exact ⟨_, rfl, hK _ _ rfl hb⟩
  · intro a w u hC hl hd hsz hfree hs
    obtain ⟨u4, hu4⟩ : ∃ u, u = a.tmps.getD 4 undef := ⟨_, rfl⟩
    obtain ⟨u5, hu5⟩ : ∃ u, u = a.tmps.getD 5 undef := ⟨_, rfl⟩
    obtain ⟨u6, hu6⟩ : ∃ u, u = a.tmps.getD 6 undef := ⟨_, rfl⟩
    obtain ⟨u7, hu7⟩ : ∃ u, u = a.tmps.getD 7 undef := ⟨_, rfl⟩
    obtain ⟨u8, hu8⟩ : ∃ u, u = a.tmps.getD 8 undef := ⟨_, rfl⟩
    obtain ⟨u9, hu9⟩ : ∃ u, u = a.tmps.getD 9 undef := ⟨_, rfl⟩
    obtain ⟨u10, hu10⟩ : ∃ u, u = a.tmps.getD 10 undef := ⟨_, rfl⟩
    obtain ⟨u11, hu11⟩ : ∃ u, u = a.tmps.getD 11 undef := ⟨_, rfl⟩
    obtain ⟨u12, hu12⟩ : ∃ u, u = a.tmps.getD 12 undef := ⟨_, rfl⟩
    have hal : AllAt a 0 [_, _, _, _, u4, u5, u6, u7, u8, u9, u10, u11, u12, _, _, _, _, _, _, _, _, _, _, _, _, _, _, _, _, _, _, _, _, _, _, _, _] := ⟨hfree 0 rfl, hfree 1 rfl, hfree 2 rfl, hfree 3 rfl, hu4.symm, hu5.symm, hu6.symm, hu7.symm, hu8.symm, hu9.symm, hu10.symm, hu11.symm, hu12.symm, hfree 13 rfl, hfree 14 rfl, hfree 15 rfl, hfree 16 rfl, hfree 17 rfl, hfree 18 rfl, hfree 19 rfl, hfree 20 rfl, hfree 21 rfl, hfree 22 rfl, hfree 23 rfl, hfree 24 rfl, hfree 25 rfl, hfree 26 rfl, hfree 27 rfl, hfree 28 rfl, hfree 29 rfl, hfree 30 rfl, hfree 31 rfl, hfree 32 rfl, hfree 33 rfl, hfree 34 rfl, hfree 35 rfl, hfree 36 rfl, trivial⟩
    have hlit := fun h => act_lit hd h hal
    rw [hlit hsz]
    simp only [Array.getD_eq_getD_getElem?, List.getElem?_toArray, List.getElem?_cons_zero, List.getElem?_cons_succ, Option.getD_some]
    clear hlit hal hd hsz hfree hs hu4 hu5 hu6 hu7 hu8 hu9 hu10 hu11 hu12
    have H1 := Lib.hid (show Calls Try.prog 55 #[.pointer (some ⟨g, 0, none⟩), .slice (some ⟨w.heap.size, 0, none⟩) 2 2] (w.drew.alloc (.cells #[.pointer (some ⟨bs, o + 2, none⟩), .pointer (some ⟨bs, o + 3, none⟩)] 153)) fun e w2 => e = .returned (.tuple #[]) ∧ Calls Try.prog 29 #[.pointer (some ⟨g, 0, none⟩), .pointer (some ⟨bs, o + 4, none⟩)] w2 fun e w3 => e = .returned (.tuple #[]) ∧ Calls Try.prog 28 #[.pointer (some ⟨g, 0, none⟩), .pointer (some ⟨bs, o + 5, none⟩), .func (.func 29) #[] #[]] w3 fun e w4 => e = .returned (.tuple #[]) ∧ Calls Try.prog 35 #[.pointer (some ⟨g, 0, none⟩), .pointer (some ⟨bs, o + 6, none⟩)] w4 fun e w5 => e = .returned (.tuple #[]) ∧ R (.returned (.tuple #[])) w5 from hC)
    clear hC hl
    obtain ⟨w1, hw1⟩ : ∃ x, x = w := ⟨_, rfl⟩
    rw [← hw1] at H1 ⊢
    clear hw1
    go_wp2_with fail
    refine wp_region_seq (by kernel_rfl) [7, 8] (fun j _ x => match j with | 0 => x = w1.drew | 1 => x = w1.drew.alloc (.cells #[.pointer (some ⟨bs, o + 2, none⟩), .pointer (some ⟨bs, o + 3, none⟩)] 153) | _ => Calls Try.prog 29 #[.pointer (some ⟨g, 0, none⟩), .pointer (some ⟨bs, o + 4, none⟩)] x fun e w3 => e = .returned (.tuple #[]) ∧ Calls Try.prog 28 #[.pointer (some ⟨g, 0, none⟩), .pointer (some ⟨bs, o + 5, none⟩), .func (.func 29) #[] #[]] w3 fun e w4 => e = .returned (.tuple #[]) ∧ Calls Try.prog 35 #[.pointer (some ⟨g, 0, none⟩), .pointer (some ⟨bs, o + 6, none⟩)] w4 fun e w5 => e = .returned (.tuple #[]) ∧ R (.returned (.tuple #[])) w5) [some (.pointer (some ⟨g, 0, none⟩)), some (.pointer (some ⟨bs, o, none⟩)), some (.pointer (some ⟨bs, o, none⟩)), some (.pointer (some ⟨bs, o + 2, none⟩)), some (.pointer (some ⟨bs, o, none⟩)), some (.pointer (some ⟨bs, o, none⟩)), some (.pointer (some ⟨bs, o + 3, none⟩)), some (.slice (some ⟨w1.heap.size, 0, none⟩) 2 2), some (.tuple #[])] (by decide) (by decide) (by kernel_rfl) (by kernel_rfl) (rfl) ?_ ?_
    · refine ⟨?_, ?_, ?_, ?_, ?_, ?_, ?_, ?_, ?_, trivial⟩
      · -- 0: slot 13 := Op.move t0
        refine OwesS.q rfl fun a w j u hC hb hs => ⟨rfl, ?_⟩
        have e0 : a.tmps.getD 0 undef = .pointer (some ⟨g, 0, none⟩) := hs.free 0 rfl
        refine ValWp.pure (v := .pointer (some ⟨g, 0, none⟩)) (fun K' hK' => ?_) ⟨rfl, rfl⟩
        simp only [ValWp, execOp, Act.eval, e0]
        go_simp
        all_goals exact hK'
      · -- 1: slot 14 := Op.move t1
        refine OwesS.q rfl fun a w j u hC hb hs => ⟨rfl, ?_⟩
        have e1 : a.tmps.getD 1 undef = .pointer (some ⟨bs, o, none⟩) := hs.free 1 rfl
        refine ValWp.pure (v := .pointer (some ⟨bs, o, none⟩)) (fun K' hK' => ?_) ⟨rfl, rfl⟩
        simp only [ValWp, execOp, Act.eval, e1]
        go_simp
        all_goals exact hK'
      · -- 2: slot 15 := Op.nilCheck t14
        refine OwesS.q rfl fun a w j u hC hb hs => ⟨rfl, ?_⟩
        have e14 : a.tmps.getD 14 undef = .pointer (some ⟨bs, o, none⟩) := hs.dep 1 _ rfl rfl
        refine ValWp.pure (v := .pointer (some ⟨bs, o, none⟩)) (fun K' hK' => ?_) ⟨rfl, rfl⟩
        simp only [ValWp, execOp, Act.eval, e14]
        go_simp
        all_goals exact hK'
      · -- 3: slot 16 := Op.fieldAddr 36 t15 2
        refine OwesS.q rfl fun a w j u hC hb hs => ⟨rfl, ?_⟩
        have e15 : a.tmps.getD 15 undef = .pointer (some ⟨bs, o, none⟩) := hs.dep 2 _ rfl rfl
        refine ValWp.pure (v := .pointer (some ⟨bs, o + 2, none⟩)) (fun K' hK' => ?_) ⟨rfl, rfl⟩
        simp only [ValWp, execOp, Act.eval, e15]
        go_simp
        all_goals exact hK'
      · -- 4: slot 17 := Op.move t1
        refine OwesS.q rfl fun a w j u hC hb hs => ⟨rfl, ?_⟩
        have e1 : a.tmps.getD 1 undef = .pointer (some ⟨bs, o, none⟩) := hs.free 1 rfl
        refine ValWp.pure (v := .pointer (some ⟨bs, o, none⟩)) (fun K' hK' => ?_) ⟨rfl, rfl⟩
        simp only [ValWp, execOp, Act.eval, e1]
        go_simp
        all_goals exact hK'
      · -- 5: slot 18 := Op.nilCheck t17
        refine OwesS.q rfl fun a w j u hC hb hs => ⟨rfl, ?_⟩
        have e17 : a.tmps.getD 17 undef = .pointer (some ⟨bs, o, none⟩) := hs.dep 4 _ rfl rfl
        refine ValWp.pure (v := .pointer (some ⟨bs, o, none⟩)) (fun K' hK' => ?_) ⟨rfl, rfl⟩
        simp only [ValWp, execOp, Act.eval, e17]
        go_simp
        all_goals exact hK'
      · -- 6: slot 19 := Op.fieldAddr 36 t18 3
        refine OwesS.q rfl fun a w j u hC hb hs => ⟨rfl, ?_⟩
        have e18 : a.tmps.getD 18 undef = .pointer (some ⟨bs, o, none⟩) := hs.dep 5 _ rfl rfl
        refine ValWp.pure (v := .pointer (some ⟨bs, o + 3, none⟩)) (fun K' hK' => ?_) ⟨rfl, rfl⟩
        simp only [ValWp, execOp, Act.eval, e18]
        go_simp
        all_goals exact hK'
      · -- 7: slot 20 := Op.buildSlice 176 2 #[(0, t16), (1, t19)]
        refine OwesS.w rfl fun a w u hC hl hs => ⟨rfl, fun K hK => ?_⟩
        have e16 : a.tmps.getD 16 undef = .pointer (some ⟨bs, o + 2, none⟩) := hs.dep 3 _ rfl rfl
        have e19 : a.tmps.getD 19 undef = .pointer (some ⟨bs, o + 3, none⟩) := hs.dep 6 _ rfl rfl
        subst hC
        refine wp_of_val ?_
        refine ValWp.pure (v := .slice (some ⟨w1.heap.size, 0, none⟩) 2 2) (w' := w1.drew.alloc (.cells #[.pointer (some ⟨bs, o + 2, none⟩), .pointer (some ⟨bs, o + 3, none⟩)] 153)) (fun K' hK' => ?_) (hK _ _ rfl rfl)
        simp only [ValWp, execOp, Act.eval, List.map_toArray, List.map_cons, List.map_nil, e16, e19]
        go_simp
        all_goals exact hK'
      · -- 8: slot 21 := Op.call { value (Operand.func 55), args := #[t13, t20], argTypes := #[75, 176] }
        refine OwesS.w rfl fun a w u hC hl hs => ⟨rfl, fun K hK => ?_⟩
        have e13 : a.tmps.getD 13 undef = .pointer (some ⟨g, 0, none⟩) := hs.dep 0 _ rfl rfl
        have e20 : a.tmps.getD 20 undef = .slice (some ⟨w1.heap.size, 0, none⟩) 2 2 := hs.dep 7 _ rfl rfl
        subst hC
        refine wp_of_val ?_
        refine ValWp.call #[.pointer (some ⟨g, 0, none⟩), .slice (some ⟨w1.heap.size, 0, none⟩) 2 2] rfl rfl Try.func55 rfl rfl (by simp only [List.map_toArray, List.map_cons, List.map_nil, Act.eval, e13, e20]) ?_
        refine H1.out.mono ?_
        rintro e w' ⟨rfl, hb⟩
        exact ⟨_, rfl, hK _ _ rfl hb⟩
    · intro a w u hC hl hd hsz hfree hs
      obtain ⟨u13, hu13⟩ : ∃ u, u = a.tmps.getD 13 undef := ⟨_, rfl⟩
      obtain ⟨u14, hu14⟩ : ∃ u, u = a.tmps.getD 14 undef := ⟨_, rfl⟩
      obtain ⟨u15, hu15⟩ : ∃ u, u = a.tmps.getD 15 undef := ⟨_, rfl⟩
      obtain ⟨u16, hu16⟩ : ∃ u, u = a.tmps.getD 16 undef := ⟨_, rfl⟩
      obtain ⟨u17, hu17⟩ : ∃ u, u = a.tmps.getD 17 undef := ⟨_, rfl⟩
      obtain ⟨u18, hu18⟩ : ∃ u, u = a.tmps.getD 18 undef := ⟨_, rfl⟩
      obtain ⟨u19, hu19⟩ : ∃ u, u = a.tmps.getD 19 undef := ⟨_, rfl⟩
      obtain ⟨u20, hu20⟩ : ∃ u, u = a.tmps.getD 20 undef := ⟨_, rfl⟩
      obtain ⟨u21, hu21⟩ : ∃ u, u = a.tmps.getD 21 undef := ⟨_, rfl⟩
      have hal : AllAt a 0 [_, _, _, _, _, _, _, _, _, _, _, _, _, u13, u14, u15, u16, u17, u18, u19, u20, u21, _, _, _, _, _, _, _, _, _, _, _, _, _, _, _] := ⟨hfree 0 rfl, hfree 1 rfl, hfree 2 rfl, hfree 3 rfl, hfree 4 rfl, hfree 5 rfl, hfree 6 rfl, hfree 7 rfl, hfree 8 rfl, hfree 9 rfl, hfree 10 rfl, hfree 11 rfl, hfree 12 rfl, hu13.symm, hu14.symm, hu15.symm, hu16.symm, hu17.symm, hu18.symm, hu19.symm, hu20.symm, hu21.symm, hfree 22 rfl, hfree 23 rfl, hfree 24 rfl, hfree 25 rfl, hfree 26 rfl, hfree 27 rfl, hfree 28 rfl, hfree 29 rfl, hfree 30 rfl, hfree 31 rfl, hfree 32 rfl, hfree 33 rfl, hfree 34 rfl, hfree 35 rfl, hfree 36 rfl, trivial⟩
      have hlit := fun h => act_lit hd h hal
      rw [hlit hsz]
      simp only [Array.getD_eq_getD_getElem?, List.getElem?_toArray, List.getElem?_cons_zero, List.getElem?_cons_succ, Option.getD_some]
      clear hlit hal hd hsz hfree hs hu13 hu14 hu15 hu16 hu17 hu18 hu19 hu20 hu21
      have H2 := Lib.hid (show Calls Try.prog 29 #[.pointer (some ⟨g, 0, none⟩), .pointer (some ⟨bs, o + 4, none⟩)] w fun e w3 => e = .returned (.tuple #[]) ∧ Calls Try.prog 28 #[.pointer (some ⟨g, 0, none⟩), .pointer (some ⟨bs, o + 5, none⟩), .func (.func 29) #[] #[]] w3 fun e w4 => e = .returned (.tuple #[]) ∧ Calls Try.prog 35 #[.pointer (some ⟨g, 0, none⟩), .pointer (some ⟨bs, o + 6, none⟩)] w4 fun e w5 => e = .returned (.tuple #[]) ∧ R (.returned (.tuple #[])) w5 from hC)
      clear hC hl
      obtain ⟨w2, hw2⟩ : ∃ x, x = w := ⟨_, rfl⟩
      rw [← hw2] at H2 ⊢
      clear hw2
      go_wp2_with (first
        | (go_at_call 29; with_reducible refine H2.out.mono ?_; rintro e w3 ⟨rfl, h3⟩; have H3 := Lib.hid h3; clear h3)
        | (go_at_call 28; with_reducible refine H3.out.mono ?_; rintro e w4 ⟨rfl, h4⟩; have H4 := Lib.hid h4; clear h4)
        | (go_at_call 35; with_reducible refine H4.out.mono ?_; rintro e w5 ⟨rfl, h5⟩; have H5 := Lib.hid h5; clear h5))
      go_end0
      exact H5.out
theorem frame_cps (g bs o : Nat) (w0 : World) (R : Ending → World → Prop) (h : Calls Try.prog 36 #[.pointer (some ⟨g, 0, none⟩), .slice (some ⟨w0.heap.size, 0, none⟩) 5 5] (w0.drew.alloc (.cells #[.pointer (some ⟨bs, o, none⟩), .pointer (some ⟨bs, o + 1, none⟩), .pointer (some ⟨bs, o + 2, none⟩), .pointer (some ⟨bs, o + 3, none⟩), .pointer (some ⟨bs, o + 4, none⟩)] 111)) fun e w1 => e = .returned (.tuple #[]) ∧ Calls Try.prog 37 #[.pointer (some ⟨g, 0, none⟩), .pointer (some ⟨bs, o + 5, none⟩)] w1 fun e w2 => e = .returned (.tuple #[]) ∧ Calls Try.prog 55 #[.pointer (some ⟨g, 0, none⟩), .slice (some ⟨w2.heap.size, 0, none⟩) 2 2] (w2.drew.alloc (.cells #[.pointer (some ⟨bs, o + 6, none⟩), .pointer (some ⟨bs, o + 7, none⟩)] 153)) fun e w3 => e = .returned (.tuple #[]) ∧ Calls Try.prog 29 #[.pointer (some ⟨g, 0, none⟩), .pointer (some ⟨bs, o + 8, none⟩)] w3 fun e w4 => e = .returned (.tuple #[]) ∧ Calls Try.prog 56 #[.pointer (some ⟨g, 0, none⟩), .pointer (some ⟨bs, o + 9, none⟩), .func (.func 57) #[] #[]] w4 fun e w5 => e = .returned (.tuple #[]) ∧ Calls Try.prog 28 #[.pointer (some ⟨g, 0, none⟩), .pointer (some ⟨bs, o + 10, none⟩), .func (.func 29) #[] #[]] w5 fun e w6 => e = .returned (.tuple #[]) ∧ Calls Try.prog 58 #[.pointer (some ⟨g, 0, none⟩), .pointer (some ⟨bs, o + 11, none⟩), .func (.func 59) #[] #[]] w6 fun e w7 => e = .returned (.tuple #[]) ∧ Calls Try.prog 27 #[.pointer (some ⟨g, 0, none⟩), .pointer (some ⟨bs, o + 12, none⟩)] w7 fun e w8 => e = .returned (.tuple #[]) ∧ R (.returned (.tuple #[])) w8) : Calls Try.prog 31 #[.pointer (some ⟨g, 0, none⟩), .pointer (some ⟨bs, o, none⟩)] w0 R := by
  have H0 := Lib.hid h
  clear h
  go_enter Try.func31, Try.ntmps31
  go_wp2_with fail
  refine wp_region_seq (by kernel_rfl) [16, 17] (fun j _ x => match j with | 0 => x = w0.drew | 1 => x = w0.drew.alloc (.cells #[.pointer (some ⟨bs, o, none⟩), .pointer (some ⟨bs, o + 1, none⟩), .pointer (some ⟨bs, o + 2, none⟩), .pointer (some ⟨bs, o + 3, none⟩), .pointer (some ⟨bs, o + 4, none⟩)] 111) | _ => Calls Try.prog 37 #[.pointer (some ⟨g, 0, none⟩), .pointer (some ⟨bs, o + 5, none⟩)] x fun e w2 => e = .returned (.tuple #[]) ∧ Calls Try.prog 55 #[.pointer (some ⟨g, 0, none⟩), .slice (some ⟨w2.heap.size, 0, none⟩) 2 2] (w2.drew.alloc (.cells #[.pointer (some ⟨bs, o + 6, none⟩), .pointer (some ⟨bs, o + 7, none⟩)] 153)) fun e w3 => e = .returned (.tuple #[]) ∧ Calls Try.prog 29 #[.pointer (some ⟨g, 0, none⟩), .pointer (some ⟨bs, o + 8, none⟩)] w3 fun e w4 => e = .returned (.tuple #[]) ∧ Calls Try.prog 56 #[.pointer (some ⟨g, 0, none⟩), .pointer (some ⟨bs, o + 9, none⟩), .func (.func 57) #[] #[]] w4 fun e w5 => e = .returned (.tuple #[]) ∧ Calls Try.prog 28 #[.pointer (some ⟨g, 0, none⟩), .pointer (some ⟨bs, o + 10, none⟩), .func (.func 29) #[] #[]] w5 fun e w6 => e = .returned (.tuple #[]) ∧ Calls Try.prog 58 #[.pointer (some ⟨g, 0, none⟩), .pointer (some ⟨bs, o + 11, none⟩), .func (.func 59) #[] #[]] w6 fun e w7 => e = .returned (.tuple #[]) ∧ Calls Try.prog 27 #[.pointer (some ⟨g, 0, none⟩), .pointer (some ⟨bs, o + 12, none⟩)] w7 fun e w8 => e = .returned (.tuple #[]) ∧ R (.returned (.tuple #[])) w8) [some (.pointer (some ⟨g, 0, none⟩)), some (.pointer (some ⟨bs, o, none⟩)), some (.pointer (some ⟨bs, o, none⟩)), some (.pointer (some ⟨bs, o, none⟩)), some (.pointer (some ⟨bs, o, none⟩)), some (.pointer (some ⟨bs, o, none⟩)), some (.pointer (some ⟨bs, o + 1, none⟩)), some (.pointer (some ⟨bs, o, none⟩)), some (.pointer (some ⟨bs, o, none⟩)), some (.pointer (some ⟨bs, o + 2, none⟩)), some (.pointer (some ⟨bs, o, none⟩)), some (.pointer (some ⟨bs, o, none⟩)), some (.pointer (some ⟨bs, o + 3, none⟩)), some (.pointer (some ⟨bs, o, none⟩)), some (.pointer (some ⟨bs, o, none⟩)), some (.pointer (some ⟨bs, o + 4, none⟩)), some (.slice (some ⟨w0.heap.size, 0, none⟩) 5 5), some (.tuple #[])] (by decide) (by decide) (by kernel_rfl) (by kernel_rfl) (rfl) ?_ ?_
  · refine ⟨?_, ?_, ?_, ?_, ?_, ?_, ?_, ?_, ?_, ?_, ?_, ?_, ?_, ?_, ?_, ?_, ?_, ?_, trivial⟩
    · -- 0: slot 4 := Op.move t0
      refine OwesS.q rfl fun a w j u hC hb hs => ⟨rfl, ?_⟩
      have e0 : a.tmps.getD 0 undef = .pointer (some ⟨g, 0, none⟩) := hs.free 0 rfl
      refine ValWp.pure (v := .pointer (some ⟨g, 0, none⟩)) (fun K' hK' => ?_) ⟨rfl, rfl⟩
      simp only [ValWp, execOp, Act.eval, e0]
      go_simp
      all_goals exact hK'
    · -- 1: slot 5 := Op.move t1
      refine OwesS.q rfl fun a w j u hC hb hs => ⟨rfl, ?_⟩
      have e1 : a.tmps.getD 1 undef = .pointer (some ⟨bs, o, none⟩) := hs.free 1 rfl
      refine ValWp.pure (v := .pointer (some ⟨bs, o, none⟩)) (fun K' hK' => ?_) ⟨rfl, rfl⟩
      simp only [ValWp, execOp, Act.eval, e1]
      go_simp
      all_goals exact hK'
    · -- 2: slot 6 := Op.nilCheck t5
      refine OwesS.q rfl fun a w j u hC hb hs => ⟨rfl, ?_⟩
      have e5 : a.tmps.getD 5 undef = .pointer (some ⟨bs, o, none⟩) := hs.dep 1 _ rfl rfl
      refine ValWp.pure (v := .pointer (some ⟨bs, o, none⟩)) (fun K' hK' => ?_) ⟨rfl, rfl⟩
      simp only [ValWp, execOp, Act.eval, e5]
      go_simp
      all_goals exact hK'
    · -- 3: slot 7 := Op.fieldAddr 70 t6 0
      refine OwesS.q rfl fun a w j u hC hb hs => ⟨rfl, ?_⟩
      have e6 : a.tmps.getD 6 undef = .pointer (some ⟨bs, o, none⟩) := hs.dep 2 _ rfl rfl
      refine ValWp.pure (v := .pointer (some ⟨bs, o, none⟩)) (fun K' hK' => ?_) ⟨rfl, rfl⟩
      simp only [ValWp, execOp, Act.eval, e6]
      go_simp
      all_goals exact hK'
    · -- 4: slot 8 := Op.move t1
      refine OwesS.q rfl fun a w j u hC hb hs => ⟨rfl, ?_⟩
      have e1 : a.tmps.getD 1 undef = .pointer (some ⟨bs, o, none⟩) := hs.free 1 rfl
      refine ValWp.pure (v := .pointer (some ⟨bs, o, none⟩)) (fun K' hK' => ?_) ⟨rfl, rfl⟩
      simp only [ValWp, execOp, Act.eval, e1]
      go_simp
      all_goals exact hK'
    · -- 5: slot 9 := Op.nilCheck t8
      refine OwesS.q rfl fun a w j u hC hb hs => ⟨rfl, ?_⟩
      have e8 : a.tmps.getD 8 undef = .pointer (some ⟨bs, o, none⟩) := hs.dep 4 _ rfl rfl
      refine ValWp.pure (v := .pointer (some ⟨bs, o, none⟩)) (fun K' hK' => ?_) ⟨rfl, rfl⟩
      simp only [ValWp, execOp, Act.eval, e8]
      go_simp
      all_goals exact hK'
    · -- 6: slot 10 := Op.fieldAddr 70 t9 1
      refine OwesS.q rfl fun a w j u hC hb hs => ⟨rfl, ?_⟩
      have e9 : a.tmps.getD 9 undef = .pointer (some ⟨bs, o, none⟩) := hs.dep 5 _ rfl rfl
      refine ValWp.pure (v := .pointer (some ⟨bs, o + 1, none⟩)) (fun K' hK' => ?_) ⟨rfl, rfl⟩
      simp only [ValWp, execOp, Act.eval, e9]
      go_simp
      all_goals exact hK'
    · -- 7: slot 11 := Op.move t1
      refine OwesS.q rfl fun a w j u hC hb hs => ⟨rfl, ?_⟩
      have e1 : a.tmps.getD 1 undef = .pointer (some ⟨bs, o, none⟩) := hs.free 1 rfl
      refine ValWp.pure (v := .pointer (some ⟨bs, o, none⟩)) (fun K' hK' => ?_) ⟨rfl, rfl⟩
      simp only [ValWp, execOp, Act.eval, e1]
      go_simp
      all_goals exact hK'
    · -- 8: slot 12 := Op.nilCheck t11
      refine OwesS.q rfl fun a w j u hC hb hs => ⟨rfl, ?_⟩
      have e11 : a.tmps.getD 11 undef = .pointer (some ⟨bs, o, none⟩) := hs.dep 7 _ rfl rfl
      refine ValWp.pure (v := .pointer (some ⟨bs, o, none⟩)) (fun K' hK' => ?_) ⟨rfl, rfl⟩
      simp only [ValWp, execOp, Act.eval, e11]
      go_simp
      all_goals exact hK'
    · -- 9: slot 13 := Op.fieldAddr 70 t12 2
      refine OwesS.q rfl fun a w j u hC hb hs => ⟨rfl, ?_⟩
      have e12 : a.tmps.getD 12 undef = .pointer (some ⟨bs, o, none⟩) := hs.dep 8 _ rfl rfl
      refine ValWp.pure (v := .pointer (some ⟨bs, o + 2, none⟩)) (fun K' hK' => ?_) ⟨rfl, rfl⟩
      simp only [ValWp, execOp, Act.eval, e12]
      go_simp
      all_goals exact hK'
    · -- 10: slot 14 := Op.move t1
      refine OwesS.q rfl fun a w j u hC hb hs => ⟨rfl, ?_⟩
      have e1 : a.tmps.getD 1 undef = .pointer (some ⟨bs, o, none⟩) := hs.free 1 rfl
      refine ValWp.pure (v := .pointer (some ⟨bs, o, none⟩)) (fun K' hK' => ?_) ⟨rfl, rfl⟩
      simp only [ValWp, execOp, Act.eval, e1]
      go_simp
      all_goals exact hK'
    · -- 11: slot 15 := Op.nilCheck t14
      refine OwesS.q rfl fun a w j u hC hb hs => ⟨rfl, ?_⟩
      have e14 : a.tmps.getD 14 undef = .pointer (some ⟨bs, o, none⟩) := hs.dep 10 _ rfl rfl
      refine ValWp.pure (v := .pointer (some ⟨bs, o, none⟩)) (fun K' hK' => ?_) ⟨rfl, rfl⟩
      simp only [ValWp, execOp, Act.eval, e14]
      go_simp
      all_goals exact hK'
    · -- 12: slot 16 := Op.fieldAddr 70 t15 3
      refine OwesS.q rfl fun a w j u hC hb hs => ⟨rfl, ?_⟩
      have e15 : a.tmps.getD 15 undef = .pointer (some ⟨bs, o, none⟩) := hs.dep 11 _ rfl rfl
      refine ValWp.pure (v := .pointer (some ⟨bs, o + 3, none⟩)) (fun K' hK' => ?_) ⟨rfl, rfl⟩
      simp only [ValWp, execOp, Act.eval, e15]
      go_simp
      all_goals exact hK'
    · -- 13: slot 17 := Op.move t1
      refine OwesS.q rfl fun a w j u hC hb hs => ⟨rfl, ?_⟩
      have e1 : a.tmps.getD 1 undef = .pointer (some ⟨bs, o, none⟩) := hs.free 1 rfl
      refine ValWp.pure (v := .pointer (some ⟨bs, o, none⟩)) (fun K' hK' => ?_) ⟨rfl, rfl⟩
      simp only [ValWp, execOp, Act.eval, e1]
      go_simp
      all_goals exact hK'
    · -- 14: slot 18 := Op.nilCheck t17
      refine OwesS.q rfl fun a w j u hC hb hs => ⟨rfl, ?_⟩
      have e17 : a.tmps.getD 17 undef = .pointer (some ⟨bs, o, none⟩) := hs.dep 13 _ rfl rfl
      refine ValWp.pure (v := .pointer (some ⟨bs, o, none⟩)) (fun K' hK' => ?_) ⟨rfl, rfl⟩
      simp only [ValWp, execOp, Act.eval, e17]
      go_simp
      all_goals exact hK'
    · -- 15: slot 19 := Op.fieldAddr 70 t18 4
      refine OwesS.q rfl fun a w j u hC hb hs => ⟨rfl, ?_⟩
      have e18 : a.tmps.getD 18 undef = .pointer (some ⟨bs, o, none⟩) := hs.dep 14 _ rfl rfl
      refine ValWp.pure (v := .pointer (some ⟨bs, o + 4, none⟩)) (fun K' hK' => ?_) ⟨rfl, rfl⟩
      simp only [ValWp, execOp, Act.eval, e18]
      go_simp
      all_goals exact hK'
    · -- 16: slot 20 := Op.buildSlice 163 5 #[(0, t7), (1, t10), (2, t13), (3, t16), (4, t19)]
      refine OwesS.w rfl fun a w u hC hl hs => ⟨rfl, fun K hK => ?_⟩
      have e7 : a.tmps.getD 7 undef = .pointer (some ⟨bs, o, none⟩) := hs.dep 3 _ rfl rfl
      have e10 : a.tmps.getD 10 undef = .pointer (some ⟨bs, o + 1, none⟩) := hs.dep 6 _ rfl rfl
      have e13 : a.tmps.getD 13 undef = .pointer (some ⟨bs, o + 2, none⟩) := hs.dep 9 _ rfl rfl
      have e16 : a.tmps.getD 16 undef = .pointer (some ⟨bs, o + 3, none⟩) := hs.dep 12 _ rfl rfl
      have e19 : a.tmps.getD 19 undef = .pointer (some ⟨bs, o + 4, none⟩) := hs.dep 15 _ rfl rfl
      subst hC
      refine wp_of_val ?_
      refine ValWp.pure (v := .slice (some ⟨w0.heap.size, 0, none⟩) 5 5) (w' := w0.drew.alloc (.cells #[.pointer (some ⟨bs, o, none⟩), .pointer (some ⟨bs, o + 1, none⟩), .pointer (some ⟨bs, o + 2, none⟩), .pointer (some ⟨bs, o + 3, none⟩), .pointer (some ⟨bs, o + 4, none⟩)] 111)) (fun K' hK' => ?_) (hK _ _ rfl rfl)
      simp only [ValWp, execOp, Act.eval, List.map_toArray, List.map_cons, List.map_nil, e7, e10, e13, e16, e19]
      go_simp
      all_goals exact hK'
    · -- 17: slot 21 := Op.call { value (Operand.func 36), args := #[t4, t20], argTypes := #[75, 163] }
      refine OwesS.w rfl fun a w u hC hl hs => ⟨rfl, fun K hK => ?_⟩
      have e4 : a.tmps.getD 4 undef = .pointer (some ⟨g, 0, none⟩) := hs.dep 0 _ rfl rfl
      have e20 : a.tmps.getD 20 undef = .slice (some ⟨w0.heap.size, 0, none⟩) 5 5 := hs.dep 16 _ rfl rfl
      subst hC
      refine wp_of_val ?_
      refine ValWp.call #[.pointer (some ⟨g, 0, none⟩), .slice (some ⟨w0.heap.size, 0, none⟩) 5 5] rfl rfl Try.func36 rfl rfl (by simp only [List.map_toArray, List.map_cons, List.map_nil, Act.eval, e4, e20]) ?_
      refine H0.out.mono ?_
      rintro e w' ⟨rfl, hb⟩
      exact ⟨_, rfl, hK _ _ rfl hb⟩
  · intro a w u hC hl hd hsz hfree hs
    obtain ⟨u4, hu4⟩ : ∃ u, u = a.tmps.getD 4 undef := ⟨_, rfl⟩
    obtain ⟨u5, hu5⟩ : ∃ u, u = a.tmps.getD 5 undef := ⟨_, rfl⟩
    obtain ⟨u6, hu6⟩ : ∃ u, u = a.tmps.getD 6 undef := ⟨_, rfl⟩
    obtain ⟨u7, hu7⟩ : ∃ u, u = a.tmps.getD 7 undef := ⟨_, rfl⟩
    obtain ⟨u8, hu8⟩ : ∃ u, u = a.tmps.getD 8 undef := ⟨_, rfl⟩
    obtain ⟨u9, hu9⟩ : ∃ u, u = a.tmps.getD 9 undef := ⟨_, rfl⟩
    obtain ⟨u10, hu10⟩ : ∃ u, u = a.tmps.getD 10 undef := ⟨_, rfl⟩
    obtain ⟨u11, hu11⟩ : ∃ u, u = a.tmps.getD 11 undef := ⟨_, rfl⟩
    obtain ⟨u12, hu12⟩ : ∃ u, u = a.tmps.getD 12 undef := ⟨_, rfl⟩
    obtain ⟨u13, hu13⟩ : ∃ u, u = a.tmps.getD 13 undef := ⟨_, rfl⟩
    obtain ⟨u14, hu14⟩ : ∃ u, u = a.tmps.getD 14 undef := ⟨_, rfl⟩
    obtain ⟨u15, hu15⟩ : ∃ u, u = a.tmps.getD 15 undef := ⟨_, rfl⟩
    obtain ⟨u16, hu16⟩ : ∃ u, u = a.tmps.getD 16 undef := ⟨_, rfl⟩
    obtain ⟨u17, hu17⟩ : ∃ u, u = a.tmps.getD 17 undef := ⟨_, rfl⟩
    obtain ⟨u18, hu18⟩ : ∃ u, u = a.tmps.getD 18 undef := ⟨_, rfl⟩
    obtain ⟨u19, hu19⟩ : ∃ u, u = a.tmps.getD 19 undef := ⟨_, rfl⟩
    obtain ⟨u20, hu20⟩ : ∃ u, u = a.tmps.getD 20 undef := ⟨_, rfl⟩
    obtain ⟨u21, hu21⟩ : ∃ u, u = a.tmps.getD 21 undef := ⟨_, rfl⟩
    have hal : AllAt a 0 [_, _, _, _, u4, u5, u6, u7, u8, u9, u10, u11, u12, u13, u14, u15, u16, u17, u18, u19, u20, u21, _, _, _, _, _, _, _, _, _, _, _, _, _, _, _, _, _, _, _, _, _, _, _, _, _, _, _, _, _, _, _, _, _, _, _, _, _, _, _] := ⟨hfree 0 rfl, hfree 1 rfl, hfree 2 rfl, hfree 3 rfl, hu4.symm, hu5.symm, hu6.symm, hu7.symm, hu8.symm, hu9.symm, hu10.symm, hu11.symm, hu12.symm, hu13.symm, hu14.symm, hu15.symm, hu16.symm, hu17.symm, hu18.symm, hu19.symm, hu20.symm, hu21.symm, hfree 22 rfl, hfree 23 rfl, hfree 24 rfl, hfree 25 rfl, hfree 26 rfl, hfree 27 rfl, hfree 28 rfl, hfree 29 rfl, hfree 30 rfl, hfree 31 rfl, hfree 32 rfl, hfree 33 rfl, hfree 34 rfl, hfree 35 rfl, hfree 36 rfl, hfree 37 rfl, hfree 38 rfl, hfree 39 rfl, hfree 40 rfl, hfree 41 rfl, hfree 42 rfl, hfree 43 rfl, hfree 44 rfl, hfree 45 rfl, hfree 46 rfl, hfree 47 rfl, hfree 48 rfl, hfree 49 rfl, hfree 50 rfl, hfree 51 rfl, hfree 52 rfl, hfree 53 rfl, hfree 54 rfl, hfree 55 rfl, hfree 56 rfl, hfree 57 rfl, hfree 58 rfl, hfree 59 rfl, hfree 60 rfl, trivial⟩
    have hlit := fun h => act_lit hd h hal
    rw [hlit hsz]
    simp only [Array.getD_eq_getD_getElem?, List.getElem?_toArray, List.getElem?_cons_zero, List.getElem?_cons_succ, Option.getD_some]
    clear hlit hal hd hsz hfree hs hu4 hu5 hu6 hu7 hu8 hu9 hu10 hu11 hu12 hu13 hu14 hu15 hu16 hu17 hu18 hu19 hu20 hu21
    have H1 := Lib.hid (show Calls Try.prog 37 #[.pointer (some ⟨g, 0, none⟩), .pointer (some ⟨bs, o + 5, none⟩)] w fun e w2 => e = .returned (.tuple #[]) ∧ Calls Try.prog 55 #[.pointer (some ⟨g, 0, none⟩), .slice (some ⟨w2.heap.size, 0, none⟩) 2 2] (w2.drew.alloc (.cells #[.pointer (some ⟨bs, o + 6, none⟩), .pointer (some ⟨bs, o + 7, none⟩)] 153)) fun e w3 => e = .returned (.tuple #[]) ∧ Calls Try.prog 29 #[.pointer (some ⟨g, 0, none⟩), .pointer (some ⟨bs, o + 8, none⟩)] w3 fun e w4 => e = .returned (.tuple #[]) ∧ Calls Try.prog 56 #[.pointer (some ⟨g, 0, none⟩), .pointer (some ⟨bs, o + 9, none⟩), .func (.func 57) #[] #[]] w4 fun e w5 => e = .returned (.tuple #[]) ∧ Calls Try.prog 28 #[.pointer (some ⟨g, 0, none⟩), .pointer (some ⟨bs, o + 10, none⟩), .func (.func 29) #[] #[]] w5 fun e w6 => e = .returned (.tuple #[]) ∧ Calls Try.prog 58 #[.pointer (some ⟨g, 0, none⟩), .pointer (some ⟨bs, o + 11, none⟩), .func (.func 59) #[] #[]] w6 fun e w7 => e = .returned (.tuple #[]) ∧ Calls Try.prog 27 #[.pointer (some ⟨g, 0, none⟩), .pointer (some ⟨bs, o + 12, none⟩)] w7 fun e w8 => e = .returned (.tuple #[]) ∧ R (.returned (.tuple #[])) w8 from hC)
    clear hC hl
    obtain ⟨w1, hw1⟩ : ∃ x, x = w := ⟨_, rfl⟩
    rw [← hw1] at H1 ⊢
    clear hw1
    go_wp2_with (first
      | (go_at_call 37; with_reducible refine H1.out.mono ?_; rintro e w2 ⟨rfl, h2⟩; have H2 := Lib.hid h2; clear h2))
    refine wp_region_seq (by kernel_rfl) [7, 8] (fun j _ x => match j with | 0 => x = w2.drew | 1 => x = w2.drew.alloc (.cells #[.pointer (some ⟨bs, o + 6, none⟩), .pointer (some ⟨bs, o + 7, none⟩)] 153) | _ => Calls Try.prog 29 #[.pointer (some ⟨g, 0, none⟩), .pointer (some ⟨bs, o + 8, none⟩)] x fun e w4 => e = .returned (.tuple #[]) ∧ Calls Try.prog 56 #[.pointer (some ⟨g, 0, none⟩), .pointer (some ⟨bs, o + 9, none⟩), .func (.func 57) #[] #[]] w4 fun e w5 => e = .returned (.tuple #[]) ∧ Calls Try.prog 28 #[.pointer (some ⟨g, 0, none⟩), .pointer (some ⟨bs, o + 10, none⟩), .func (.func 29) #[] #[]] w5 fun e w6 => e = .returned (.tuple #[]) ∧ Calls Try.prog 58 #[.pointer (some ⟨g, 0, none⟩), .pointer (some ⟨bs, o + 11, none⟩), .func (.func 59) #[] #[]] w6 fun e w7 => e = .returned (.tuple #[]) ∧ Calls Try.prog 27 #[.pointer (some ⟨g, 0, none⟩), .pointer (some ⟨bs, o + 12, none⟩)] w7 fun e w8 => e = .returned (.tuple #[]) ∧ R (.returned (.tuple #[])) w8) [some (.pointer (some ⟨g, 0, none⟩)), some (.pointer (some ⟨bs, o, none⟩)), some (.pointer (some ⟨bs, o, none⟩)), some (.pointer (some ⟨bs, o + 6, none⟩)), some (.pointer (some ⟨bs, o, none⟩)), some (.pointer (some ⟨bs, o, none⟩)), some (.pointer (some ⟨bs, o + 7, none⟩)), some (.slice (some ⟨w2.heap.size, 0, none⟩) 2 2), some (.tuple #[])] (by decide) (by decide) (by kernel_rfl) (by kernel_rfl) (rfl) ?_ ?_
    · refine ⟨?_, ?_, ?_, ?_, ?_, ?_, ?_, ?_, ?_, trivial⟩
      · -- 0: slot 27 := Op.move t0
        refine OwesS.q rfl fun a w j u hC hb hs => ⟨rfl, ?_⟩
        have e0 : a.tmps.getD 0 undef = .pointer (some ⟨g, 0, none⟩) := hs.free 0 rfl
        refine ValWp.pure (v := .pointer (some ⟨g, 0, none⟩)) (fun K' hK' => ?_) ⟨rfl, rfl⟩
        simp only [ValWp, execOp, Act.eval, e0]
        go_simp
        all_goals exact hK'
      · -- 1: slot 28 := Op.move t1
        refine OwesS.q rfl fun a w j u hC hb hs => ⟨rfl, ?_⟩
        have e1 : a.tmps.getD 1 undef = .pointer (some ⟨bs, o, none⟩) := hs.free 1 rfl
        refine ValWp.pure (v := .pointer (some ⟨bs, o, none⟩)) (fun K' hK' => ?_) ⟨rfl, rfl⟩
        simp only [ValWp, execOp, Act.eval, e1]
        go_simp
        all_goals exact hK'
      · -- 2: slot 29 := Op.nilCheck t28
        refine OwesS.q rfl fun a w j u hC hb hs => ⟨rfl, ?_⟩
        have e28 : a.tmps.getD 28 undef = .pointer (some ⟨bs, o, none⟩) := hs.dep 1 _ rfl rfl
        refine ValWp.pure (v := .pointer (some ⟨bs, o, none⟩)) (fun K' hK' => ?_) ⟨rfl, rfl⟩
        simp only [ValWp, execOp, Act.eval, e28]
        go_simp
        all_goals exact hK'
      · -- 3: slot 30 := Op.fieldAddr 70 t29 6
        refine OwesS.q rfl fun a w j u hC hb hs => ⟨rfl, ?_⟩
        have e29 : a.tmps.getD 29 undef = .pointer (some ⟨bs, o, none⟩) := hs.dep 2 _ rfl rfl
        refine ValWp.pure (v := .pointer (some ⟨bs, o + 6, none⟩)) (fun K' hK' => ?_) ⟨rfl, rfl⟩
        simp only [ValWp, execOp, Act.eval, e29]
        go_simp
        all_goals exact hK'
      · -- 4: slot 31 := Op.move t1
        refine OwesS.q rfl fun a w j u hC hb hs => ⟨rfl, ?_⟩
        have e1 : a.tmps.getD 1 undef = .pointer (some ⟨bs, o, none⟩) := hs.free 1 rfl
        refine ValWp.pure (v := .pointer (some ⟨bs, o, none⟩)) (fun K' hK' => ?_) ⟨rfl, rfl⟩
        simp only [ValWp, execOp, Act.eval, e1]
        go_simp
        all_goals exact hK'
      · -- 5: slot 32 := Op.nilCheck t31
        refine OwesS.q rfl fun a w j u hC hb hs => ⟨rfl, ?_⟩
        have e31 : a.tmps.getD 31 undef = .pointer (some ⟨bs, o, none⟩) := hs.dep 4 _ rfl rfl
        refine ValWp.pure (v := .pointer (some ⟨bs, o, none⟩)) (fun K' hK' => ?_) ⟨rfl, rfl⟩
        simp only [ValWp, execOp, Act.eval, e31]
        go_simp
        all_goals exact hK'
      · -- 6: slot 33 := Op.fieldAddr 70 t32 7
        refine OwesS.q rfl fun a w j u hC hb hs => ⟨rfl, ?_⟩
        have e32 : a.tmps.getD 32 undef = .pointer (some ⟨bs, o, none⟩) := hs.dep 5 _ rfl rfl
        refine ValWp.pure (v := .pointer (some ⟨bs, o + 7, none⟩)) (fun K' hK' => ?_) ⟨rfl, rfl⟩
        simp only [ValWp, execOp, Act.eval, e32]
        go_simp
        all_goals exact hK'
      · -- 7: slot 34 := Op.buildSlice 176 2 #[(0, t30), (1, t33)]
        refine OwesS.w rfl fun a w u hC hl hs => ⟨rfl, fun K hK => ?_⟩
        have e30 : a.tmps.getD 30 undef = .pointer (some ⟨bs, o + 6, none⟩) := hs.dep 3 _ rfl rfl
        have e33 : a.tmps.getD 33 undef = .pointer (some ⟨bs, o + 7, none⟩) := hs.dep 6 _ rfl rfl
        subst hC
        refine wp_of_val ?_
        refine ValWp.pure (v := .slice (some ⟨w2.heap.size, 0, none⟩) 2 2) (w' := w2.drew.alloc (.cells #[.pointer (some ⟨bs, o + 6, none⟩), .pointer (some ⟨bs, o + 7, none⟩)] 153)) (fun K' hK' => ?_) (hK _ _ rfl rfl)
        simp only [ValWp, execOp, Act.eval, List.map_toArray, List.map_cons, List.map_nil, e30, e33]
        go_simp
        all_goals exact hK'
      · -- 8: slot 35 := Op.call { value (Operand.func 55), args := #[t27, t34], argTypes := #[75, 176] }
        refine OwesS.w rfl fun a w u hC hl hs => ⟨rfl, fun K hK => ?_⟩
        have e27 : a.tmps.getD 27 undef = .pointer (some ⟨g, 0, none⟩) := hs.dep 0 _ rfl rfl
        have e34 : a.tmps.getD 34 undef = .slice (some ⟨w2.heap.size, 0, none⟩) 2 2 := hs.dep 7 _ rfl rfl
        subst hC
        refine wp_of_val ?_
        refine ValWp.call #[.pointer (some ⟨g, 0, none⟩), .slice (some ⟨w2.heap.size, 0, none⟩) 2 2] rfl rfl Try.func55 rfl rfl (by simp only [List.map_toArray, List.map_cons, List.map_nil, Act.eval, e27, e34]) ?_
        refine H2.out.mono ?_
        rintro e w' ⟨rfl, hb⟩
        exact ⟨_, rfl, hK _ _ rfl hb⟩
    · intro a w u hC hl hd hsz hfree hs
      obtain ⟨u27, hu27⟩ : ∃ u, u = a.tmps.getD 27 undef := ⟨_, rfl⟩
      obtain ⟨u28, hu28⟩ : ∃ u, u = a.tmps.getD 28 undef := ⟨_, rfl⟩
      obtain ⟨u29, hu29⟩ : ∃ u, u = a.tmps.getD 29 undef := ⟨_, rfl⟩
      obtain ⟨u30, hu30⟩ : ∃ u, u = a.tmps.getD 30 undef := ⟨_, rfl⟩
      obtain ⟨u31, hu31⟩ : ∃ u, u = a.tmps.getD 31 undef := ⟨_, rfl⟩
      obtain ⟨u32, hu32⟩ : ∃ u, u = a.tmps.getD 32 undef := ⟨_, rfl⟩
      obtain ⟨u33, hu33⟩ : ∃ u, u = a.tmps.getD 33 undef := ⟨_, rfl⟩
      obtain ⟨u34, hu34⟩ : ∃ u, u = a.tmps.getD 34 undef := ⟨_, rfl⟩
      obtain ⟨u35, hu35⟩ : ∃ u, u = a.tmps.getD 35 undef := ⟨_, rfl⟩
      have hal : AllAt a 0 [_, _, _, _, _, _, _, _, _, _, _, _, _, _, _, _, _, _, _, _, _, _, _, _, _, _, _, u27, u28, u29, u30, u31, u32, u33, u34, u35, _, _, _, _, _, _, _, _, _, _, _, _, _, _, _, _, _, _, _, _, _, _, _, _, _] := ⟨hfree 0 rfl, hfree 1 rfl, hfree 2 rfl, hfree 3 rfl, hfree 4 rfl, hfree 5 rfl, hfree 6 rfl, hfree 7 rfl, hfree 8 rfl, hfree 9 rfl, hfree 10 rfl, hfree 11 rfl, hfree 12 rfl, hfree 13 rfl, hfree 14 rfl, hfree 15 rfl, hfree 16 rfl, hfree 17 rfl, hfree 18 rfl, hfree 19 rfl, hfree 20 rfl, hfree 21 rfl, hfree 22 rfl, hfree 23 rfl, hfree 24 rfl, hfree 25 rfl, hfree 26 rfl, hu27.symm, hu28.symm, hu29.symm, hu30.symm, hu31.symm, hu32.symm, hu33.symm, hu34.symm, hu35.symm, hfree 36 rfl, hfree 37 rfl, hfree 38 rfl, hfree 39 rfl, hfree 40 rfl, hfree 41 rfl, hfree 42 rfl, hfree 43 rfl, hfree 44 rfl, hfree 45 rfl, hfree 46 rfl, hfree 47 rfl, hfree 48 rfl, hfree 49 rfl, hfree 50 rfl, hfree 51 rfl, hfree 52 rfl, hfree 53 rfl, hfree 54 rfl, hfree 55 rfl, hfree 56 rfl, hfree 57 rfl, hfree 58 rfl, hfree 59 rfl, hfree 60 rfl, trivial⟩
      have hlit := fun h => act_lit hd h hal
      rw [hlit hsz]
      simp only [Array.getD_eq_getD_getElem?, List.getElem?_toArray, List.getElem?_cons_zero, List.getElem?_cons_succ, Option.getD_some]
      clear hlit hal hd hsz hfree hs hu27 hu28 hu29 hu30 hu31 hu32 hu33 hu34 hu35
      have H3 := Lib.hid (show Calls Try.prog 29 #[.pointer (some ⟨g, 0, none⟩), .pointer (some ⟨bs, o + 8, none⟩)] w fun e w4 => e = .returned (.tuple #[]) ∧ Calls Try.prog 56 #[.pointer (some ⟨g, 0, none⟩), .pointer (some ⟨bs, o + 9, none⟩), .func (.func 57) #[] #[]] w4 fun e w5 => e = .returned (.tuple #[]) ∧ Calls Try.prog 28 #[.pointer (some ⟨g, 0, none⟩), .pointer (some ⟨bs, o + 10, none⟩), .func (.func 29) #[] #[]] w5 fun e w6 => e = .returned (.tuple #[]) ∧ Calls Try.prog 58 #[.pointer (some ⟨g, 0, none⟩), .pointer (some ⟨bs, o + 11, none⟩), .func (.func 59) #[] #[]] w6 fun e w7 => e = .returned (.tuple #[]) ∧ Calls Try.prog 27 #[.pointer (some ⟨g, 0, none⟩), .pointer (some ⟨bs, o + 12, none⟩)] w7 fun e w8 => e = .returned (.tuple #[]) ∧ R (.returned (.tuple #[])) w8 from hC)
      clear hC hl
      obtain ⟨w3, hw3⟩ : ∃ x, x = w := ⟨_, rfl⟩
      rw [← hw3] at H3 ⊢
      clear hw3
      go_wp2_with (first
        | (go_at_call 29; with_reducible refine H3.out.mono ?_; rintro e w4 ⟨rfl, h4⟩; have H4 := Lib.hid h4; clear h4)
        | (go_at_call 56; with_reducible refine H4.out.mono ?_; rintro e w5 ⟨rfl, h5⟩; have H5 := Lib.hid h5; clear h5)
        | (go_at_call 28; with_reducible refine H5.out.mono ?_; rintro e w6 ⟨rfl, h6⟩; have H6 := Lib.hid h6; clear h6)
        | (go_at_call 58; with_reducible refine H6.out.mono ?_; rintro e w7 ⟨rfl, h7⟩; have H7 := Lib.hid h7; clear h7)
        | (go_at_call 27; with_reducible refine H7.out.mono ?_; rintro e w8 ⟨rfl, h8⟩; have H8 := Lib.hid h8; clear h8))
      go_end0
      exact H8.out
theorem whole_cps (g bs o : Nat) (w0 : World) (R : Ending → World → Prop) (h : Calls Try.prog 27 #[.pointer (some ⟨g, 0, none⟩), .pointer (some ⟨bs, o, none⟩)] w0 fun e w1 => e = .returned (.tuple #[]) ∧ Calls Try.prog 28 #[.pointer (some ⟨g, 0, none⟩), .pointer (some ⟨bs, o + 7, none⟩), .func (.func 29) #[] #[]] w1 fun e w2 => e = .returned (.tuple #[]) ∧ Calls Try.prog 30 #[.pointer (some ⟨g, 0, none⟩), .pointer (some ⟨bs, o + 8, none⟩), .func (.func 31) #[] #[]] w2 fun e w3 => e = .returned (.tuple #[]) ∧ Calls Try.prog 32 #[.pointer (some ⟨g, 0, none⟩), .pointer (some ⟨bs, o + 9, none⟩)] w3 fun e w4 => e = .returned (.tuple #[]) ∧ Calls Try.prog 33 #[.pointer (some ⟨g, 0, none⟩), .pointer (some ⟨bs, o + 14, none⟩)] w4 fun e w5 => e = .returned (.tuple #[]) ∧ Calls Try.prog 34 #[.pointer (some ⟨g, 0, none⟩), .pointer (some ⟨bs, o + 21, none⟩), .func (.func 35) #[] #[]] w5 fun e w6 => e = .returned (.tuple #[]) ∧ Calls Try.prog 36 #[.pointer (some ⟨g, 0, none⟩), .slice (some ⟨w6.heap.size, 0, none⟩) 3 3] (w6.drew.alloc (.cells #[.pointer (some ⟨bs, o + 22, none⟩), .pointer (some ⟨bs, o + 23, none⟩), .pointer (some ⟨bs, o + 24, none⟩)] 111)) fun e w7 => e = .returned (.tuple #[]) ∧ Calls Try.prog 37 #[.pointer (some ⟨g, 0, none⟩), .pointer (some ⟨bs, o + 25, none⟩)] w7 fun e w8 => e = .returned (.tuple #[]) ∧ Calls Try.prog 37 #[.pointer (some ⟨g, 0, none⟩), .pointer (some ⟨bs, o + 26, none⟩)] w8 fun e w9 => e = .returned (.tuple #[]) ∧ Calls Try.prog 37 #[.pointer (some ⟨g, 0, none⟩), .pointer (some ⟨bs, o + 27, none⟩)] w9 fun e w10 => e = .returned (.tuple #[]) ∧ Calls Try.prog 38 #[.pointer (some ⟨g, 0, none⟩), .pointer (some ⟨bs, o + 28, none⟩)] w10 fun e w11 => e = .returned (.tuple #[]) ∧ R (.returned (.tuple #[])) w11) : Calls Try.prog 14 #[.pointer (some ⟨g, 0, none⟩), .pointer (some ⟨bs, o, none⟩)] w0 R := by
  have H0 := Lib.hid h
  clear h
  go_enter Try.func14, Try.ntmps14
  go_wp2_with (first
    | (go_at_call 27; with_reducible refine H0.out.mono ?_; rintro e w1 ⟨rfl, h1⟩; have H1 := Lib.hid h1; clear h1)
    | (go_at_call 28; with_reducible refine H1.out.mono ?_; rintro e w2 ⟨rfl, h2⟩; have H2 := Lib.hid h2; clear h2)
    | (go_at_call 30; with_reducible refine H2.out.mono ?_; rintro e w3 ⟨rfl, h3⟩; have H3 := Lib.hid h3; clear h3)
    | (go_at_call 32; with_reducible refine H3.out.mono ?_; rintro e w4 ⟨rfl, h4⟩; have H4 := Lib.hid h4; clear h4)
    | (go_at_call 33; with_reducible refine H4.out.mono ?_; rintro e w5 ⟨rfl, h5⟩; have H5 := Lib.hid h5; clear h5)
    | (go_at_call 34; with_reducible refine H5.out.mono ?_; rintro e w6 ⟨rfl, h6⟩; have H6 := Lib.hid h6; clear h6))
  refine wp_region_seq (by kernel_rfl) [10, 11] (fun j _ x => match j with | 0 => x = w6.drew | 1 => x = w6.drew.alloc (.cells #[.pointer (some ⟨bs, o + 22, none⟩), .pointer (some ⟨bs, o + 23, none⟩), .pointer (some ⟨bs, o + 24, none⟩)] 111) | _ => Calls Try.prog 37 #[.pointer (some ⟨g, 0, none⟩), .pointer (some ⟨bs, o + 25, none⟩)] x fun e w8 => e = .returned (.tuple #[]) ∧ Calls Try.prog 37 #[.pointer (some ⟨g, 0, none⟩), .pointer (some ⟨bs, o + 26, none⟩)] w8 fun e w9 => e = .returned (.tuple #[]) ∧ Calls Try.prog 37 #[.pointer (some ⟨g, 0, none⟩), .pointer (some ⟨bs, o + 27, none⟩)] w9 fun e w10 => e = .returned (.tuple #[]) ∧ Calls Try.prog 38 #[.pointer (some ⟨g, 0, none⟩), .pointer (some ⟨bs, o + 28, none⟩)] w10 fun e w11 => e = .returned (.tuple #[]) ∧ R (.returned (.tuple #[])) w11) [some (.pointer (some ⟨g, 0, none⟩)), some (.pointer (some ⟨bs, o, none⟩)), some (.pointer (some ⟨bs, o, none⟩)), some (.pointer (some ⟨bs, o + 22, none⟩)), some (.pointer (some ⟨bs, o, none⟩)), some (.pointer (some ⟨bs, o, none⟩)), some (.pointer (some ⟨bs, o + 23, none⟩)), some (.pointer (some ⟨bs, o, none⟩)), some (.pointer (some ⟨bs, o, none⟩)), some (.pointer (some ⟨bs, o + 24, none⟩)), some (.slice (some ⟨w6.heap.size, 0, none⟩) 3 3), some (.tuple #[])] (by decide) (by decide) (by kernel_rfl) (by kernel_rfl) (rfl) ?_ ?_
  · refine ⟨?_, ?_, ?_, ?_, ?_, ?_, ?_, ?_, ?_, ?_, ?_, ?_, trivial⟩
    · -- 0: slot 34 := Op.move t0
      refine OwesS.q rfl fun a w j u hC hb hs => ⟨rfl, ?_⟩
      have e0 : a.tmps.getD 0 undef = .pointer (some ⟨g, 0, none⟩) := hs.free 0 rfl
      refine ValWp.pure (v := .pointer (some ⟨g, 0, none⟩)) (fun K' hK' => ?_) ⟨rfl, rfl⟩
      simp only [ValWp, execOp, Act.eval, e0]
      go_simp
      all_goals exact hK'
    · -- 1: slot 35 := Op.move t1
      refine OwesS.q rfl fun a w j u hC hb hs => ⟨rfl, ?_⟩
      have e1 : a.tmps.getD 1 undef = .pointer (some ⟨bs, o, none⟩) := hs.free 1 rfl
      refine ValWp.pure (v := .pointer (some ⟨bs, o, none⟩)) (fun K' hK' => ?_) ⟨rfl, rfl⟩
      simp only [ValWp, execOp, Act.eval, e1]
      go_simp
      all_goals exact hK'
    · -- 2: slot 36 := Op.nilCheck t35
      refine OwesS.q rfl fun a w j u hC hb hs => ⟨rfl, ?_⟩
      have e35 : a.tmps.getD 35 undef = .pointer (some ⟨bs, o, none⟩) := hs.dep 1 _ rfl rfl
      refine ValWp.pure (v := .pointer (some ⟨bs, o, none⟩)) (fun K' hK' => ?_) ⟨rfl, rfl⟩
      simp only [ValWp, execOp, Act.eval, e35]
      go_simp
      all_goals exact hK'
    · -- 3: slot 37 := Op.fieldAddr 40 t36 6
      refine OwesS.q rfl fun a w j u hC hb hs => ⟨rfl, ?_⟩
      have e36 : a.tmps.getD 36 undef = .pointer (some ⟨bs, o, none⟩) := hs.dep 2 _ rfl rfl
      refine ValWp.pure (v := .pointer (some ⟨bs, o + 22, none⟩)) (fun K' hK' => ?_) ⟨rfl, rfl⟩
      simp only [ValWp, execOp, Act.eval, e36]
      go_simp
      all_goals exact hK'
    · -- 4: slot 38 := Op.move t1
      refine OwesS.q rfl fun a w j u hC hb hs => ⟨rfl, ?_⟩
      have e1 : a.tmps.getD 1 undef = .pointer (some ⟨bs, o, none⟩) := hs.free 1 rfl
      refine ValWp.pure (v := .pointer (some ⟨bs, o, none⟩)) (fun K' hK' => ?_) ⟨rfl, rfl⟩
      simp only [ValWp, execOp, Act.eval, e1]
      go_simp
      all_goals exact hK'
    · -- 5: slot 39 := Op.nilCheck t38
      refine OwesS.q rfl fun a w j u hC hb hs => ⟨rfl, ?_⟩
      have e38 : a.tmps.getD 38 undef = .pointer (some ⟨bs, o, none⟩) := hs.dep 4 _ rfl rfl
      refine ValWp.pure (v := .pointer (some ⟨bs, o, none⟩)) (fun K' hK' => ?_) ⟨rfl, rfl⟩
      simp only [ValWp, execOp, Act.eval, e38]
      go_simp
      all_goals exact hK'
    · -- 6: slot 40 := Op.fieldAddr 40 t39 7
      refine OwesS.q rfl fun a w j u hC hb hs => ⟨rfl, ?_⟩
      have e39 : a.tmps.getD 39 undef = .pointer (some ⟨bs, o, none⟩) := hs.dep 5 _ rfl rfl
      refine ValWp.pure (v := .pointer (some ⟨bs, o + 23, none⟩)) (fun K' hK' => ?_) ⟨rfl, rfl⟩
      simp only [ValWp, execOp, Act.eval, e39]
      go_simp
      all_goals exact hK'
    · -- 7: slot 41 := Op.move t1
      refine OwesS.q rfl fun a w j u hC hb hs => ⟨rfl, ?_⟩
      have e1 : a.tmps.getD 1 undef = .pointer (some ⟨bs, o, none⟩) := hs.free 1 rfl
      refine ValWp.pure (v := .pointer (some ⟨bs, o, none⟩)) (fun K' hK' => ?_) ⟨rfl, rfl⟩
      simp only [ValWp, execOp, Act.eval, e1]
      go_simp
      all_goals exact hK'
    · -- 8: slot 42 := Op.nilCheck t41
      refine OwesS.q rfl fun a w j u hC hb hs => ⟨rfl, ?_⟩
      have e41 : a.tmps.getD 41 undef = .pointer (some ⟨bs, o, none⟩) := hs.dep 7 _ rfl rfl
      refine ValWp.pure (v := .pointer (some ⟨bs, o, none⟩)) (fun K' hK' => ?_) ⟨rfl, rfl⟩
      simp only [ValWp, execOp, Act.eval, e41]
      go_simp
      all_goals exact hK'
    · -- 9: slot 43 := Op.fieldAddr 40 t42 8
      refine OwesS.q rfl fun a w j u hC hb hs => ⟨rfl, ?_⟩
      have e42 : a.tmps.getD 42 undef = .pointer (some ⟨bs, o, none⟩) := hs.dep 8 _ rfl rfl
      refine ValWp.pure (v := .pointer (some ⟨bs, o + 24, none⟩)) (fun K' hK' => ?_) ⟨rfl, rfl⟩
      simp only [ValWp, execOp, Act.eval, e42]
      go_simp
      all_goals exact hK'
    · -- 10: slot 44 := Op.buildSlice 163 3 #[(0, t37), (1, t40), (2, t43)]
      refine OwesS.w rfl fun a w u hC hl hs => ⟨rfl, fun K hK => ?_⟩
      have e37 : a.tmps.getD 37 undef = .pointer (some ⟨bs, o + 22, none⟩) := hs.dep 3 _ rfl rfl
      have e40 : a.tmps.getD 40 undef = .pointer (some ⟨bs, o + 23, none⟩) := hs.dep 6 _ rfl rfl
      have e43 : a.tmps.getD 43 undef = .pointer (some ⟨bs, o + 24, none⟩) := hs.dep 9 _ rfl rfl
      subst hC
      refine wp_of_val ?_
      refine ValWp.pure (v := .slice (some ⟨w6.heap.size, 0, none⟩) 3 3) (w' := w6.drew.alloc (.cells #[.pointer (some ⟨bs, o + 22, none⟩), .pointer (some ⟨bs, o + 23, none⟩), .pointer (some ⟨bs, o + 24, none⟩)] 111)) (fun K' hK' => ?_) (hK _ _ rfl rfl)
      simp only [ValWp, execOp, Act.eval, List.map_toArray, List.map_cons, List.map_nil, e37, e40, e43]
      go_simp
      all_goals exact hK'
    · -- 11: slot 45 := Op.call { value (Operand.func 36), args := #[t34, t44], argTypes := #[75, 163] }
      refine OwesS.w rfl fun a w u hC hl hs => ⟨rfl, fun K hK => ?_⟩
      have e34 : a.tmps.getD 34 undef = .pointer (some ⟨g, 0, none⟩) := hs.dep 0 _ rfl rfl
      have e44 : a.tmps.getD 44 undef = .slice (some ⟨w6.heap.size, 0, none⟩) 3 3 := hs.dep 10 _ rfl rfl
      subst hC
      refine wp_of_val ?_
      refine ValWp.call #[.pointer (some ⟨g, 0, none⟩), .slice (some ⟨w6.heap.size, 0, none⟩) 3 3] rfl rfl Try.func36 rfl rfl (by simp only [List.map_toArray, List.map_cons, List.map_nil, Act.eval, e34, e44]) ?_
      refine H6.out.mono ?_
      rintro e w' ⟨rfl, hb⟩
      exact ⟨_, rfl, hK _ _ rfl hb⟩
  · intro a w u hC hl hd hsz hfree hs
    obtain ⟨u34, hu34⟩ : ∃ u, u = a.tmps.getD 34 undef := ⟨_, rfl⟩
    obtain ⟨u35, hu35⟩ : ∃ u, u = a.tmps.getD 35 undef := ⟨_, rfl⟩
    obtain ⟨u36, hu36⟩ : ∃ u, u = a.tmps.getD 36 undef := ⟨_, rfl⟩
    obtain ⟨u37, hu37⟩ : ∃ u, u = a.tmps.getD 37 undef := ⟨_, rfl⟩
    obtain ⟨u38, hu38⟩ : ∃ u, u = a.tmps.getD 38 undef := ⟨_, rfl⟩
    obtain ⟨u39, hu39⟩ : ∃ u, u = a.tmps.getD 39 undef := ⟨_, rfl⟩
    obtain ⟨u40, hu40⟩ : ∃ u, u = a.tmps.getD 40 undef := ⟨_, rfl⟩
    obtain ⟨u41, hu41⟩ : ∃ u, u = a.tmps.getD 41 undef := ⟨_, rfl⟩
    obtain ⟨u42, hu42⟩ : ∃ u, u = a.tmps.getD 42 undef := ⟨_, rfl⟩
    obtain ⟨u43, hu43⟩ : ∃ u, u = a.tmps.getD 43 undef := ⟨_, rfl⟩
    obtain ⟨u44, hu44⟩ : ∃ u, u = a.tmps.getD 44 undef := ⟨_, rfl⟩
    obtain ⟨u45, hu45⟩ : ∃ u, u = a.tmps.getD 45 undef := ⟨_, rfl⟩
    have hal : AllAt a 0 [_, _, _, _, _, _, _, _, _, _, _, _, _, _, _, _, _, _, _, _, _, _, _, _, _, _, _, _, _, _, _, _, _, _, u34, u35, u36, u37, u38, u39, u40, u41, u42, u43, u44, u45, _, _, _, _, _, _, _, _, _, _, _, _, _, _, _, _, _, _, _, _] := ⟨hfree 0 rfl, hfree 1 rfl, hfree 2 rfl, hfree 3 rfl, hfree 4 rfl, hfree 5 rfl, hfree 6 rfl, hfree 7 rfl, hfree 8 rfl, hfree 9 rfl, hfree 10 rfl, hfree 11 rfl, hfree 12 rfl, hfree 13 rfl, hfree 14 rfl, hfree 15 rfl, hfree 16 rfl, hfree 17 rfl, hfree 18 rfl, hfree 19 rfl, hfree 20 rfl, hfree 21 rfl, hfree 22 rfl, hfree 23 rfl, hfree 24 rfl, hfree 25 rfl, hfree 26 rfl, hfree 27 rfl, hfree 28 rfl, hfree 29 rfl, hfree 30 rfl, hfree 31 rfl, hfree 32 rfl, hfree 33 rfl, hu34.symm, hu35.symm, hu36.symm, hu37.symm, hu38.symm, hu39.symm, hu40.symm, hu41.symm, hu42.symm, hu43.symm, hu44.symm, hu45.symm, hfree 46 rfl, hfree 47 rfl, hfree 48 rfl, hfree 49 rfl, hfree 50 rfl, hfree 51 rfl, hfree 52 rfl, hfree 53 rfl, hfree 54 rfl, hfree 55 rfl, hfree 56 rfl, hfree 57 rfl, hfree 58 rfl, hfree 59 rfl, hfree 60 rfl, hfree 61 rfl, hfree 62 rfl, hfree 63 rfl, hfree 64 rfl, hfree 65 rfl, trivial⟩
    have hlit := fun h => act_lit hd h hal
    rw [hlit hsz]
    simp only [Array.getD_eq_getD_getElem?, List.getElem?_toArray, List.getElem?_cons_zero, List.getElem?_cons_succ, Option.getD_some]
    clear hlit hal hd hsz hfree hs hu34 hu35 hu36 hu37 hu38 hu39 hu40 hu41 hu42 hu43 hu44 hu45
    have H7 := Lib.hid (show Calls Try.prog 37 #[.pointer (some ⟨g, 0, none⟩), .pointer (some ⟨bs, o + 25, none⟩)] w fun e w8 => e = .returned (.tuple #[]) ∧ Calls Try.prog 37 #[.pointer (some ⟨g, 0, none⟩), .pointer (some ⟨bs, o + 26, none⟩)] w8 fun e w9 => e = .returned (.tuple #[]) ∧ Calls Try.prog 37 #[.pointer (some ⟨g, 0, none⟩), .pointer (some ⟨bs, o + 27, none⟩)] w9 fun e w10 => e = .returned (.tuple #[]) ∧ Calls Try.prog 38 #[.pointer (some ⟨g, 0, none⟩), .pointer (some ⟨bs, o + 28, none⟩)] w10 fun e w11 => e = .returned (.tuple #[]) ∧ R (.returned (.tuple #[])) w11 from hC)
    clear hC hl
    obtain ⟨w7, hw7⟩ : ∃ x, x = w := ⟨_, rfl⟩
    rw [← hw7] at H7 ⊢
    clear hw7
    go_wp2_with (first
      | (go_at_call 37; with_reducible refine H7.out.mono ?_; rintro e w8 ⟨rfl, h8⟩; have H8 := Lib.hid h8; clear h8)
      | (go_at_call 37; with_reducible refine H8.out.mono ?_; rintro e w9 ⟨rfl, h9⟩; have H9 := Lib.hid h9; clear h9)
      | (go_at_call 37; with_reducible refine H9.out.mono ?_; rintro e w10 ⟨rfl, h10⟩; have H10 := Lib.hid h10; clear h10)
      | (go_at_call 38; with_reducible refine H10.out.mono ?_; rintro e w11 ⟨rfl, h11⟩; have H11 := Lib.hid h11; clear h11))
    go_end0
    exact H11.out
end Ks
end Go.Proofs.Yteljmlodbnfhbaa
