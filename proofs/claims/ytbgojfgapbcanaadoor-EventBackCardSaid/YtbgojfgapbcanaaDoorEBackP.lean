/- THE STATEMENT OF EventBack, out of the walk of its text: for every input the call returns true, and what was handed in reads as it did. No conditions. -/
import Derived.Test.YtbgojfgapbcanaaDoorRows
import Derived.Test.YtbgojfgapbcanaaDoorEBackV
import Derived.Test.YtbgojfgapbcanaaDoorFld
import Derived.Test.YtbgojfgapbcanaaDoorArgs
import Derived.ChangeOld
import Derived.Test.YtbgojfgapbcanaaDoorLaid
import Derived.Test.YtbgojfgapbcanaaDoorCards
import Derived.Test.YtbgojfgapbcanaaDoorTie
import Derived.SevenTiedAt
namespace Go.Proofs.YtbgojfgapbcanaaDoor
namespace eventBack
open Go.ChangeShapes Go.WideShapes Go.ChangeAt Go.RowKit
open Go.ChangeMaps (open_string shut_string)
theorem own : ownKnob Tryd.prog.godebug = none := by kernel_rfl
theorem laidOut : laidOutB Tryd.prog = true := by kernel_rfl
set_option maxRecDepth 100000 in
theorem contract (H : Type) (enc : TypeId × Value → H) (W : World) (base : Nat) (args : Array Value) (ds gs : List (DataW H)) (before : List MemPlace)
    (hval0 : ∀ (j : Nat) t v, Tryd.f5.params[j]? = some t → args[j]? = some v → Value.okWide Tryd.prog W .any base t v)
    (hW : DataW.Whole enc Tryd.prog Tryd.f5.params.toList Rows.eventBackSpec.vars false W args.toList ds gs before) (hNames : Names W) :
    Calls Tryd.prog 5 args W fun e W' => ∃ v, e = .returned v ∧ Rows.eventBackSpec.post enc Tryd.prog Tryd.f5 false true false false W args v W' := by
  have hval : ∀ (j : Nat) t v, Tryd.f5.params[j]? = some t → args[j]? = some v → Value.okWide Tryd.prog W .any base t v := hval0
  have hW' := hW
  obtain ⟨p, q, hA0, hV, rfl, hfz, hnd⟩ := hW
  have hA : DataW.TrodAll enc Tryd.prog W 0 (fun _ => true) true Tryd.f5.params.toList args.toList ds p := hA0
  rw [Tryd.params5] at hA hval
  obtain ⟨v0, vs0, d0, ds0, p0, q0, hargs, rfl, rfl, h0, r0⟩ := trodAll_cons hA
  obtain ⟨v1, vs1, d1, ds1, p1, q1, rfl, rfl, rfl, h1, r1⟩ := trodAll_cons r0
  obtain ⟨v2, vs2, d2, ds2, p2, q2, rfl, rfl, rfl, h2, r2⟩ := trodAll_cons r1
  obtain ⟨v3, vs3, d3, ds3, p3, q3, rfl, rfl, rfl, h3, r3⟩ := trodAll_cons r2
  obtain ⟨rfl, rfl, rfl⟩ := trodAll_nil r3
  obtain rfl : args = #[v0, v1, v2, v3] := by cases args; simp_all
  obtain ⟨rfl, rfl⟩ := trodVars_none hV
  have k0 := h0
  have lt0 : ∀ x ∈ p0, x.block < W.heap.size := by obtain ⟨m, hm⟩ := k0; exact DataW.trod_lt m _ _ _ hm
  have k1 := h1
  have lt1 : ∀ x ∈ p1, x.block < W.heap.size := by obtain ⟨m, hm⟩ := k1; exact DataW.trod_lt m _ _ _ hm
  have k2 := h2
  have lt2 : ∀ x ∈ p2, x.block < W.heap.size := by obtain ⟨m, hm⟩ := k2; exact DataW.trod_lt m _ _ _ hm
  have k3 := h3
  have lt3 : ∀ x ∈ p3, x.block < W.heap.size := by obtain ⟨m, hm⟩ := k3; exact DataW.trod_lt m _ _ _ hm
  obtain ⟨cs0, rfl, hz0, fu0, hf0⟩ := open_fields Tryd.underlying24 (by kernel_rfl) (by kernel_rfl) (hval 0 24 v0 rfl rfl) h0
  obtain ⟨u0_0, u0_1, u0_2, u0_3, u0_4, rfl⟩ := array_5 hz0
  obtain ⟨y0_0, hy0_0⟩ := hf0 0 _ _ rfl rfl
  obtain ⟨x0_0, rfl, w0_0⟩ := field_int Tryd.underlying3 hy0_0
  obtain ⟨y0_1, hy0_1⟩ := hf0 1 _ _ rfl rfl
  obtain ⟨x0_1, rfl, w0_1⟩ := field_int Tryd.underlying2 hy0_1
  obtain ⟨y0_2, hy0_2⟩ := hf0 2 _ _ rfl rfl
  obtain ⟨x0_2, rfl, w0_2⟩ := field_int Tryd.underlying2 hy0_2
  obtain ⟨y0_3, hy0_3⟩ := hf0 3 _ _ rfl rfl
  obtain ⟨x0_3, rfl, w0_3⟩ := field_string Tryd.underlying9 hy0_3
  obtain ⟨y0_4, hy0_4⟩ := hf0 4 _ _ rfl rfl
  obtain ⟨A0_4, n0_4, c0_4, l0_4, rfl, w0_4⟩ := field_strings Tryd.underlying22 Tryd.underlying9 (by kernel_rfl) hy0_4
  obtain ⟨cs1, rfl, hz1, fu1, hf1⟩ := open_fields Tryd.underlying26 (by kernel_rfl) (by kernel_rfl) (hval 1 26 v1 rfl rfl) h1
  obtain ⟨u1_0, u1_1, u1_2, u1_3, u1_4, u1_5, u1_6, rfl⟩ := array_7 hz1
  obtain ⟨y1_0, hy1_0⟩ := hf1 0 _ _ rfl rfl
  obtain ⟨x1_0, rfl, w1_0⟩ := field_int Tryd.underlying3 hy1_0
  obtain ⟨y1_1, hy1_1⟩ := hf1 1 _ _ rfl rfl
  obtain ⟨x1_1, rfl, w1_1⟩ := field_int Tryd.underlying3 hy1_1
  obtain ⟨y1_2, hy1_2⟩ := hf1 2 _ _ rfl rfl
  obtain ⟨x1_2, rfl, w1_2⟩ := field_int Tryd.underlying2 hy1_2
  obtain ⟨y1_3, hy1_3⟩ := hf1 3 _ _ rfl rfl
  obtain ⟨x1_3, rfl, w1_3⟩ := field_int Tryd.underlying2 hy1_3
  obtain ⟨y1_4, hy1_4⟩ := hf1 4 _ _ rfl rfl
  obtain ⟨x1_4, rfl, w1_4⟩ := field_string Tryd.underlying9 hy1_4
  obtain ⟨y1_5, hy1_5⟩ := hf1 5 _ _ rfl rfl
  obtain ⟨A1_5, n1_5, c1_5, l1_5, rfl, w1_5⟩ := field_strings Tryd.underlying22 Tryd.underlying9 (by kernel_rfl) hy1_5
  obtain ⟨y1_6, hy1_6⟩ := hf1 6 _ _ rfl rfl
  obtain ⟨x1_6, rfl, w1_6⟩ := field_int Tryd.underlying3 hy1_6
  obtain ⟨a2, rfl, rfl, rfl, w2⟩ := open_int Tryd.underlying48 (hval 2 48 v2 rfl rfl) h2
  obtain ⟨a3, rfl, rfl, rfl, w3⟩ := open_int Tryd.underlying5 (hval 3 5 v3 rfl rfl) h3
  clear hA0 hval0
  refine (walk W hNames x0_0 w0_0 x0_1 w0_1 x0_2 w0_2 x0_3 w0_3 A0_4 n0_4 c0_4 l0_4 w0_4 x1_0 w1_0 x1_1 w1_1 x1_2 w1_2 x1_3 w1_3 x1_4 w1_4 A1_5 n1_5 c1_5 l1_5 w1_5 x1_6 w1_6 a2 w2 a3 w3).mono fun e W' ⟨he, bel⟩ => ?_
  subst he
  exact ⟨_, rfl, _, _, _, [], _, [], hW', trodAll_mk1 (shut_bool Tryd.underlying4 _), (trodAll_cons_mk (Below.trod laidOut (by kernel_rfl) (of_decide_eq_true (by kernel_rfl)) k0 bel lt0) (trodAll_cons_mk (Below.trod laidOut (by kernel_rfl) (of_decide_eq_true (by kernel_rfl)) k1 bel lt1) (trodAll_cons_mk (Below.trod laidOut (by kernel_rfl) (of_decide_eq_true (by kernel_rfl)) k2 bel lt2) (trodAll_cons_mk (Below.trod laidOut (by kernel_rfl) (of_decide_eq_true (by kernel_rfl)) k3 bel lt3) trodAll_mk0)))), rfl, bel.frame _, fun h => by cases h⟩
set_option maxRecDepth 100000 in
theorem lifted (os : Os) (started : os.Started) (H : Type) (enc : TypeId × Value → H) :
    ReturnsInHanded {} Tryd.checked os 5 .any (fun w args => (Rows.eventBackSpec.pre enc Tryd.prog Tryd.f5 [] false w args ∧ laidMetH Tryd.prog laidL w) ∧ sizedMet enc Tryd.prog Tryd.f5 (OpenSpec.ofChange Rows.eventBackSpec) false w args) (Rows.eventBackSpec.post enc Tryd.prog Tryd.f5 false true false false) := by
  refine returnsInHanded_of_change_and (C := Tryd.checked) (X := fun w _ => laidMetH Tryd.prog laidL w) (fun _ _ _ hh h => h.of_heap hh) own started (by kernel_rfl) Tryd.func5
    (ChangeSpec.witness_shaped (enc := enc) (C := Tryd.checked) (os := os) (X := fun w _ => laidMetH Tryd.prog laidL w) false (World.doorLaid Tryd.prog 14 os) #[.agg #[.int .i64 0, .int .i64 0, .int .i64 0, .string ByteArray.empty, .slice none 0 0], .agg #[.int .i64 0, .int .i64 0, .int .i64 0, .int .i64 0, .string ByteArray.empty, .slice none 0 0, .int .i64 0], .int .u16 0, .int .u8 0] 8 rfl (World.shaped_of_RefB (by kernel_rfl) (by kernel_rfl)) (by kernel_rfl) (by kernel_rfl) (by kernel_rfl) (door_met os _)) ?_
  intro W base args ds gs before hval0 hW _ _ hL _
  exact contract H enc W base args ds gs before hval0 hW (names_of_laid hL)
theorem said : Rows.EventBackSaid :=
  OpenClaim.holds_of_wide 5 Tryd.f5 rfl rfl rfl rfl rfl rfl rfl ⟨rfl, rfl, rfl, rfl, rfl⟩ rfl rfl rfl rfl rfl (by kernel_rfl) Tryd.func5 (by kernel_rfl)
    (of_decide_eq_true (by kernel_rfl)) (by unfold Func.isWrapper; first | (rw [if_pos (by decide +kernel)]; kernel_rfl) | (rw [if_neg (by decide +kernel)]; exact ⟨rfl, rfl⟩))
    (fun os started H enc _ => lifted os started H enc)
/-- The tied card: the row's statement, and the tie of the listed variable to the program's text. -/
theorem proved : Rows.EventBackCardSaid :=
  Claim7.holds_tied_plain_at .later [] [.data] true Rows.eventBackCard.stood.harness false said (fun _ h => by cases h) (by kernel_rfl) (fun _ h => by cases h) eventBack_row_tie rfl ⟨rfl, rfl⟩ (by kernel_rfl) rfl
    (fun f fn hf hfn => by
      obtain rfl : f = 5 := Option.some.inj ((show Tryd.prog.funcNamed "kinetoscope/kinetoscopelaw04.EventBack" = some 5 by kernel_rfl).symm.trans hf) |>.symm
      obtain rfl : fn = Tryd.f5 := (Option.some.inj (Tryd.func5.symm.trans hfn)).symm
      exact ⟨by kernel_rfl, fun j t ht => by
        rw [Tryd.params5] at ht
        have hm : t ∈ [24, 26, 48, 5] := by simpa using Array.mem_of_getElem? ht
        have hall : ([24, 26, 48, 5].all fun u => !Tryd.prog.wantsStandIn u) = true := by kernel_rfl
        exact (show Tryd.prog.wantsStandIn t = false by simpa using List.all_eq_true.1 hall t hm)⟩)
    (by kernel_rfl)
end eventBack
end Go.Proofs.YtbgojfgapbcanaaDoor
