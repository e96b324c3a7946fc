/- THE STATEMENT OF TesterTold, out of the walk of its text: for every input the call returns true, and what was handed in reads as it did. No conditions. -/
import Derived.Test.YtjidclefpmcgoaaDoorRows
import Derived.Test.YtjidclefpmcgoaaDoorYx
import Derived.Test.YtjidclefpmcgoaaDoorFld
import Derived.Test.YtjidclefpmcgoaaDoorYFl
import Derived.Test.YtjidclefpmcgoaaDoorArgs
import Derived.ChangeOld
import Derived.Test.YtjidclefpmcgoaaDoorYLa
import Derived.Test.YtjidclefpmcgoaaDoorCards
import Derived.Test.YtjidclefpmcgoaaDoorTie
import Derived.SevenTiedAt
namespace Go.Proofs.YtjidclefpmcgoaaDoor
namespace testerTold
open Go.ChangeShapes Go.WideShapes Go.ChangeAt Go.RowKit
open Go.ChangeMaps (open_string shut_string)
theorem own : ownKnob Tryd.prog.godebug = none := by kernel_rfl
theorem laidOut : laidOutB Tryd.prog = true := by kernel_rfl
set_option maxRecDepth 100000 in
theorem contract (H : Type) (enc : TypeId × Value → H) (W : World) (base : Nat) (args : Array Value) (ds gs : List (DataW H)) (before : List MemPlace)
    (hval0 : ∀ (j : Nat) t v, Tryd.f4.params[j]? = some t → args[j]? = some v → Value.okWide Tryd.prog W .any base t v)
    (hW : DataW.Whole enc Tryd.prog Tryd.f4.params.toList Rows.testerToldSpec.vars false W args.toList ds gs before) (hNames : Ar.Vd W) :
    Calls Tryd.prog 4 args W fun e W' => ∃ v, e = .returned v ∧ Rows.testerToldSpec.post enc Tryd.prog Tryd.f4 false true false false W args v W' := by
  have hval : ∀ (j : Nat) t v, Tryd.f4.params[j]? = some t → args[j]? = some v → Value.okWide Tryd.prog W .any base t v := hval0
  have hW' := hW
  obtain ⟨p, q, hA0, hV, rfl, hfz, hnd⟩ := hW
  have hA : DataW.TrodAll enc Tryd.prog W 0 (fun _ => true) true Tryd.f4.params.toList args.toList ds p := hA0
  rw [Tryd.params4] at hA hval
  obtain ⟨v0, vs0, d0, ds0, p0, q0, hargs, rfl, rfl, h0, r0⟩ := trodAll_cons hA
  obtain ⟨v1, vs1, d1, ds1, p1, q1, rfl, rfl, rfl, h1, r1⟩ := trodAll_cons r0
  obtain ⟨rfl, rfl, rfl⟩ := trodAll_nil r1
  obtain rfl : args = #[v0, v1] := by cases args; simp_all
  obtain ⟨rfl, rfl⟩ := trodVars_none hV
  have k0 := h0
  have lt0 : ∀ x ∈ p0, x.block < W.heap.size := by obtain ⟨m, hm⟩ := k0; exact DataW.trod_lt m _ _ _ hm
  have k1 := h1
  have lt1 : ∀ x ∈ p1, x.block < W.heap.size := by obtain ⟨m, hm⟩ := k1; exact DataW.trod_lt m _ _ _ hm
  obtain ⟨cs0, rfl, hz0, fu0, hf0⟩ := open_fields Tryd.underlying25 (by kernel_rfl) (by kernel_rfl) (hval 0 25 v0 rfl rfl) h0
  obtain ⟨u0_0, u0_1, u0_2, rfl⟩ := array_3 hz0
  obtain ⟨y0_0, hy0_0⟩ := hf0 0 _ _ rfl rfl
  obtain ⟨y0_1, hy0_1⟩ := hf0 1 _ _ rfl rfl
  obtain ⟨y0_2, hy0_2⟩ := hf0 2 _ _ rfl rfl
  obtain ⟨x0_0, rfl⟩ := field_bool Tryd.underlying4 hy0_0
  obtain ⟨x0_1, rfl, w0_1⟩ := field_string Tryd.underlying9 hy0_1
  obtain ⟨x0_2, rfl, w0_2⟩ := field_string Tryd.underlying9 hy0_2
  obtain ⟨cs1, rfl, hz1, fu1, hf1⟩ := open_fields Tryd.underlying33 (by kernel_rfl) (by kernel_rfl) (hval 1 33 v1 rfl rfl) h1
  obtain ⟨u1_0, u1_1, u1_2, u1_3, u1_4, u1_5, u1_6, rfl⟩ := array_7 hz1
  obtain ⟨y1_0, hy1_0⟩ := hf1 0 _ _ rfl rfl
  obtain ⟨x1_0, rfl, w1_0⟩ := field_int Tryd.underlying3 hy1_0
  obtain ⟨y1_1, hy1_1⟩ := hf1 1 _ _ rfl rfl
  obtain ⟨x1_1, rfl, w1_1⟩ := field_int Tryd.underlying3 hy1_1
  obtain ⟨y1_2, hy1_2⟩ := hf1 2 _ _ rfl rfl
  obtain ⟨x1_2, rfl, w1_2⟩ := field_int Tryd.underlying2 hy1_2
  obtain ⟨y1_3, hy1_3⟩ := hf1 3 _ _ rfl rfl
  obtain ⟨x1_3, rfl, w1_3⟩ := field_int Tryd.underlying2 hy1_3
  obtain ⟨y1_4, hy1_4⟩ := hf1 4 _ _ rfl rfl
  obtain ⟨x1_4, rfl, w1_4⟩ := field_string Tryd.underlying9 hy1_4
  obtain ⟨y1_5, hy1_5⟩ := hf1 5 _ _ rfl rfl
  obtain ⟨A1_5, n1_5, c1_5, l1_5, rfl, w1_5⟩ := field_strings Tryd.underlying22 Tryd.underlying9 (by kernel_rfl) hy1_5
  obtain ⟨y1_6, hy1_6⟩ := hf1 6 _ _ rfl rfl
  obtain ⟨x1_6, rfl, w1_6⟩ := field_int Tryd.underlying3 hy1_6
  clear hA0 hval0
  refine (walk W hNames x0_0 x0_1 x0_2 x1_0 w1_0 x1_1 w1_1 x1_2 w1_2 x1_3 w1_3 x1_4 w1_4 A1_5 n1_5 c1_5 l1_5 w1_5 x1_6 w1_6).mono fun e W' ⟨he, bel⟩ => ?_
  subst he
  exact ⟨_, rfl, _, _, _, [], _, [], hW', trodAll_mk1 (shut_bool Tryd.underlying4 _), (trodAll_cons_mk (Below.trod laidOut (by kernel_rfl) (of_decide_eq_true (by kernel_rfl)) k0 bel lt0) (trodAll_cons_mk (Below.trod laidOut (by kernel_rfl) (of_decide_eq_true (by kernel_rfl)) k1 bel lt1) trodAll_mk0)), rfl, bel.frame _, fun h => by cases h⟩
set_option maxRecDepth 100000 in
theorem lifted (os : Os) (started : os.Started) (H : Type) (enc : TypeId × Value → H) :
    ReturnsInHanded {} Tryd.checked os 4 .any (fun w args => (Rows.testerToldSpec.pre enc Tryd.prog Tryd.f4 [] false w args ∧ laidMetH Tryd.prog laidL w) ∧ sizedMet enc Tryd.prog Tryd.f4 (OpenSpec.ofChange Rows.testerToldSpec) false w args) (Rows.testerToldSpec.post enc Tryd.prog Tryd.f4 false true false false) := by
  refine returnsInHanded_of_change_and (C := Tryd.checked) (X := fun w _ => laidMetH Tryd.prog laidL w) (fun _ _ _ hh h => h.of_heap hh) own started (by kernel_rfl) Tryd.func4
    (ChangeSpec.witness_shaped (enc := enc) (C := Tryd.checked) (os := os) (X := fun w _ => laidMetH Tryd.prog laidL w) false (World.laidAll Tryd.prog os laidL) #[.agg #[.bool false, .string ByteArray.empty, .string ByteArray.empty], .agg #[.int .i64 0, .int .i64 0, .int .i64 0, .int .i64 0, .string ByteArray.empty, .slice none 0 0, .int .i64 0]] 8 (World.laidAll_os _ _ _) (World.shaped_of_ZipB (by kernel_rfl) (by kernel_rfl)) (by kernel_rfl) (by kernel_rfl) (by kernel_rfl) (door_met os _)) ?_
  intro W base args ds gs before hval0 hW _ _ hL _
  exact contract H enc W base args ds gs before hval0 hW (vd_of_laid hL)
theorem said : Rows.TesterToldSaid :=
  OpenClaim.holds_of_wide 4 Tryd.f4 rfl rfl rfl rfl rfl rfl rfl ⟨rfl, rfl, rfl, rfl, rfl⟩ rfl rfl rfl rfl rfl (by kernel_rfl) Tryd.func4 (by kernel_rfl)
    (of_decide_eq_true (by kernel_rfl)) (by unfold Func.isWrapper; first | (rw [if_pos (by decide +kernel)]; kernel_rfl) | (rw [if_neg (by decide +kernel)]; exact ⟨rfl, rfl⟩))
    (fun os started H enc _ => lifted os started H enc)
/-- The tied card: the row's statement, and the tie of the listed variable to the program's text. -/
theorem proved : Rows.TesterToldCardSaid :=
  Claim7.holds_tied_plain_at .later [] [.data, .data, .data, .data, .sentinel, .sentinel, .pinned] true Rows.testerToldCard.stood.harness Rows.testerToldCard.stood.looks said (fun _ h => by cases h) (by kernel_rfl) (fun _ h => by cases h) testerTold_row_tie rfl ⟨rfl, rfl⟩ (by kernel_rfl) rfl
    (fun f fn hf hfn => by
      obtain rfl : f = 4 := Option.some.inj ((show Tryd.prog.funcNamed "kinetoscope/kinetoscopelaw17.TesterTold" = some 4 by kernel_rfl).symm.trans hf) |>.symm
      obtain rfl : fn = Tryd.f4 := (Option.some.inj (Tryd.func4.symm.trans hfn)).symm
      exact ⟨by kernel_rfl, fun j t ht => by
        rw [Tryd.params4] at ht
        have hm : t ∈ [25, 33] := by simpa using Array.mem_of_getElem? ht
        have hall : ([25, 33].all fun u => !Tryd.prog.wantsStandIn u) = true := by kernel_rfl
        exact (show Tryd.prog.wantsStandIn t = false by simpa using List.all_eq_true.1 hall t hm)⟩)
    (by kernel_rfl)
end testerTold
end Go.Proofs.YtjidclefpmcgoaaDoor
