/- THE STATEMENT OF TesterFiles, out of the walk of its text: for every input the call returns true, and what was handed in reads as it did. No conditions. -/
import Derived.Test.YtjidclefpmcgoaaDoorRows
import Derived.Test.YtjidclefpmcgoaaDoorYy
import Derived.Test.YtjidclefpmcgoaaDoorFld
import Derived.Test.YtjidclefpmcgoaaDoorYFl
import Derived.Test.YtjidclefpmcgoaaDoorArgs
import Derived.ChangeOld
import Derived.Test.YtjidclefpmcgoaaDoorYLa
import Derived.Test.YtjidclefpmcgoaaDoorCards
import Derived.Test.YtjidclefpmcgoaaDoorTie
import Derived.SevenTiedAt
namespace Go.Proofs.YtjidclefpmcgoaaDoor
namespace testerFiles
open Go.ChangeShapes Go.WideShapes Go.ChangeAt Go.RowKit
open Go.ChangeMaps (open_string shut_string)
theorem own : ownKnob Tryd.prog.godebug = none := by kernel_rfl
theorem laidOut : laidOutB Tryd.prog = true := by kernel_rfl
set_option maxRecDepth 100000 in
theorem contract (H : Type) (enc : TypeId × Value → H) (W : World) (base : Nat) (args : Array Value) (ds gs : List (DataW H)) (before : List MemPlace)
    (hval0 : ∀ (j : Nat) t v, Tryd.f6.params[j]? = some t → args[j]? = some v → Value.okWide Tryd.prog W .any base t v)
    (hW : DataW.Whole enc Tryd.prog Tryd.f6.params.toList Rows.testerFilesSpec.vars false W args.toList ds gs before) (hNames : Ar.Vd W) :
    Calls Tryd.prog 6 args W fun e W' => ∃ v, e = .returned v ∧ Rows.testerFilesSpec.post enc Tryd.prog Tryd.f6 false true false false W args v W' := by
  have hval : ∀ (j : Nat) t v, Tryd.f6.params[j]? = some t → args[j]? = some v → Value.okWide Tryd.prog W .any base t v := hval0
  have hW' := hW
  obtain ⟨p, q, hA0, hV, rfl, hfz, hnd⟩ := hW
  have hA : DataW.TrodAll enc Tryd.prog W 0 (fun _ => true) true Tryd.f6.params.toList args.toList ds p := hA0
  rw [Tryd.params6] at hA hval
  obtain ⟨v0, vs0, d0, ds0, p0, q0, hargs, rfl, rfl, h0, r0⟩ := trodAll_cons hA
  obtain ⟨v1, vs1, d1, ds1, p1, q1, rfl, rfl, rfl, h1, r1⟩ := trodAll_cons r0
  obtain ⟨v2, vs2, d2, ds2, p2, q2, rfl, rfl, rfl, h2, r2⟩ := trodAll_cons r1
  obtain ⟨rfl, rfl, rfl⟩ := trodAll_nil r2
  obtain rfl : args = #[v0, v1, v2] := by cases args; simp_all
  obtain ⟨rfl, rfl⟩ := trodVars_none hV
  have k0 := h0
  have lt0 : ∀ x ∈ p0, x.block < W.heap.size := by obtain ⟨m, hm⟩ := k0; exact DataW.trod_lt m _ _ _ hm
  have k1 := h1
  have lt1 : ∀ x ∈ p1, x.block < W.heap.size := by obtain ⟨m, hm⟩ := k1; exact DataW.trod_lt m _ _ _ hm
  have k2 := h2
  have lt2 : ∀ x ∈ p2, x.block < W.heap.size := by obtain ⟨m, hm⟩ := k2; exact DataW.trod_lt m _ _ _ hm
  obtain ⟨a0, rfl, rfl, rfl, w0⟩ := open_string Tryd.underlying9 (hval 0 9 v0 rfl rfl) h0
  obtain ⟨a1, rfl, rfl, rfl, w1⟩ := open_int Tryd.underlying5 (hval 1 5 v1 rfl rfl) h1
  obtain ⟨cs2, rfl, hz2, fu2, hf2⟩ := open_fields Tryd.underlying33 (by kernel_rfl) (by kernel_rfl) (hval 2 33 v2 rfl rfl) h2
  obtain ⟨u2_0, u2_1, u2_2, u2_3, u2_4, u2_5, u2_6, rfl⟩ := array_7 hz2
  obtain ⟨y2_0, hy2_0⟩ := hf2 0 _ _ rfl rfl
  obtain ⟨x2_0, rfl, w2_0⟩ := field_int Tryd.underlying3 hy2_0
  obtain ⟨y2_1, hy2_1⟩ := hf2 1 _ _ rfl rfl
  obtain ⟨x2_1, rfl, w2_1⟩ := field_int Tryd.underlying3 hy2_1
  obtain ⟨y2_2, hy2_2⟩ := hf2 2 _ _ rfl rfl
  obtain ⟨x2_2, rfl, w2_2⟩ := field_int Tryd.underlying2 hy2_2
  obtain ⟨y2_3, hy2_3⟩ := hf2 3 _ _ rfl rfl
  obtain ⟨x2_3, rfl, w2_3⟩ := field_int Tryd.underlying2 hy2_3
  obtain ⟨y2_4, hy2_4⟩ := hf2 4 _ _ rfl rfl
  obtain ⟨x2_4, rfl, w2_4⟩ := field_string Tryd.underlying9 hy2_4
  obtain ⟨y2_5, hy2_5⟩ := hf2 5 _ _ rfl rfl
  obtain ⟨A2_5, n2_5, c2_5, l2_5, rfl, w2_5⟩ := field_strings Tryd.underlying22 Tryd.underlying9 (by kernel_rfl) hy2_5
  obtain ⟨y2_6, hy2_6⟩ := hf2 6 _ _ rfl rfl
  obtain ⟨x2_6, rfl, w2_6⟩ := field_int Tryd.underlying3 hy2_6
  clear hA0 hval0
  refine (walk W hNames a0 w0 a1 w1 x2_0 w2_0 x2_1 w2_1 x2_2 w2_2 x2_3 w2_3 x2_4 w2_4 A2_5 n2_5 c2_5 l2_5 w2_5 x2_6 w2_6).mono fun e W' ⟨he, bel⟩ => ?_
  subst he
  exact ⟨_, rfl, _, _, _, [], _, [], hW', trodAll_mk1 (shut_bool Tryd.underlying4 _), (trodAll_cons_mk (Below.trod laidOut (by kernel_rfl) (of_decide_eq_true (by kernel_rfl)) k0 bel lt0) (trodAll_cons_mk (Below.trod laidOut (by kernel_rfl) (of_decide_eq_true (by kernel_rfl)) k1 bel lt1) (trodAll_cons_mk (Below.trod laidOut (by kernel_rfl) (of_decide_eq_true (by kernel_rfl)) k2 bel lt2) trodAll_mk0))), rfl, bel.frame _, fun h => by cases h⟩
set_option maxRecDepth 100000 in
theorem lifted (os : Os) (started : os.Started) (H : Type) (enc : TypeId × Value → H) :
    ReturnsInHanded {} Tryd.checked os 6 .any (fun w args => (Rows.testerFilesSpec.pre enc Tryd.prog Tryd.f6 [] false w args ∧ laidMetH Tryd.prog laidL w) ∧ sizedMet enc Tryd.prog Tryd.f6 (OpenSpec.ofChange Rows.testerFilesSpec) false w args) (Rows.testerFilesSpec.post enc Tryd.prog Tryd.f6 false true false false) := by
  refine returnsInHanded_of_change_and (C := Tryd.checked) (X := fun w _ => laidMetH Tryd.prog laidL w) (fun _ _ _ hh h => h.of_heap hh) own started (by kernel_rfl) Tryd.func6
    (ChangeSpec.witness_shaped (enc := enc) (C := Tryd.checked) (os := os) (X := fun w _ => laidMetH Tryd.prog laidL w) false (World.laidAll Tryd.prog os laidL) #[.string ByteArray.empty, .int .u8 0, .agg #[.int .i64 0, .int .i64 0, .int .i64 0, .int .i64 0, .string ByteArray.empty, .slice none 0 0, .int .i64 0]] 8 (World.laidAll_os _ _ _) (World.shaped_of_ZipB (by kernel_rfl) (by kernel_rfl)) (by kernel_rfl) (by kernel_rfl) (by kernel_rfl) (door_met os _)) ?_
  intro W base args ds gs before hval0 hW _ _ hL _
  exact contract H enc W base args ds gs before hval0 hW (vd_of_laid hL)
theorem said : Rows.TesterFilesSaid :=
  OpenClaim.holds_of_wide 6 Tryd.f6 rfl rfl rfl rfl rfl rfl rfl ⟨rfl, rfl, rfl, rfl, rfl⟩ rfl rfl rfl rfl rfl (by kernel_rfl) Tryd.func6 (by kernel_rfl)
    (of_decide_eq_true (by kernel_rfl)) (by unfold Func.isWrapper; first | (rw [if_pos (by decide +kernel)]; kernel_rfl) | (rw [if_neg (by decide +kernel)]; exact ⟨rfl, rfl⟩))
    (fun os started H enc _ => lifted os started H enc)
/-- The tied card: the row's statement, and the tie of the listed variable to the program's text. -/
theorem proved : Rows.TesterFilesCardSaid :=
  Claim7.holds_tied_plain_at .later [] [.data, .data, .data, .data, .sentinel, .sentinel, .pinned] true Rows.testerFilesCard.stood.harness Rows.testerFilesCard.stood.looks said (fun _ h => by cases h) (by kernel_rfl) (fun _ h => by cases h) testerFiles_row_tie rfl ⟨rfl, rfl⟩ (by kernel_rfl) rfl
    (fun f fn hf hfn => by
      obtain rfl : f = 6 := Option.some.inj ((show Tryd.prog.funcNamed "kinetoscope/kinetoscopelaw17.TesterFiles" = some 6 by kernel_rfl).symm.trans hf) |>.symm
      obtain rfl : fn = Tryd.f6 := (Option.some.inj (Tryd.func6.symm.trans hfn)).symm
      exact ⟨by kernel_rfl, fun j t ht => by
        rw [Tryd.params6] at ht
        have hm : t ∈ [9, 5, 33] := by simpa using Array.mem_of_getElem? ht
        have hall : ([9, 5, 33].all fun u => !Tryd.prog.wantsStandIn u) = true := by kernel_rfl
        exact (show Tryd.prog.wantsStandIn t = false by simpa using List.all_eq_true.1 hall t hm)⟩)
    (by kernel_rfl)
end testerFiles
end Go.Proofs.YtjidclefpmcgoaaDoor
