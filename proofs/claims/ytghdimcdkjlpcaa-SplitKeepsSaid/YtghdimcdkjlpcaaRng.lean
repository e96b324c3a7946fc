/- A range over a function whose iterator keeps a variable of its own: the loop's record as a thing that both sides speak of; a round out of its body's walk; the statement out of the iterator's walk. No premises. -/
import Derived.RangeFuncBox
import Derived.RangeFuncRecord
import Derived.RangeFuncCalls
import Derived.WalkKit
namespace Go.Proofs.Ytghdimcdkjlpcaa
open Go.RowKit
/-- A loop over a function: the block for its rounds' deferred calls is D, its record the one behind. -/
structure Rng where
  D : Nat
  fn : FuncId
  tmps : Array Value
  ps : Array Tmp
  assign : Code
  body : Code
def Rng.record (r : Rng) (st : LoopState) (pe : Option Code) : Loop := { state := st, pending := pe, fn := r.fn, tmps := r.tmps, params := r.ps, assign := r.assign, body := r.body, defers := r.D }
/-- Both blocks lie so. -/
def Rng.At (r : Rng) (st : LoopState) (pe : Option Code) (w : World) : Prop := w.heap[r.D + 1]? = some (.loop (r.record st pe)) ∧ w.heap[r.D]? = some (.deferred (some []))
/-- The record alone is another one. -/
def Rng.Turn (r : Rng) (w w' : World) : Prop := (∃ x y, r.At x y w) ∧ ∃ o, w' = w.putObj (r.D + 1) o
section
variable {r : Rng} {w w' : World}
theorem Rng.Turn.grown (h : r.Turn w w') : w.grownBy w' (some (r.D + 1)) := by
  obtain ⟨_, o, rfl⟩ := h
  exact grownBy_putObj' w _ o
theorem Rng.Turn.size (h : r.Turn w w') : w'.heap.size = w.heap.size := by
  obtain ⟨_, o, rfl⟩ := h
  exact World.putObj_size
theorem Rng.Turn.below {B : Nat} (h : r.Turn w w') (hB : B ≤ r.D + 1) (hw : B ≤ w.heap.size) : Below B w w' := (Below.refl B w).grown h.grown hw fun k e => by cases e; exact hB
theorem Rng.Turn.boxed {B : Nat} {t : TypeId} {v : Value} (h : r.Turn w w') (hb : Boxed w B t v) : Boxed w' B t v := by
  refine hb.kept h.grown fun e => ?_
  obtain ⟨⟨x, y, hl, _⟩, _⟩ := h
  cases e
  rw [show w.heap[r.D + 1]? = _ from hb] at hl
  cases hl
theorem Rng.Turn.own {base n size : Nat} {e : TypeId} {v : Value} {xs : List Value} (h : r.Turn w w') (ho : w.ownsRow base e size v n xs) : w'.ownsRow base e size v n xs := by
  obtain ⟨⟨x, y, hl, _⟩, o, rfl⟩ := h
  exact ownsRow_putObj ho o hl rfl
theorem Rng.At.lt {x : LoopState} {y : Option Code} (h : r.At x y w) : r.D + 1 < w.heap.size := (Array.getElem?_eq_some_iff.1 h.1).1
/-- Both blocks lie on where what is no cells does. -/
theorem Rng.At.keep {x : LoopState} {y : Option Code} (h : r.At x y w) (hk : KeepsOthers w w') : r.At x y w' := ⟨hk.same _ _ h.1 rfl, hk.same _ _ h.2 rfl⟩
theorem Rng.At.turn {x x' : LoopState} {y y' : Option Code} (h : r.At x y w) : r.At x' y' (w.putObj (r.D + 1) (.loop (r.record x' y'))) := ⟨World.putObj_heap_same h.lt, (World.putObj_heap_other (by omega)).trans h.2⟩
end
theorem others_of_below {w w' : World} (h : Below w.heap.size w w') : KeepsOthers w w' := ⟨h.size, fun k _ hk _ => (h.block k (Array.getElem?_eq_some_iff.1 hk).1).trans hk⟩
variable {F : Fence} {n : Nat} {P : Program}
/-- How a round's body is left. -/
def Rng.out (r : Rng) (R : Ending → World → Prop) : Exit → Act → World → Prop
  | .normal, _, w => r.At .busy none w ∧ ∀ w', r.Turn w w' → r.At .ready none w' → R (.returned (.bool true)) w'
  | .ret, _, w => r.At .busy none w ∧ ∀ w', r.Turn w w' → r.At .done (some .ret) w' → R (.returned (.bool false)) w'
  | .exit id, _, w => r.At .busy none w ∧ ∀ w', r.Turn w w' → r.At .done (some (.exit id)) w' → R (.returned (.bool false)) w'
  | _, _, _ => False
/-- A call of yield, out of the walk of the loop's own code. -/
theorem Rng.yield {r : Rng} {args : Array Value} {W : World} {R : Ending → World → Prop} (h : r.At .ready none W) (hF : F.fn r.fn) (hs : args.size = r.ps.size)
    (hw : r.assign.wpIn (F.inRound (r.D + 1)) n P (Exit.then (fun a' Wa => r.At .ready none Wa ∧ ∀ W2, r.Turn Wa W2 → r.At .busy none W2 → r.body.wpIn (F.inRound (r.D + 1)) n P (r.out R) a' W2) (fun _ _ _ => False))
      { tmps := (r.ps.zip args).foldl (fun t (p, v) => t.setIfInBounds p v) r.tmps, defers := [] } W) : YieldAt F n P (r.D + 1) args W R := by
  refine ⟨r.fn, _, r.assign, r.body, run_yield h.1 hs, roundIn_of_wpIn hF (wpIn_mono hw ?_)⟩
  intro e a' Wa he
  cases e with
  | normal =>
    obtain ⟨hat, hb⟩ := he
    refine ⟨_, run_beginRound hat.1 rfl, wpIn_mono (hb _ ⟨⟨_, _, hat⟩, _, rfl⟩ (hat.turn (x' := .busy) (y' := none))) ?_⟩
    intro e a3 W3 he
    have fin : ∀ (j : Option Code), r.At .busy none W3 → (Instr.endRound (r.D + 1) j).run P W3 = .ok (.bool j.isNone) (W3.putObj (r.D + 1) (.loop (r.record (if j.isNone then .ready else .done) j))) := fun j hb3 => run_endRound j hb3.1
    cases e with
    | normal => exact ⟨_, _, fin none he.1, he.2 _ ⟨⟨_, _, he.1⟩, _, rfl⟩ he.1.turn⟩
    | ret => exact ⟨_, _, fin (some .ret) he.1, he.2 _ ⟨⟨_, _, he.1⟩, _, rfl⟩ he.1.turn⟩
    | exit id => exact ⟨_, _, fin (some (.exit id)) he.1, he.2 _ ⟨⟨_, _, he.1⟩, _, rfl⟩ he.1.turn⟩
    | goto t => exact he.elim
    | panic ch => exact he.elim
    | outgrown => exact he.elim
  | ret => exact he.elim
  | exit id => exact he.elim
  | goto t => exact he.elim
  | panic ch => exact he.elim
  | outgrown => exact he.elim
/-- The statement, out of the iterator's walk. -/
theorem wpIn_rangeFunc_at {g : Operand} {ps : Array Tmp} {assign body : Code} {Q : Exit → Act → World → Prop} {a : Act} {w : World} (hro : F.round = none) (h1 : 1 ≤ n) {gf : Nat} {lb : Array Value}
    (hg : a.eval g = .func (.func gf) #[] lb) (hFg : F.fn gf) (eg : ∀ args w, (callFunc gf args).run P w = .ok (.enter gf args) w)
    (h : ∀ fn, F.fn fn → ∀ r : Rng, r = ⟨w.heap.size, fn, a.tmps, ps, assign, body⟩ → ∀ W1, r.At .ready none W1 → Below w.heap.size w W1 → W1.heap.size = w.heap.size + 2 →
      CallsIn F (n - 1) P gf (#[.func (.yield (r.D + 1)) #[] #[]] ++ lb) W1 fun e W2 => (∃ v, e = .returned v) ∧ ∃ x pe, r.At x pe W2 ∧ x ≠ .busy ∧ ∀ W3, r.Turn W2 W3 → W3.heap[r.D]? = some (.deferred (some [])) →
        match pe with
        | none => Q .normal { a with defers := { target := .collected r.D, args := #[] } :: a.defers } W3
        | some c => c.wpIn F n P Q { a with defers := { target := .collected r.D, args := #[] } :: a.defers } W3) :
    (Code.rangeFunc g ps assign body).wpIn F n P Q a w := by
  refine wpIn_rangeFunc fun fn hfn => ?_
  rw [hro]
  let r : Rng := ⟨w.heap.size, fn, a.tmps, ps, assign, body⟩
  let W0 := w.alloc (.deferred (some []))
  let W1 := W0.alloc (.loop (r.record .ready none))
  have hz : W0.heap.size = w.heap.size + 1 := World.size_alloc ..
  have hat : r.At .ready none W1 := ⟨by have := World.alloc_heap_new W0 (.loop (r.record .ready none)); rwa [hz] at this, (Below.heap_alloc _ _ _ (by rw [hz]; exact Nat.lt_succ_self _)).trans (World.alloc_heap_new w _)⟩
  have hb : Below w.heap.size w W1 := ((Below.refl _ w).alloc (Nat.le_refl _) _).alloc (by rw [hz]; omega) _
  refine ⟨w.heap.size + 1, [{ target := .collected w.heap.size, args := #[] }], W1, { target := .fn (.func gf) lb, args := #[.func (.yield (w.heap.size + 1)) #[] #[]] }, W1, gf, #[.func (.yield (w.heap.size + 1)) #[] #[]] ++ lb, W1,
    run_enterLoop_outer _ _ _ _ _, ?_, ?_, ?_, fun _ => h1, ?_⟩
  · simp only [resolve, hg]
    simp [go_sem]
  · intro f' hf'; simp [Target.leads] at hf'; subst hf'; exact hFg
  · simp [invoke, go_sem, eg]
  · refine (h fn hfn r rfl W1 hat hb (by rw [show W1.heap.size = W0.heap.size + 1 from World.size_alloc .., hz])).mono ?_
    rintro e W2 ⟨⟨v, rfl⟩, x, pe, h2, hx, hq⟩
    have hend := run_endLoop (P := P) h2.1 hx
    have h3 := hq (W2.putObj (r.D + 1) (.loop (r.record .exhausted pe))) ⟨⟨_, _, h2⟩, _, rfl⟩ ((World.putObj_heap_other (by omega)).trans h2.2)
    cases pe with
    | none => exact ⟨none, _, hend, h3⟩
    | some c => exact ⟨some c, _, hend, h3⟩
end Go.Proofs.Ytghdimcdkjlpcaa
