/- A range over a function whose iterator keeps a variable of its own: the loop's record as a thing that both sides speak of; a round out of its body's walk; the statement out of the iterator's walk. No premises. -/
import Derived.RangeFuncBox
import Derived.RangeFuncRecord
import Derived.RangeFuncCalls
import Derived.WalkKit
import Derived.Test.YtemokpnepnmmkaaMa
import Derived.Deep.Onto
import Derived.Laws.OwnMore
import Derived.OwnWalkIn
namespace Go.Proofs.Ytemokpnepnmmkaa
open Go.RowKit
/-- A loop over a function: the block for its rounds' deferred calls is D, its record the one behind. -/
structure Rng where
  D : Nat
  fn : FuncId
  tmps : Array Value
  ps : Array Tmp
  assign : Code
  body : Code
def Rng.record (r : Rng) (st : LoopState) (pe : Option Code) : Loop := { state := st, pending := pe, fn := r.fn, tmps := r.tmps, params := r.ps, assign := r.assign, body := r.body, defers := r.D }
/-- Both blocks lie so. -/
def Rng.At (r : Rng) (st : LoopState) (pe : Option Code) (w : World) : Prop := w.heap[r.D + 1]? = some (.loop (r.record st pe)) ∧ w.heap[r.D]? = some (.deferred (some []))
/-- The record alone is another one. -/
def Rng.Turn (r : Rng) (w w' : World) : Prop := (∃ x y, r.At x y w) ∧ ∃ o, w' = w.putObj (r.D + 1) o
section
variable {r : Rng} {w w' : World}
theorem Rng.Turn.grown (h : r.Turn w w') : w.grownBy w' (some (r.D + 1)) := by
  obtain ⟨_, o, rfl⟩ := h
  exact grownBy_putObj' w _ o
theorem Rng.Turn.size (h : r.Turn w w') : w'.heap.size = w.heap.size := by
  obtain ⟨_, o, rfl⟩ := h
  exact World.putObj_size
theorem Rng.Turn.below {B : Nat} (h : r.Turn w w') (hB : B ≤ r.D + 1) (hw : B ≤ w.heap.size) : Below B w w' := (Below.refl B w).grown h.grown hw fun k e => by cases e; exact hB
theorem Rng.Turn.boxed {B : Nat} {t : TypeId} {v : Value} (h : r.Turn w w') (hb : Boxed w B t v) : Boxed w' B t v := by
  refine hb.kept h.grown fun e => ?_
  obtain ⟨⟨x, y, hl, _⟩, _⟩ := h
  cases e
  rw [show w.heap[r.D + 1]? = _ from hb] at hl
  cases hl
theorem Rng.Turn.own {base n size : Nat} {e : TypeId} {v : Value} {xs : List Value} (h : r.Turn w w') (ho : w.ownsRow base e size v n xs) : w'.ownsRow base e size v n xs := by
  obtain ⟨⟨x, y, hl, _⟩, o, rfl⟩ := h
  exact ownsRow_putObj ho o hl rfl
theorem Rng.At.lt {x : LoopState} {y : Option Code} (h : r.At x y w) : r.D + 1 < w.heap.size := (Array.getElem?_eq_some_iff.1 h.1).1
/-- Both blocks lie on where what is no cells does. -/
theorem Rng.At.keep {x : LoopState} {y : Option Code} (h : r.At x y w) (hk : KeepsOthers w w') : r.At x y w' := ⟨hk.same _ _ h.1 rfl, hk.same _ _ h.2 rfl⟩
theorem Rng.At.turn {x x' : LoopState} {y y' : Option Code} (h : r.At x y w) : r.At x' y' (w.putObj (r.D + 1) (.loop (r.record x' y'))) := ⟨World.putObj_heap_same h.lt, (World.putObj_heap_other (by omega)).trans h.2⟩
end
theorem others_of_below {w w' : World} (h : Below w.heap.size w w') : KeepsOthers w w' := ⟨h.size, fun k _ hk _ => (h.block k (Array.getElem?_eq_some_iff.1 hk).1).trans hk⟩
variable {F : Fence} {n : Nat} {P : Program}
/-- How a round's body is left. -/
def Rng.out (r : Rng) (R : Ending → World → Prop) : Exit → Act → World → Prop
  | .normal, _, w => r.At .busy none w ∧ ∀ w', r.Turn w w' → r.At .ready none w' → R (.returned (.bool true)) w'
  | .ret, _, w => r.At .busy none w ∧ ∀ w', r.Turn w w' → r.At .done (some .ret) w' → R (.returned (.bool false)) w'
  | .exit id, _, w => r.At .busy none w ∧ ∀ w', r.Turn w w' → r.At .done (some (.exit id)) w' → R (.returned (.bool false)) w'
  | _, _, _ => False
/-- A call of yield, out of the walk of the loop's own code. -/
theorem Rng.yield {r : Rng} {args : Array Value} {W : World} {R : Ending → World → Prop} (h : r.At .ready none W) (hF : F.fn r.fn) (hs : args.size = r.ps.size)
    (hw : r.assign.wpIn (F.inRound (r.D + 1)) n P (Exit.then (fun a' Wa => r.At .ready none Wa ∧ ∀ W2, r.Turn Wa W2 → r.At .busy none W2 → r.body.wpIn (F.inRound (r.D + 1)) n P (r.out R) a' W2) (fun _ _ _ => False))
      { tmps := (r.ps.zip args).foldl (fun t (p, v) => t.setIfInBounds p v) r.tmps, defers := [] } W) : YieldAt F n P (r.D + 1) args W R := by
  refine ⟨r.fn, _, r.assign, r.body, run_yield h.1 hs, roundIn_of_wpIn hF (wpIn_mono hw ?_)⟩
  intro e a' Wa he
  cases e with
  | normal =>
    obtain ⟨hat, hb⟩ := he
    refine ⟨_, run_beginRound hat.1 rfl, wpIn_mono (hb _ ⟨⟨_, _, hat⟩, _, rfl⟩ (hat.turn (x' := .busy) (y' := none))) ?_⟩
    intro e a3 W3 he
    have fin : ∀ (j : Option Code), r.At .busy none W3 → (Instr.endRound (r.D + 1) j).run P W3 = .ok (.bool j.isNone) (W3.putObj (r.D + 1) (.loop (r.record (if j.isNone then .ready else .done) j))) := fun j hb3 => run_endRound j hb3.1
    cases e with
    | normal => exact ⟨_, _, fin none he.1, he.2 _ ⟨⟨_, _, he.1⟩, _, rfl⟩ he.1.turn⟩
    | ret => exact ⟨_, _, fin (some .ret) he.1, he.2 _ ⟨⟨_, _, he.1⟩, _, rfl⟩ he.1.turn⟩
    | exit id => exact ⟨_, _, fin (some (.exit id)) he.1, he.2 _ ⟨⟨_, _, he.1⟩, _, rfl⟩ he.1.turn⟩
    | goto t => exact he.elim
    | panic ch => exact he.elim
    | outgrown => exact he.elim
  | ret => exact he.elim
  | exit id => exact he.elim
  | goto t => exact he.elim
  | panic ch => exact he.elim
  | outgrown => exact he.elim
/-- The statement, out of the iterator's walk. -/
theorem wpIn_rangeFunc_at {g : Operand} {ps : Array Tmp} {assign body : Code} {Q : Exit → Act → World → Prop} {a : Act} {w : World} (hro : F.round = none) (h1 : 1 ≤ n) {gf : Nat} {lb : Array Value}
    (hg : a.eval g = .func (.func gf) #[] lb) (hFg : F.fn gf) (eg : ∀ args w, (callFunc gf args).run P w = .ok (.enter gf args) w)
    (h : ∀ fn, F.fn fn → ∀ r : Rng, r = ⟨w.heap.size, fn, a.tmps, ps, assign, body⟩ → ∀ W1, r.At .ready none W1 → Below w.heap.size w W1 → W1.heap.size = w.heap.size + 2 →
      CallsIn F (n - 1) P gf (#[.func (.yield (r.D + 1)) #[] #[]] ++ lb) W1 fun e W2 => (∃ v, e = .returned v) ∧ ∃ x pe, r.At x pe W2 ∧ x ≠ .busy ∧ ∀ W3, r.Turn W2 W3 → W3.heap[r.D]? = some (.deferred (some [])) →
        match pe with
        | none => Q .normal { a with defers := { target := .collected r.D, args := #[] } :: a.defers } W3
        | some c => c.wpIn F n P Q { a with defers := { target := .collected r.D, args := #[] } :: a.defers } W3) :
    (Code.rangeFunc g ps assign body).wpIn F n P Q a w := by
  refine wpIn_rangeFunc fun fn hfn => ?_
  rw [hro]
  let r : Rng := ⟨w.heap.size, fn, a.tmps, ps, assign, body⟩
  let W0 := w.alloc (.deferred (some []))
  let W1 := W0.alloc (.loop (r.record .ready none))
  have hz : W0.heap.size = w.heap.size + 1 := World.size_alloc ..
  have hat : r.At .ready none W1 := ⟨by have := World.alloc_heap_new W0 (.loop (r.record .ready none)); rwa [hz] at this, (Below.heap_alloc _ _ _ (by rw [hz]; exact Nat.lt_succ_self _)).trans (World.alloc_heap_new w _)⟩
  have hb : Below w.heap.size w W1 := ((Below.refl _ w).alloc (Nat.le_refl _) _).alloc (by rw [hz]; omega) _
  refine ⟨w.heap.size + 1, [{ target := .collected w.heap.size, args := #[] }], W1, { target := .fn (.func gf) lb, args := #[.func (.yield (w.heap.size + 1)) #[] #[]] }, W1, gf, #[.func (.yield (w.heap.size + 1)) #[] #[]] ++ lb, W1,
    run_enterLoop_outer _ _ _ _ _, ?_, ?_, ?_, fun _ => h1, ?_⟩
  · simp only [resolve, hg]
    simp [go_sem]
  · intro f' hf'; simp [Target.leads] at hf'; subst hf'; exact hFg
  · simp [invoke, go_sem, eg]
  · refine (h fn hfn r rfl W1 hat hb (by rw [show W1.heap.size = W0.heap.size + 1 from World.size_alloc .., hz])).mono ?_
    rintro e W2 ⟨⟨v, rfl⟩, x, pe, h2, hx, hq⟩
    have hend := run_endLoop (P := P) h2.1 hx
    have h3 := hq (W2.putObj (r.D + 1) (.loop (r.record .exhausted pe))) ⟨⟨_, _, h2⟩, _, rfl⟩ ((World.putObj_heap_other (by omega)).trans h2.2)
    cases pe with
    | none => exact ⟨none, _, hend, h3⟩
    | some c => exact ⟨some c, _, hend, h3⟩
end Go.Proofs.Ytemokpnepnmmkaa
/- A slice of slices of bytes, all of them the call's own, no two in one block. No premises. -/
namespace Go.Proofs.Ytemokpnepnmmkaa
open Go.RowKit
/-- Two values that lie in no block in common. -/
def Apart (a b : Value) : Prop := ∀ k, a.ownBlock = some k → b.ownBlock ≠ some k
theorem Apart.symm {a b : Value} (h : Apart a b) : Apart b a := fun k hk hk' => h k hk' hk
structure Mat (W : World) (base : Nat) (v : Value) (rs : List Value) (ls : List (List UInt8)) : Prop where
  own : W.ownsRow base 28 1 v rs.length rs
  len : rs.length = ls.length
  row : ∀ (j : Nat) (hj : j < ls.length) (r : Value), rs[j]? = some r → W.ownsRow base 5 1 r ls[j].length (ls[j].map bv)
  apart : ∀ (i j : Nat) (ri rj : Value), i ≠ j → rs[i]? = some ri → rs[j]? = some rj → Apart ri rj
/-- What the call owns stays so where the cells of its own blocks stay. -/
theorem own_same {W W' : World} {base n size : Nat} {e : TypeId} {v : Value} {xs : List Value} (h : W.ownsRow base e size v n xs)
    (hk : ∀ (g : Nat) (cur : Array Value), base ≤ g → W.heap[g]? = some (.cells cur e (0, 0)) → W'.heap[g]? = some (.cells cur e (0, 0))) : W'.ownsRow base e size v n xs := by
  refine ⟨h.1, ?_⟩
  rcases h.2 with h0 | ⟨g, cap, cur, h1, h2, h3, h4⟩
  · exact .inl h0
  · exact .inr ⟨g, cap, cur, h1, h2, hk g cur h2 h3, h4⟩
theorem Mat.nil (W : World) (base : Nat) : Mat W base (.slice none 0 0) [] [] :=
  ⟨World.ownsRow_nil W base _ 1, rfl, fun j hj => by simp at hj, fun i j ri rj _ h => by simp at h⟩
section
variable {W W' : World} {base : Nat} {v : Value} {rs : List Value} {ls : List (List UInt8)}
theorem Mat.same (h : Mat W base v rs ls) (hk : ∀ (g : Nat) (cur : Array Value) (e : TypeId), base ≤ g → W.heap[g]? = some (.cells cur e (0, 0)) → W'.heap[g]? = some (.cells cur e (0, 0))) : Mat W' base v rs ls :=
  ⟨own_same h.own fun g cur => hk g cur _, h.len, fun j hj r hr => own_same (h.row j hj r hr) fun g cur => hk g cur _, h.apart⟩
theorem Mat.below (h : Mat W base v rs ls) (hb : Below W.heap.size W W') : Mat W' base v rs ls :=
  h.same fun g _ _ _ hg => (hb.block g (Array.getElem?_eq_some_iff.1 hg).1).trans hg
theorem Mat.setLow (h : Mat W base v rs ls) {b : Nat} (hb : b < base) (u : Value) : Mat (W.setCell ⟨b, 0, none⟩ u) base v rs ls :=
  h.same fun g _ _ hg hgc => ((grownBy_setCell' W b u).block g (Array.getElem?_eq_some_iff.1 hgc).1 (fun e => by cases e; omega)).trans hgc
theorem Mat.turn {r : Rng} (h : Mat W base v rs ls) (ht : r.Turn W W') : Mat W' base v rs ls := by
  refine h.same fun g cur e _ hgc => (ht.grown.block g (Array.getElem?_eq_some_iff.1 hgc).1 fun e' => ?_).trans hgc
  obtain ⟨⟨x, y, hl, _⟩, _⟩ := ht
  cases e'
  rw [hl] at hgc; cases hgc
/-- One row more: the slice has grown by it. -/
theorem Mat.push (h : Mat W base v rs ls) {r v' : Value} {l : List UInt8} (hr : W.ownsRow base 5 1 r l.length (l.map bv)) (hap : ∀ (i : Nat) ri, rs[i]? = some ri → Apart ri r)
    (hg : Grew W W' base 28 v v' (rs ++ [r])) : Mat W' base v' (rs ++ [r]) (ls ++ [l]) := by
  have hkeep : ∀ {n : Nat} {u : Value} {xs : List Value}, W.ownsRow base 5 1 u n xs → W'.ownsRow base 5 1 u n xs := fun ho => by
    refine own_same ho fun g cur hb hgc => (hg.grown.block g (Array.getElem?_eq_some_iff.1 hgc).1 fun e => ?_).trans hgc
    rcases h.own.2 with ⟨rfl, _⟩ | ⟨g', cap, cur', rfl, _, h2, _⟩
    · simp [Value.ownBlock] at e
    · simp [Value.ownBlock] at e
      subst e
      rw [h2] at hgc
      simp at hgc
  refine ⟨hg.own, by simp [h.len], fun j hj r' hr' => ?_, fun i j ri rj hij hi hj => ?_⟩
  · by_cases hjl : j < ls.length
    · rw [List.getElem?_append_left (by have := h.len; omega)] at hr'
      rw [List.getElem_append_left hjl]
      exact hkeep (h.row j hjl r' hr')
    · have hj' : j = ls.length := by simp at hj; omega
      subst hj'
      rw [← h.len, List.getElem?_concat_length] at hr'
      cases hr'
      simp only [List.getElem_concat_length]
      exact hkeep hr
  · have key : ∀ (k : Nat) (u : Value), (rs ++ [r])[k]? = some u → (k < rs.length ∧ rs[k]? = some u) ∨ (k = rs.length ∧ u = r) := fun k u hu => by
      by_cases hk : k < rs.length
      · rw [List.getElem?_append_left hk] at hu; exact .inl ⟨hk, hu⟩
      · have hk2 := (List.getElem?_eq_some_iff.1 hu).1
        have hk' : k = rs.length := by simp at hk2; omega
        subst hk'
        rw [List.getElem?_concat_length] at hu
        cases hu
        exact .inr ⟨rfl, rfl⟩
    rcases key i ri hi with ⟨_, h1⟩ | ⟨h1, rfl⟩ <;> rcases key j rj hj with ⟨_, h2⟩ | ⟨h2, rfl⟩
    · exact h.apart i j ri rj hij h1 h2
    · exact hap i ri h1
    · exact (hap j rj h2).symm
    · omega
/-- It reads as its rows. -/
theorem Mat.rdL (h : Mat W base v rs ls) : ∃ A c, v = .slice A ls.length c ∧ ls.length ≤ c ∧ RdL W W.heap.size A ls.length ls := by
  obtain ⟨A, c, rfl, h1, h2, _⟩ := own_slice h.own
  rw [h.len] at h1 ⊢
  refine ⟨A, c, rfl, h1, rfl, fun j hj => ?_⟩
  have hjr : j < rs.length := by rw [h.len]; exact hj
  obtain ⟨ad, u, e1, e2, e3, e4⟩ := h2.at_ hjr
  have hrow := h.row j hj u e3
  have hlen : (ls[j].map bv).length = ls[j].length := by simp
  obtain ⟨A', c', rfl, h3, h4, _⟩ := own_map (f := bv) (xs := ls[j]) (by rw [hlen]; exact hrow)
  refine ⟨ad, A', _, c', e1, e2, e4, h4, ?_⟩
  rcases hrow.2 with ⟨_, h0⟩ | ⟨g, cap, cur, hv, _, _, h5, h6, _⟩
  · rw [h0]; simp [maxLen]
  · exact Nat.le_trans h5 h6
end
end Go.Proofs.Ytemokpnepnmmkaa
/- Rows of the call's own that are written over, and appended to, one by one. No premises. -/
namespace Go.Proofs.Ytemokpnepnmmkaa
open Go.RowKit
section
variable {W W' : World} {base : Nat} {v : Value} {rs : List Value} {ms : List (List UInt8)}
/-- The slice of rows itself lies as it lay where one row grows. -/
theorem Mat.keepV (h : Mat W base v rs ms) {r r' : Value} {n : Nat} {xs ys : List Value} (hro : W.ownsRow base 5 1 r n ys) (hg : Grew W W' base 5 r r' xs) : W'.ownsRow base 28 1 v rs.length rs := by
  refine own_same h.own fun g cur _ hgc => (hg.grown.block g (Array.getElem?_eq_some_iff.1 hgc).1 fun e => ?_).trans hgc
  rcases hro.2 with ⟨rfl, _⟩ | ⟨g', cap, cur', rfl, _, h2, _⟩
  · simp [Value.ownBlock] at e
  · simp [Value.ownBlock] at e
    subst e
    rw [h2] at hgc
    simp at hgc
/-- One row becomes another one. -/
theorem Mat.replace (h : Mat W base v rs ms) {W'' : World} {i : Nat} (hi : i < ms.length) {r r' : Value} (hr : rs[i]? = some r) {l' : List UInt8} (hg : Grew W W' base 5 r r' (l'.map bv))
    (hst : W''.ownsRow base 28 1 v rs.length (rs.set i r')) (hk : ∀ (g : Nat) (cur : Array Value), base ≤ g → W'.heap[g]? = some (.cells cur 5 (0, 0)) → W''.heap[g]? = some (.cells cur 5 (0, 0))) :
    Mat W'' base v (rs.set i r') (ms.set i l') := by
  have hir : i < rs.length := by rw [h.len]; exact hi
  refine ⟨by simpa using hst, by simp [h.len], fun j hj u hu => ?_, fun a b ra rb hab ha hb => ?_⟩
  · have hj' : j < ms.length := by simpa using hj
    by_cases e : i = j
    · subst e
      rw [List.getElem?_set_self hir] at hu
      cases hu
      simp only [List.getElem_set_self]
      have := own_same hg.own hk
      simpa using this
    · rw [List.getElem?_set_ne e] at hu
      rw [List.getElem_set_ne e]
      refine own_same ((h.row j hj' u hu).kept hg.grown ?_) hk
      cases hu' : u.ownBlock with
      | none => exact .inl rfl
      | some k => exact .inr fun e' => h.apart i j r u e hr hu k e'.symm hu'
  · have key : ∀ (k : Nat) (u : Value), (rs.set i r')[k]? = some u → (k = i ∧ u = r') ∨ (k ≠ i ∧ rs[k]? = some u) := fun k u hu => by
      by_cases e : i = k
      · subst e
        rw [List.getElem?_set_self hir] at hu
        cases hu
        exact .inl ⟨rfl, rfl⟩
      · rw [List.getElem?_set_ne e] at hu
        exact .inr ⟨fun e' => e e'.symm, hu⟩
    have far : ∀ (k : Nat) (u : Value), k ≠ i → rs[k]? = some u → Apart u r' := fun k u hki hu j h1 h2 => by
      have hl : k < ms.length := by rw [← h.len]; exact (List.getElem?_eq_some_iff.1 hu).1
      have h3 := ((h.row k hl u hu).lt j h1).2
      rcases hg.moved with h4 | ⟨q, h4, h5⟩
      · rw [h4] at h2
        exact h.apart k i u r hki hu hr j h1 h2
      · rw [h4] at h2; cases h2; omega
    rcases key a ra ha with ⟨h1, rfl⟩ | ⟨h1, h1'⟩ <;> rcases key b rb hb with ⟨h2, rfl⟩ | ⟨h2, h2'⟩
    · omega
    · exact (far b rb h2 h2').symm
    · exact far a ra h1 h1'
    · exact h.apart a b ra rb hab h1' h2'
/-- One byte of a row is written. -/
theorem Mat.setByte (h : Mat W base v rs ms) {i k g n c : Nat} (hi : i < ms.length) (hr : rs[i]? = some (.slice (some ⟨g, 0, none⟩) n c)) (b : UInt8) :
    Mat (W.setCell ⟨g, k, none⟩ (bv b)) base v rs (ms.set i (ms[i].set k b)) := by
  have hir : i < rs.length := by rw [h.len]; exact hi
  have ho := h.row i hi _ hr
  have hln : ms[i].length = n := by
    rcases ho.2 with ⟨h0, _⟩ | ⟨g', cap, cur, h0, _⟩
    · cases h0
    · injection h0
      rename_i h1 _; exact h1.symm
  rw [hln] at ho
  have hs := ho.stored k (bv b)
  have hg : Grew W (W.setCell ⟨g, k, none⟩ (bv b)) base 5 (.slice (some ⟨g, 0, none⟩) n c) (.slice (some ⟨g, 0, none⟩) n c) ((ms[i].set k b).map bv) :=
    ⟨by have := hs.1; rw [← List.map_set] at this; simpa [hln] using this, hs.2, .inl rfl⟩
  have hset : rs.set i (.slice (some ⟨g, 0, none⟩) n c) = rs := by
    apply List.ext_getElem?
    intro j
    by_cases e : i = j
    · subst e; rw [List.getElem?_set_self hir, hr]
    · rw [List.getElem?_set_ne e]
  have := h.replace hi hr hg (W'' := W.setCell ⟨g, k, none⟩ (bv b)) (by rw [hset]; exact h.keepV ho hg) (fun _ _ _ hgc => hgc)
  rwa [hset] at this
/-- A row has grown, and is stored. -/
theorem Mat.setRow (h : Mat W base v rs ms) {i g n c : Nat} (hv : v = .slice (some ⟨g, 0, none⟩) n c) (hi : i < ms.length) {r r' : Value} (hr : rs[i]? = some r) {l' : List UInt8} (hg : Grew W W' base 5 r r' (l'.map bv)) :
    Mat (W'.setCell ⟨g, i, none⟩ r') base v (rs.set i r') (ms.set i l') := by
  have hV := h.keepV (h.row i hi r hr) hg
  have hn : n = rs.length := by
    subst hv
    rcases hV.2 with ⟨h0, _⟩ | ⟨g', cap, cur, h0, _⟩
    · cases h0
    · injection h0
  subst hv
  subst hn
  have hs := hV.stored i r'
  refine h.replace hi hr hg hs.1 fun g' cur _ hgc => ?_
  have hne : g' ≠ g := by
    rintro rfl
    rcases hV.2 with ⟨h0, _⟩ | ⟨g2, cap, cur2, h0, _, h2, _⟩
    · cases h0
    · injection h0 with h1
      injection h1 with h1
      injection h1 with h1
      subst h1
      rw [h2] at hgc
      simp at hgc
  exact (hs.2.block g' (Array.getElem?_eq_some_iff.1 hgc).1 fun e => by injection e with e; exact hne e).trans hgc
end
end Go.Proofs.Ytemokpnepnmmkaa
/- An append of the call's own inside a fence. No premises. -/
namespace Go.Proofs.Ytemokpnepnmmkaa
open Go.RowKit
theorem wpListIn_appN {F : Fence} {d : Nat} {P : Program} {ops : Array Oper} {rest : List Oper} {o : Oper} {a : Act} {Q : Exit → Act → World → Prop} (w : World) (hgd : o.guard = none) (s x : Operand) (t : TypeId)
    (ho : o.op = .call { callee := .builtin .append, args := #[s, x], argTypes := #[t, t] })
    (base : Nat) (e : TypeId) (i : TypeInfo) (z : Value) (bytes : Nat) (ht : P.underlying t = some (.slice e)) (hi : P.info? e = some i) (hz : i.zero = some z)
    (hsize : i.size = 1) (hby : i.bytes = bytes) (hzs : z.cells.size = 1)
    (v : Value) (xs : List Value) (hs : a.eval s = v) (hown : w.ownsRow base e 1 v xs.length xs)
    (B : Nat) (A : Option Addr) (m c : Nat) (news : List Value) (hx : a.eval x = .slice A m c) (hr : Rd w B A m news) (h1 : ∀ u ∈ news, u.oneCell' = true)
    (hbytes : (xs.length + m) * bytes ≤ 140737488355328) (hlen : xs.length + m ≤ 140737488355328) (hbase : base ≤ w.heap.size)
    (h : ∀ v' w', Grew w w' base e v v' (xs ++ news) → wpListIn F d P ops Q rest (a.put o.dst v') w') : wpListIn F d P ops Q (o :: rest) a w := by
  refine wpListIn_plain hgd fun K hK => ?_
  obtain ⟨v', w', hrun, hg⟩ := run_appN (P := P) w base t o.type e i z bytes ht hi hz hsize hby hzs v xs hown B A m c news hr h1 hbytes hlen hbase
  have hk := hK _ _ (h v' w' hg)
  unfold Oper.wpIn
  refine ⟨by simp [Oper.about, ho, resolve, Target.leads, Sem.run_pure], ?_⟩
  rw [Oper.semAt_plain F _ _ (by rw [ho]; intro _ hc; cases hc)]
  simp [execOp, ho, resolve, invoke, builtin, hs, hx, hrun, Result.andThen]
  exact hk
end Go.Proofs.Ytemokpnepnmmkaa
