/- Joined: Sof7, Ksl, Kof, Kog, Koi, Koh, Ksp, Fld, Ktk, Kpk. -/
import Derived.Test.YteljmlodbnfhbaaSof6
import Derived.Test.YteljmlodbnfhbaaKke
import Derived.Test.YteljmlodbnfhbaaKf
import Derived.Test.YteljmlodbnfhbaaKsm
import Derived.Test.YteljmlodbnfhbaaArgs
import Derived.Deep.Fields
import Derived.ChangeArms
import Derived.Test.YteljmlodbnfhbaaKs
import Derived.Test.YteljmlodbnfhbaaUpto
/- Sof7 -/
namespace Go.Proofs.Yteljmlodbnfhbaa
open Go.RowKit
section
variable {P : Program} {ops : Array Oper} {Q : Exit → Act → World → Prop} {a0 : Act} {C : List Bool → World → Prop} {R : Nat → Value → World → Prop}
def setAt (ps : List Nat) (i : Nat) (bits : List Bool) : List Bool := match idx ps i with
  | some k => bits.set k true
  | none => bits
def OwesB (P : Program) (ops : Array Oper) (Q : Exit → Act → World → Prop) (C : List Bool → World → Prop) (ps : List Nat) (R : Nat → Value → World → Prop) (a0 : Act) (i : Nat) (o : Oper) : Prop :=
  ∀ (a : Act) (w : World) (bits : List Bool), C bits w → (∀ (k p : Nat), ps[k]? = some p → depOn ops i p = true → bits[k]? = some true) → (∀ (k p : Nat), ps[k]? = some p → (p = i ∨ depOn ops p i = true) → bits[k]? = some false) → Sees ops a0 R o a w →
    Region.wanted o (yielded ops a.tmps) = true ∧ ∀ K : Act → World → Prop, (∀ v w', R i (if o.dst.isSome then v else undef) w' → C (setAt ps i bits) w' → K (a.put o.dst v) w') → Oper.wp P o a w K Q
theorem OwesB.q {ps : List Nat} {i : Nat} {o : Oper} (hi : idx ps i = none) (h : ∀ (a : Act) (w : World) (bits : List Bool), C bits w → (∀ (k p : Nat), ps[k]? = some p → depOn ops i p = true → bits[k]? = some true) → (∀ (k p : Nat), ps[k]? = some p → (p = i ∨ depOn ops p i = true) → bits[k]? = some false) → Sees ops a0 R o a w →
    Region.wanted o (yielded ops a.tmps) = true ∧ ValWp P o a.eval w fun v w' => R i (if o.dst.isSome then v else undef) w' ∧ w' = w) : OwesB P ops Q C ps R a0 i o := fun a w bits hC hd hu hs => by
  obtain ⟨h1, h2⟩ := h a w bits hC hd hu hs
  refine ⟨h1, fun K hK => wp_of_val (h2.mono fun v w' hk => hK v w' hk.1 ?_)⟩
  obtain ⟨_, rfl⟩ := hk
  unfold setAt
  rw [hi]
  exact hC
def OwesAllB (P : Program) (ops : Array Oper) (Q : Exit → Act → World → Prop) (C : List Bool → World → Prop) (ps : List Nat) (R : Nat → Value → World → Prop) (a0 : Act) : Nat → List Oper → Prop
  | _, [] => True
  | n, o :: l => OwesB P ops Q C ps R a0 n o ∧ OwesAllB P ops Q C ps R a0 (n + 1) l
theorem owesAllB_at {ps : List Nat} : ∀ (l : List Oper) (n i : Nat) (o : Oper), OwesAllB P ops Q C ps R a0 n l → l[i]? = some o → OwesB P ops Q C ps R a0 (n + i) o
  | [], _, i, o, _, h => by simp at h
  | x :: l, n, 0, o, h, ho => by simp at ho; subst ho; exact h.1
  | x :: l, n, i + 1, o, h, ho => by
    have := owesAllB_at l (n + 1) i o h.2 (by simpa using ho)
    rwa [show n + 1 + i = n + (i + 1) by omega] at this
structure PhaseB (ops : Array Oper) (ps : List Nat) (C : List Bool → World → Prop) (listed : Array Bool) (w : World) : Prop where
  c : C (ps.map fun p => listed.getD p false) w
  dep : ∀ p, listed.getD p false = true → ∀ i, depOn ops p i = true → listed.getD i false = true
theorem bits_set {ps : List Nat} (hnd : ps.Nodup) {listed : Array Bool} {i : Nat} (hi : i < listed.size) : (ps.map fun p => (listed.setIfInBounds i true).getD p false) = setAt ps i (ps.map fun p => listed.getD p false) := by
  unfold setAt
  cases e : idx ps i with
  | none =>
    refine List.map_congr_left fun p hp => ?_
    obtain ⟨k, hk⟩ := List.mem_iff_getElem?.1 hp
    exact getD_set_ne fun e2 => idx_none e k (by rw [hk, e2])
  | some k =>
    have h1 := idx_some e
    have hk := (List.getElem?_eq_some_iff.1 h1).1
    refine List.ext_getElem? fun j => ?_
    by_cases hj : j = k
    · subst hj
      rw [List.getElem?_map, h1, List.getElem?_set_self (by simpa using hk)]
      simp only [Option.map_some]
      rw [getD_set_same hi]
    · rw [List.getElem?_set_ne (fun e2 => hj e2.symm), List.getElem?_map, List.getElem?_map]
      cases e3 : ps[j]? with
      | none => rfl
      | some p =>
        simp only [Option.map_some]
        rw [getD_set_ne fun e2 => hj (nodup_at hnd e3 (by rw [← e2]; exact h1))]
/-- The region. -/
theorem wp_region_bits {id : Nat} {w : World} {l : List Oper} (hm : P.follows .mixedOrders = true) (ps : List Nat) (C : List Bool → World → Prop) (rv : List (Option Value)) (hps : ∀ p ∈ ps, p < l.length) (hnd : ps.Nodup) (hok : softB l.toArray a0.tmps.size = true)
    (hC : C (ps.map fun _ => false) w.drew) (hstep : OwesAllB P l.toArray Q C ps (RV rv) a0 0 l)
    (hQ : ∀ a w, C (ps.map fun _ => true) w → a.defers = a0.defers → a.tmps.size = a0.tmps.size → (∀ t, freeTmp l.toArray t = true → a.tmps.getD t undef = a0.tmps.getD t undef) → (∀ (i : Nat) o, l[i]? = some o → RV rv i (slotOf o.dst a) w) → Q .normal a w) :
    (Code.region id l.toArray true).wp P Q a0 w := by
  have hmono : ∀ i v w w', (fun _ _ => True : World → World → Prop) w w' → RV rv i v w → RV rv i v w' := fun i v w w' _ h => h
  have hso := SoftOk.of hok
  refine wp_region_any hm (wpAny_softA (C := fun listed _ w => PhaseB l.toArray ps C listed w) (R := RV rv) (G := fun _ _ => True) hso hmono (fun i o ho listed a w hsz hun hdeps hc hsize hsee K hK => ?_)
    (fun listed a w hall hc h => ?_) l.toArray.size (Array.replicate l.toArray.size false) a0 w.drew ?_ ?_ ⟨by simp, rfl, rfl, fun _ _ => rfl, fun i o ho hl => ?_⟩)
  · have hil : i < listed.size := by rw [hsz]; exact (Array.getElem?_eq_some_iff.1 ho).1
    have hf : listed.getD i false = false := by simp [hil] at hun ⊢; exact hun
    have hw := owesAllB_at l 0 i o hstep (by simpa using ho)
    rw [Nat.zero_add] at hw
    have hdl := fun d hd => deps_listed ho hdeps d hd
    obtain ⟨hw1, hw2⟩ := hw a w _ hc.c (fun k p hk hd => by rw [List.getElem?_map, hk]; simp only [Option.map_some]; rw [hdl p hd]) (fun k p hk hd => by
      rw [List.getElem?_map, hk]
      simp only [Option.map_some]
      rcases hd with rfl | hd
      · rw [hf]
      · cases e : listed.getD p false with
        | false => rfl
        | true => rw [hc.dep p e i hd] at hf; cases hf) hsee
    rw [if_pos hw1]
    refine hw2 K fun v w' hR hC' => hK v w' hR ⟨by rw [bits_set hnd hil]; exact hC', fun p hp d hd => ?_⟩ trivial
    by_cases hpi : i = p
    · subst hpi
      exact listed_more hil (hdl d hd)
    · rw [getD_set_ne hpi] at hp
      exact listed_more hil (hc.dep p hp d hd)
  · refine hQ a w ?_ h.defers h.size (fun t ht => h.outer t fun j oj' hj _ hd => ?_) fun i o ho => h.inner i o (by simpa using ho) (by have := (List.getElem?_eq_some_iff.1 ho).1; simp [this])
    · have := hc.c
      rwa [List.map_congr_left (g := fun _ => true) fun p hp => hall p (by simpa using hps p hp)] at this
    unfold freeTmp at ht
    rw [List.all_eq_true] at ht
    have := ht oj' (Array.mem_toList_iff.2 (Array.mem_of_getElem? hj))
    simp [hd] at this
  · unfold open_; exact Nat.le_trans List.countP_le_length (by simp)
  · have hz : ∀ p : Nat, (Array.replicate l.toArray.size false).getD p false = false := fun p => by by_cases hp : p < l.length <;> simp [hp]
    refine ⟨?_, fun p hp => by rw [hz] at hp; cases hp⟩
    rwa [List.map_congr_left (g := fun _ => false) fun p _ => hz p]
  · exfalso
    have hi := (Array.getElem?_eq_some_iff.1 ho).1
    rw [List.size_toArray] at hi
    simp [hi] at hl
end
end Go.Proofs.Yteljmlodbnfhbaa
/- Ksl -/
namespace Go.Proofs.Yteljmlodbnfhbaa
open Go.RowKit
section
variable {P : Program} {ops : Array Oper} {Q : Exit → Act → World → Prop} {a0 : Act} {C : List Bool → (Tmp → Value) → World → Prop} {R : Nat → Value → World → Prop}
theorem put_at (a : Act) (d : Option Tmp) (v : Value) (t0 : Tmp) (h : ∀ t, d = some t → t < a.tmps.size) : (a.put d v).tmps.getD t0 undef = if d = some t0 then v else a.tmps.getD t0 undef := by
  by_cases e : d = some t0
  · rw [if_pos e]
    have h9 := slot_put_same (a := a) (d := d) (v := v) h
    rw [e] at h9 ⊢
    simpa [slotOf] using h9
  · rw [if_neg e]
    exact slot_put_other (a := a) (d := d) (e := some t0) (v := v) (fun t' ht' e2 => e (by rw [ht', e2]))
/-- The slots, with one more written. -/
def putS (S : Tmp → Value) (d : Option Tmp) (v : Value) : Tmp → Value := fun t => if d = some t then v else S t
def OwesV (P : Program) (ops : Array Oper) (Q : Exit → Act → World → Prop) (C : List Bool → (Tmp → Value) → World → Prop) (ps : List Nat) (R : Nat → Value → World → Prop) (a0 : Act) (i : Nat) (o : Oper) : Prop :=
  ∀ (a : Act) (w : World) (bits : List Bool), C bits (fun t => a.tmps.getD t undef) w → (∀ (k p : Nat), ps[k]? = some p → depOn ops i p = true → bits[k]? = some true) → (∀ (k p : Nat), ps[k]? = some p → (p = i ∨ depOn ops p i = true) → bits[k]? = some false) → Sees ops a0 R o a w →
    Region.wanted o (yielded ops a.tmps) = true ∧ ∀ K : Act → World → Prop, (∀ v w', R i (if o.dst.isSome then v else undef) w' → C (setAt ps i bits) (putS (fun t => a.tmps.getD t undef) o.dst v) w' → K (a.put o.dst v) w') → Oper.wp P o a w K Q
/-- C speaks of these slots alone. -/
def Only (C : List Bool → (Tmp → Value) → World → Prop) (ts : List Tmp) : Prop := ∀ bits S S' w, (∀ t ∈ ts, S t = S' t) → C bits S w → C bits S' w
theorem OwesV.q {ps : List Nat} {ts : List Tmp} (hon : Only C ts) {i : Nat} {o : Oper} (hi : idx ps i = none) (hd : ∀ t ∈ ts, o.dst ≠ some t) (h : ∀ (a : Act) (w : World) (bits : List Bool), C bits (fun t => a.tmps.getD t undef) w → (∀ (k p : Nat), ps[k]? = some p → depOn ops p i = true → bits[k]? = some false) → Sees ops a0 R o a w →
    Region.wanted o (yielded ops a.tmps) = true ∧ ValWp P o a.eval w fun v w' => R i (if o.dst.isSome then v else undef) w' ∧ w' = w) : OwesV P ops Q C ps R a0 i o := fun a w bits hC _ hu hs => by
  obtain ⟨h1, h2⟩ := h a w bits hC (fun k p hk hd => hu k p hk (.inr hd)) hs
  refine ⟨h1, fun K hK => wp_of_val (h2.mono fun v w' hk => hK v w' hk.1 ?_)⟩
  obtain ⟨_, rfl⟩ := hk
  unfold setAt
  rw [hi]
  exact hon _ _ _ _ (fun t ht => by unfold putS; rw [if_neg (hd t ht)]) hC
def OwesAllV (P : Program) (ops : Array Oper) (Q : Exit → Act → World → Prop) (C : List Bool → (Tmp → Value) → World → Prop) (ps : List Nat) (R : Nat → Value → World → Prop) (a0 : Act) : Nat → List Oper → Prop
  | _, [] => True
  | n, o :: l => OwesV P ops Q C ps R a0 n o ∧ OwesAllV P ops Q C ps R a0 (n + 1) l
theorem owesAllV_at {ps : List Nat} : ∀ (l : List Oper) (n i : Nat) (o : Oper), OwesAllV P ops Q C ps R a0 n l → l[i]? = some o → OwesV P ops Q C ps R a0 (n + i) o
  | [], _, i, o, _, h => by simp at h
  | x :: l, n, 0, o, h, ho => by simp at ho; subst ho; exact h.1
  | x :: l, n, i + 1, o, h, ho => by
    have := owesAllV_at l (n + 1) i o h.2 (by simpa using ho)
    rwa [show n + 1 + i = n + (i + 1) by omega] at this
structure PhaseV (ops : Array Oper) (ps : List Nat) (C : List Bool → (Tmp → Value) → World → Prop) (listed : Array Bool) (a : Act) (w : World) : Prop where
  c : C (ps.map fun p => listed.getD p false) (fun t => a.tmps.getD t undef) w
  dep : ∀ p, listed.getD p false = true → ∀ i, depOn ops p i = true → listed.getD i false = true
/-- The region. -/
theorem wp_region_slots {id : Nat} {w : World} {l : List Oper} (hm : P.follows .mixedOrders = true) (ps : List Nat) (C : List Bool → (Tmp → Value) → World → Prop) (rv : List (Option Value)) (hps : ∀ p ∈ ps, p < l.length) (hnd : ps.Nodup) (hok : softB l.toArray a0.tmps.size = true)
    (hC : C (ps.map fun _ => false) (fun t => a0.tmps.getD t undef) w.drew) (hstep : OwesAllV P l.toArray Q C ps (RV rv) a0 0 l)
    (hQ : ∀ a w, C (ps.map fun _ => true) (fun t => a.tmps.getD t undef) w → a.defers = a0.defers → a.tmps.size = a0.tmps.size → (∀ t, freeTmp l.toArray t = true → a.tmps.getD t undef = a0.tmps.getD t undef) → (∀ (i : Nat) o, l[i]? = some o → RV rv i (slotOf o.dst a) w) → Q .normal a w) :
    (Code.region id l.toArray true).wp P Q a0 w := by
  have hmono : ∀ i v w w', (fun _ _ => True : World → World → Prop) w w' → RV rv i v w → RV rv i v w' := fun i v w w' _ h => h
  have hso := SoftOk.of hok
  refine wp_region_any hm (wpAny_softA (C := fun listed a w => PhaseV l.toArray ps C listed a w) (R := RV rv) (G := fun _ _ => True) hso hmono (fun i o ho listed a w hsz hun hdeps hc hsize hsee K hK => ?_)
    (fun listed a w hall hc h => ?_) l.toArray.size (Array.replicate l.toArray.size false) a0 w.drew ?_ ?_ ⟨by simp, rfl, rfl, fun _ _ => rfl, fun i o ho hl => ?_⟩)
  · have hil : i < listed.size := by rw [hsz]; exact (Array.getElem?_eq_some_iff.1 ho).1
    have hf : listed.getD i false = false := by simp [hil] at hun ⊢; exact hun
    have hw := owesAllV_at l 0 i o hstep (by simpa using ho)
    rw [Nat.zero_add] at hw
    have hdl := fun d hd => deps_listed ho hdeps d hd
    obtain ⟨hw1, hw2⟩ := hw a w _ hc.c (fun k p hk hd => by rw [List.getElem?_map, hk]; simp only [Option.map_some]; rw [hdl p hd]) (fun k p hk hd => by
      rw [List.getElem?_map, hk]
      simp only [Option.map_some]
      rcases hd with rfl | hd
      · rw [hf]
      · cases e : listed.getD p false with
        | false => rfl
        | true => rw [hc.dep p e i hd] at hf; cases hf) hsee
    rw [if_pos hw1]
    refine hw2 K fun v w' hR hC' => hK v w' hR ⟨?_, fun p hp d hd => ?_⟩ trivial
    · rw [bits_set hnd hil]
      have e : (fun t => (a.put o.dst v).tmps.getD t undef) = putS (fun t => a.tmps.getD t undef) o.dst v := by
        funext t
        exact put_at a o.dst v t (fun t' ht' => by rw [hsize]; exact hso.inn i o t' ho ht')
      rw [e]
      exact hC'
    by_cases hpi : i = p
    · subst hpi
      exact listed_more hil (hdl d hd)
    · rw [getD_set_ne hpi] at hp
      exact listed_more hil (hc.dep p hp d hd)
  · refine hQ a w ?_ h.defers h.size (fun t ht => h.outer t fun j oj' hj _ hd => ?_) fun i o ho => h.inner i o (by simpa using ho) (by have := (List.getElem?_eq_some_iff.1 ho).1; simp [this])
    · have := hc.c
      rwa [List.map_congr_left (g := fun _ => true) fun p hp => hall p (by simpa using hps p hp)] at this
    unfold freeTmp at ht
    rw [List.all_eq_true] at ht
    have := ht oj' (Array.mem_toList_iff.2 (Array.mem_of_getElem? hj))
    simp [hd] at this
  · unfold open_; exact Nat.le_trans List.countP_le_length (by simp)
  · have hz : ∀ p : Nat, (Array.replicate l.toArray.size false).getD p false = false := fun p => by by_cases hp : p < l.length <;> simp [hp]
    refine ⟨?_, fun p hp => by rw [hz] at hp; cases hp⟩
    rwa [List.map_congr_left (g := fun _ => false) fun p _ => hz p]
  · exfalso
    have hi := (Array.getElem?_eq_some_iff.1 ho).1
    rw [List.size_toArray] at hi
    simp [hi] at hl
end
end Go.Proofs.Yteljmlodbnfhbaa
/- Kof -/
namespace Go.Proofs.Yteljmlodbnfhbaa
open Go.RowKit
namespace Ks
set_option maxRecDepth 100000
/-- All blocks but the one of a row under way, and one more. -/
def Xk (v : Value) (b : Nat) : Nat → Prop := fun j => v.ownBlock ≠ some j ∧ j ≠ b
/-- A frame of the source, whatever becomes of newer blocks. -/
def Src (W : World) (fs : List Value) (f : Fm) : Prop := ∀ u : World, W.heap.size ≤ u.heap.size → (∀ p : Addr, p.block < W.heap.size → u.cell? p = W.cell? p) → fmR.C u u.heap.size fs f
def zeroS : Array Value := #[.slice none 0 0, .slice none 0 0, .int .i64 0, .string ⟨#[]⟩, .slice none 0 0, .slice none 0 0, .slice none 0 0, .slice none 0 0, .slice none 0 0, .int .i64 0, .int .i64 0, .int .i64 0, .string ⟨#[]⟩, .slice none 0 0, .int .i64 0, .int .i64 0, .int .i64 0, .int .i64 0, .string ⟨#[]⟩, .slice none 0 0, .int .i64 0, .slice none 0 0, .slice none 0 0, .slice none 0 0, .int .i64 0]
structure OW (W : World) (csA : Array Value) (s : St) (wr : World) (v : Value) (i : Nat) (xss : List (List Value)) : Prop where
  low : Later W wr
  bx : wr.heap[W.heap.size]? = some (.cells csA 40 (0, 0))
  rs : wr.heap[W.heap.size + 1]? = some (.cells zeroS 59 (0, 0))
  own : wr.ownsRow (W.heap.size + 2) 85 15 v i xss.flatten
  len : xss.length = i
  els : ∀ (k : Nat) (x : List Value) (f : Fm), xss[k]? = some x → s.stack[k]? = some f → ∀ u, Fr (Xk v (W.heap.size + 1)) wr u → frR.C u u.heap.size x (frOf f)
section
variable {W : World} {csA : Array Value} {s : St} {wr w2 : World} {v v' : Value} {i : Nat} {xss : List (List Value)} {x : List Value}
theorem OW.later (h : OW W csA s wr v i xss) (hl : Later wr w2) : OW W csA s w2 v i xss :=
  ⟨h.low.trans hl, later_cells hl h.bx, later_cells hl h.rs, own_below h.own hl, h.len, fun k x f hx hf u hu => h.els k x f hx hf u ((Fr.later hl).trans hu)⟩
theorem OW.push (h : OW W csA s wr v i xss) (hi : i < s.stack.length) (hg : GrewK wr w2 (W.heap.size + 2) 85 15 v v' (i + 1) (xss.flatten ++ x)) (hx : ∀ u, Fr (Xk v (W.heap.size + 1)) wr u → frR.C u u.heap.size x (frOf s.stack[i])) : OW W csA s w2 v' (i + 1) (xss ++ [x]) := by
  have hge : ∀ j, j < W.heap.size + 2 → some j ≠ v.ownBlock := fun j hj e => by have := h.own.lt j e.symm; omega
  have hsz := h.low.size
  have hfr : ∀ u, Fr (Xk v' (W.heap.size + 1)) w2 u → Fr (Xk v (W.heap.size + 1)) wr u := fun u hu =>
    ⟨hu.os.trans hg.grown.os, hu.tape.trans hg.grown.tape, hu.output.trans hg.grown.output, Nat.le_trans hg.grown.size hu.size, fun b hb hxb => (hu.block b (Nat.lt_of_lt_of_le hb hg.grown.size) ⟨fun e => by
      rcases hg.moved with e1 | ⟨y, e1, hy⟩
      · exact hxb.1 (by rw [← e1]; exact e)
      · rw [e1] at e; injection e with e; omega, hxb.2⟩).trans (hg.grown.block b hb fun e => hxb.1 e.symm)⟩
  refine ⟨⟨hg.grown.os.trans h.low.os, hg.grown.tape.trans h.low.tape, hg.grown.output.trans h.low.output, Nat.le_trans hsz hg.grown.size, fun j hj => (hg.grown.block j (by omega) (hge j (by omega))).trans (h.low.block j hj)⟩,
    (hg.grown.block _ (lt_of_block h.bx) (hge _ (by omega))).trans h.bx, (hg.grown.block _ (lt_of_block h.rs) (hge _ (by omega))).trans h.rs, by have := hg.own; simpa using this, by rw [List.length_append, h.len]; rfl, fun k y f hy hf u hu => ?_⟩
  by_cases hk : k < xss.length
  · rw [List.getElem?_append_left hk] at hy
    exact h.els k y f hy hf u (hfr u hu)
  · have hk2 : k = xss.length := by
      have := (List.getElem?_eq_some_iff.1 hy).1
      rw [List.length_append] at this
      simp at this; omega
    subst hk2
    rw [List.getElem?_append_right (Nat.le_refl _), Nat.sub_self] at hy
    rw [h.len, List.getElem?_eq_getElem hi] at hf
    simp at hy hf
    subst hy
    subst hf
    exact hx u (hfr u hu)
/-- What is new in a row of rows of two texts. -/
structure RI (w4 : World) (f : Fm) (wr : World) (v6 : Value) (j : Nat) : Prop where
  low : Later w4 wr
  own : wr.ownsRow w4.heap.size 92 2 v6 j ((f.rows.take j).flatMap cV)
theorem RI.later {w4 wr w2 : World} {f : Fm} {v6 : Value} {j : Nat} (h : RI w4 f wr v6 j) (hl : Later wr w2) : RI w4 f w2 v6 j := ⟨h.low.trans hl, own_below h.own hl⟩
theorem RI.push {w4 wr w2 : World} {f : Fm} {v6 v' : Value} {j : Nat} (h : RI w4 f wr v6 j) (hj : j < f.rows.length) (hg : GrewK wr w2 w4.heap.size 92 2 v6 v' (j + 1) ((f.rows.take j).flatMap cV ++ cV f.rows[j])) : RI w4 f w2 v' (j + 1) := by
  have hge : ∀ k, k < w4.heap.size → some k ≠ v6.ownBlock := fun k hk e => by have := h.own.lt k e.symm; omega
  have hsz := h.low.size
  exact ⟨⟨hg.grown.os.trans h.low.os, hg.grown.tape.trans h.low.tape, hg.grown.output.trans h.low.output, Nat.le_trans hsz hg.grown.size, fun k hk => (hg.grown.block k (by omega) (hge k hk)).trans (h.low.block k hk)⟩, by rw [flat_take_snoc _ _ _ hj]; exact hg.own⟩
end
theorem info_R13 : (Try.prog.info? 92).map (fun i => (i.zero, i.size, i.bytes)) = some (some (.agg #[.string ⟨#[]⟩, .string ⟨#[]⟩]), 2, 32) := by kernel_rfl
theorem info_F18 : (Try.prog.info? 85).map (fun i => (i.zero, i.size, i.bytes)) = some (some (.agg #[.slice none 0 0, .bool false, .int .i64 0, .int .i64 0, .string ⟨#[]⟩, .slice none 0 0, .slice none 0 0, .slice none 0 0, .slice none 0 0, .slice none 0 0, .int .i64 0, .string ⟨#[]⟩, .slice none 0 0, .slice none 0 0, .slice none 0 0]), 15, 280) := by kernel_rfl
theorem results_S {fn : Func} {p : Tmp} (h : fn.results = #[.cell p 59]) (tmps : Array Value) (w : World) (g : Nat) (cs : Array Value) (hp : tmps.getD p undef = .pointer (some ⟨g, 0, none⟩)) (hg : w.heap[g]? = some (.cells cs 59 (0, 0))) (hs : cs.size = 25) : (results fn tmps).run Try.prog w = .ok (.agg cs) w := by
  have hp' : tmps[p]?.getD undef = .pointer (some ⟨g, 0, none⟩) := by simpa using hp
  simp [results, h, hp', asAddr, run_loadVar_row w g _ _ cs (0, 0) _ hg Try.underlying59 rfl (by rw [hs]; kernel_rfl)]
theorem info_S18 : (Try.prog.info? 59).map (fun i => (i.zero, i.size)) = some (some (.agg zeroS), 25) := by kernel_rfl
/-- A frame as the document has it, out of its parts. -/
theorem fr_mk {u : World} {f : Fm} {fs : List Value} {N : Nat} {v6 : Value} {cs' : List Value} (hf : fmR.C u u.heap.size fs f) (hi : u.heap[N]? = some (.cells #[.int .i64 f.op, .int .i64 f.prog, .int .i64 f.node, .int .i64 f.phase, .int .i64 f.i] 3 (0, 0))) (h6 : (rrow prR).C u u.heap.size [v6] f.rows) (hk : kpR.C u u.heap.size cs' f.keep) :
    ∃ v1 v2 : Value, fs.drop 9 = v1 :: v2 :: fs.drop 11 ∧ frR.C u u.heap.size ([.slice (some ⟨N, 0, none⟩) 5 5] ++ ([.bool f.quiet] ++ ([.int .i64 f.a] ++ ([.int .i64 f.b] ++ ([.string (mkS f.text)] ++ ([v1] ++ ([v2] ++ ([v6] ++ cs')))))))) (frOf f) := by
  obtain ⟨x1, y1, rfl, h1, x2, y2, rfl, h2, x3, y3, rfl, h3, x4, y4, rfl, h4, x5, y5, rfl, h5, x6, y6, rfl, hq, x7, y7, rfl, h7, x8, y8, rfl, h8, x9, y9, rfl, h9, xa, ya, rfl, ha, xb, yb, rfl, hb, _⟩ := hf
  obtain ⟨A1, c1, rfl, ha1, ha2, ha3⟩ := ha
  obtain ⟨A2, c2, rfl, hb1, hb2, hb3⟩ := hb
  rw [h1.1, h2.1, h3.1, h4.1, h5.1, show x6 = [.bool f.quiet] from hq, h7.1, h8.1, h9.1]
  have hI5 : ∀ x ∈ [f.op, f.prog, f.node, f.phase, f.i], I64 x := by
    intro x hx
    simp only [List.mem_cons, List.not_mem_nil, or_false] at hx
    rcases hx with rfl | rfl | rfl | rfl | rfl
    · exact h1.2
    · exact h2.2
    · exact h3.2
    · exact h4.2
    · exact h5.2
  refine ⟨_, _, rfl, [.slice (some ⟨N, 0, none⟩) 5 5], _, rfl, ?_, [.bool f.quiet], _, rfl, rfl, [.int .i64 f.a], _, rfl, ⟨rfl, h7.2⟩, [.int .i64 f.b], _, rfl, ⟨rfl, h8.2⟩, [.string (mkS f.text)], _, rfl, ⟨rfl, h9.2⟩, _, _, rfl, ⟨A1, c1, rfl, ha1, ha2, ha3⟩, _, _, rfl, ⟨A2, c2, rfl, hb1, hb2, hb3⟩, [v6], _, rfl, h6, hk⟩
  refine ⟨_, 5, rfl, Nat.le_refl _, by omega, [[.int .i64 f.op], [.int .i64 f.prog], [.int .i64 f.node], [.int .i64 f.phase], [.int .i64 f.i]], rfl, ⟨rfl, fun _ => ⟨_, rfl, lt_of_block hi, fun j y hj => by
    rw [add_lit0, (cell_row hi j).1]; simpa using hj⟩⟩, fun k x a hx ha => ?_⟩
  have hIa := hI5 a (List.mem_of_getElem? ha)
  match k, hx, ha with
  | 0, hx, ha => cases hx; cases ha; exact ⟨rfl, hIa⟩
  | 1, hx, ha => cases hx; cases ha; exact ⟨rfl, hIa⟩
  | 2, hx, ha => cases hx; cases ha; exact ⟨rfl, hIa⟩
  | 3, hx, ha => cases hx; cases ha; exact ⟨rfl, hIa⟩
  | 4, hx, ha => cases hx; cases ha; exact ⟨rfl, hIa⟩
end Ks
end Go.Proofs.Yteljmlodbnfhbaa
/- Kog -/
namespace Go.Proofs.Yteljmlodbnfhbaa
open Go.RowKit
namespace Ks
set_option maxRecDepth 100000
section
variable (W wz : World) (V3 : Value) (f : Fm) (j : Nat) (fl : List Value)
def HX (x : List Value) (y : World) : Prop := x.length = 15 ∧ (∀ u ∈ x, u.oneCell' = true) ∧ ∀ u, Fr (Xk V3 (W.heap.size + 1)) y u → frR.C u u.heap.size x (frOf f)
def Fin11 (v : Value) (y : World) : Prop := ∃ y0 x, Later wz y0 ∧ GrewK y0 y (W.heap.size + 2) 85 15 V3 v (j + 1) (fl ++ x) ∧ HX W V3 f x y0
def I54 (v : Value) (y : World) : Prop := ∃ N, v = .slice (some ⟨N, 0, none⟩) 5 5 ∧ y.heap[N]? = some (.cells #[.int .i64 f.op, .int .i64 f.prog, .int .i64 f.node, .int .i64 f.phase, .int .i64 f.i] 3 (0, 0)) ∧ wz.heap.size ≤ N
def K70 (v : Value) (y : World) : Prop := ∃ cs : List Value, v = .agg cs.toArray ∧ ∀ u, Fr (Xk V3 (W.heap.size + 1)) y u → kpR.C u u.heap.size cs f.keep
def C11 (bits : List Bool) (S : Tmp → Value) (y : World) : Prop :=
  (∃ p q, bits = [p, q, false, false, false, false] ∧ Later wz y ∧ S 3 = V3 ∧ (p = true → I54 wz f (S 54) y) ∧ (q = true → K70 W V3 f (S 70) y)) ∨
  (bits = [true, true, true, false, false, false] ∧ Later wz y ∧ S 3 = V3 ∧ ∃ x : List Value, S 71 = .agg x.toArray ∧ HX W V3 f x y) ∨
  (bits = [true, true, true, true, false, false] ∧ ∃ (y0 : World) (x : List Value), Later wz y0 ∧ S 3 = V3 ∧ y = y0.alloc (.cells x.toArray 85) ∧ S 72 = .slice (some ⟨y0.heap.size, 0, none⟩) 1 1 ∧ HX W V3 f x y0) ∨
  (bits = [true, true, true, true, true, false] ∧ Fin11 W wz V3 f j fl (S 73) y) ∨
  (bits = [true, true, true, true, true, true] ∧ Fin11 W wz V3 f j fl (S 3) y)
end
section
variable {W wz y y' : World} {V3 : Value} {f : Fm} {j : Nat} {fl : List Value} {bits : List Bool} {S : Tmp → Value}
theorem C11_only : Only (C11 W wz V3 f j fl) [54, 70, 71, 72, 73, 3] := by
  intro bits S S' w h hc
  have e54 := h 54 (by simp)
  have e70 := h 70 (by simp)
  have e71 := h 71 (by simp)
  have e72 := h 72 (by simp)
  have e73 := h 73 (by simp)
  have e3 := h 3 (by simp)
  unfold C11 at hc ⊢
  rw [e54, e70, e71, e72, e73, e3] at hc
  exact hc
theorem C11_zero (h : Later wz y) (h3 : S 3 = V3) : C11 W wz V3 f j fl [false, false, false, false, false, false] S y := .inl ⟨false, false, rfl, h, h3, fun e => (by cases e), fun e => (by cases e)⟩
theorem fin_fr {v : Value} (h : Fin11 W wz V3 f j fl v y) : Fr (Xk V3 (W.heap.size + 1)) wz y := by
  obtain ⟨y0, x, hl, hg, _⟩ := h
  exact (Fr.later hl).trans (Fr.grown hg.grown fun b hb hx => hx.1 hb)
theorem C11_fr (h : C11 W wz V3 f j fl bits S y) : Fr (Xk V3 (W.heap.size + 1)) wz y := by
  rcases h with ⟨p, q, _, h, _⟩ | ⟨_, h, _⟩ | ⟨_, y0, x, h, _, rfl, _⟩ | ⟨_, h⟩ | ⟨_, h⟩
  · exact Fr.later h
  · exact Fr.later h
  · exact Fr.later (h.trans (Later.alloc _ _))
  · exact fin_fr h
  · exact fin_fr h
theorem C11_v3 (h : C11 W wz V3 f j fl bits S y) (hu : bits[4]? = some false) : S 3 = V3 := by
  rcases h with ⟨p, q, _, _, h, _⟩ | ⟨_, _, h, _⟩ | ⟨_, y0, x, _, h, _⟩ | ⟨rfl, _⟩ | ⟨rfl, _⟩
  · exact h
  · exact h
  · exact h
  · simp at hu
  · simp at hu
theorem I54.later {v : Value} (h : I54 wz f v y) (hl : Later y y') : I54 wz f v y' := by
  obtain ⟨N, e, hb, hn⟩ := h
  exact ⟨N, e, later_cells hl hb, hn⟩
theorem K70.later {v : Value} (h : K70 W V3 f v y) (hl : Later y y') : K70 W V3 f v y' := by
  obtain ⟨cs, e, hk⟩ := h
  exact ⟨cs, e, fun u hu => hk u ((Fr.later hl).trans hu)⟩
theorem put_ne (S : Tmp → Value) {d t : Tmp} (v : Value) (h : d ≠ t) : putS S (some d) v t = S t := by unfold putS; rw [if_neg (by simpa using h)]
theorem put_eq (S : Tmp → Value) (d : Tmp) (v : Value) : putS S (some d) v d = v := by unfold putS; rw [if_pos rfl]
theorem step54 (h : C11 W wz V3 f j fl bits S y) (hu : bits[0]? = some false) : C11 W wz V3 f j fl (setAt [11, 27, 28, 29, 30, 31] 11 bits) (putS S (some 54) (.slice (some ⟨y.heap.size, 0, none⟩) 5 5)) (y.alloc (.cells #[.int .i64 f.op, .int .i64 f.prog, .int .i64 f.node, .int .i64 f.phase, .int .i64 f.i] 3)) := by
  have hla := Later.alloc y (.cells #[.int .i64 f.op, .int .i64 f.prog, .int .i64 f.node, .int .i64 f.phase, .int .i64 f.i] 3)
  rcases h with ⟨p, q, rfl, hl, h3, _, hq⟩ | ⟨rfl, _⟩ | ⟨rfl, _⟩ | ⟨rfl, _⟩ | ⟨rfl, _⟩
  · refine .inl ⟨true, q, rfl, hl.trans hla, by rw [put_ne _ _ (by decide)]; exact h3, fun _ => ⟨_, put_eq _ _ _, heap_alloc_new y _, hl.size⟩, fun e => ?_⟩
    rw [put_ne _ _ (by decide)]
    exact (hq e).later hla
  all_goals simp at hu
theorem step70 {cs : List Value} (h : C11 W wz V3 f j fl bits S y) (hu : bits[1]? = some false) (hl2 : Later y y') (hk : ∀ u, Fr (Xk V3 (W.heap.size + 1)) y' u → kpR.C u u.heap.size cs f.keep) : C11 W wz V3 f j fl (setAt [11, 27, 28, 29, 30, 31] 27 bits) (putS S (some 70) (.agg cs.toArray)) y' := by
  rcases h with ⟨p, q, rfl, hl, h3, hp, _⟩ | ⟨rfl, _⟩ | ⟨rfl, _⟩ | ⟨rfl, _⟩ | ⟨rfl, _⟩
  · refine .inl ⟨p, true, rfl, hl.trans hl2, by rw [put_ne _ _ (by decide)]; exact h3, fun e => ?_, fun _ => ⟨cs, put_eq _ _ _, hk⟩⟩
    rw [put_ne _ _ (by decide)]
    exact (hp e).later hl2
  all_goals simp at hu
theorem pre71 (h : C11 W wz V3 f j fl bits S y) (h0 : bits[0]? = some true) (h1 : bits[1]? = some true) (hu : bits[2]? = some false) : bits = [true, true, false, false, false, false] ∧ Later wz y ∧ S 3 = V3 ∧ I54 wz f (S 54) y ∧ K70 W V3 f (S 70) y := by
  rcases h with ⟨p, q, rfl, hl, h3, hp, hq⟩ | ⟨rfl, _⟩ | ⟨rfl, _⟩ | ⟨rfl, _⟩ | ⟨rfl, _⟩
  · simp at h0 h1
    subst h0
    subst h1
    exact ⟨rfl, hl, h3, hp rfl, hq rfl⟩
  all_goals simp at hu
theorem step71 {x : List Value} (h : C11 W wz V3 f j fl bits S y) (h0 : bits[0]? = some true) (h1 : bits[1]? = some true) (hu : bits[2]? = some false) (hx : HX W V3 f x y) : C11 W wz V3 f j fl (setAt [11, 27, 28, 29, 30, 31] 28 bits) (putS S (some 71) (.agg x.toArray)) y := by
  obtain ⟨rfl, hl, h3, _, _⟩ := pre71 h h0 h1 hu
  exact .inr (.inl ⟨rfl, hl, by rw [put_ne _ _ (by decide)]; exact h3, x, put_eq _ _ _, hx⟩)
theorem step72 (h : C11 W wz V3 f j fl bits S y) (h0 : bits[2]? = some true) (hu : bits[3]? = some false) : ∃ x : List Value, S 71 = .agg x.toArray ∧ x.length = 15 ∧ C11 W wz V3 f j fl (setAt [11, 27, 28, 29, 30, 31] 29 bits) (putS S (some 72) (.slice (some ⟨y.heap.size, 0, none⟩) 1 1)) (y.alloc (.cells x.toArray 85)) := by
  rcases h with ⟨p, q, rfl, _⟩ | ⟨rfl, hl, h3, x, h71, hx⟩ | ⟨rfl, _⟩ | ⟨rfl, _⟩ | ⟨rfl, _⟩
  · simp at h0
  · exact ⟨x, h71, hx.1, .inr (.inr (.inl ⟨rfl, y, x, hl, by rw [put_ne _ _ (by decide)]; exact h3, rfl, put_eq _ _ _, hx⟩))⟩
  all_goals simp at hu
theorem step73 (h : C11 W wz V3 f j fl bits S y) (h0 : bits[3]? = some true) (hu : bits[4]? = some false) (hown : wz.ownsRow (W.heap.size + 2) 85 15 V3 j fl) (hj : j ≤ 100000) (hW : W.heap.size + 2 ≤ wz.heap.size) :
    ∃ u72 v' w', S 3 = V3 ∧ S 72 = u72 ∧ (Builtin.append_ #[56, 56] 56 #[V3, u72]).run Try.prog y = .ok v' w' ∧ C11 W wz V3 f j fl (setAt [11, 27, 28, 29, 30, 31] 30 bits) (putS S (some 73) v') w' := by
  rcases h with ⟨p, q, rfl, _⟩ | ⟨rfl, _⟩ | ⟨rfl, y0, x, hl, h3, rfl, h72, hx⟩ | ⟨rfl, _⟩ | ⟨rfl, _⟩
  · simp at h0
  · simp at h0
  · obtain ⟨i0, hi, hz0, hz1, hz2⟩ := info_parts info_F18
    obtain ⟨v', w', hrun, hg⟩ := run_appK (P := Try.prog) y0 x.toArray 15 (by omega) (by simpa using hx.1) (by simpa using hx.2.1) 56 56 85 i0 _ 280 Try.underlying56 hi hz0 hz1 hz2 rfl (W.heap.size + 2) V3 j fl (own_below hown hl) (by omega) (by omega) (Nat.le_trans hW hl.size)
    exact ⟨_, v', w', h3, h72, hrun, .inr (.inr (.inr (.inl ⟨rfl, by rw [put_eq]; exact ⟨y0, x, hl, hg, hx⟩⟩)))⟩
  all_goals simp at hu
theorem step3 (h : C11 W wz V3 f j fl bits S y) (h0 : bits[4]? = some true) (hu : bits[5]? = some false) : C11 W wz V3 f j fl (setAt [11, 27, 28, 29, 30, 31] 31 bits) (putS S (some 3) (S 73)) y := by
  rcases h with ⟨p, q, rfl, _⟩ | ⟨rfl, _⟩ | ⟨rfl, _⟩ | ⟨rfl, h⟩ | ⟨rfl, _⟩
  · simp at h0
  · simp at h0
  · simp at h0
  · exact .inr (.inr (.inr (.inr ⟨rfl, by rw [put_eq]; exact h⟩)))
  · simp at hu
theorem C11_end (h : C11 W wz V3 f j fl [true, true, true, true, true, true] S y) : Fin11 W wz V3 f j fl (S 3) y := by
  rcases h with ⟨p, q, e, _⟩ | ⟨e, _⟩ | ⟨e, _⟩ | ⟨e, _⟩ | ⟨_, h⟩
  · simp at e
  · simp at e
  · simp at e
  · simp at e
  · exact h
theorem lst7 {l : List Value} (h : l.length = 7) : ∃ a0 a1 a2 a3 a4 a5 a6, l = [a0, a1, a2, a3, a4, a5, a6] := by
  match l, h with
  | [a, b, c, d, e, f, g], _ => exact ⟨a, b, c, d, e, f, g, rfl⟩
theorem lst15 {l : List Value} (h : l.length = 15) : ∃ a0 a1 a2 a3 a4 a5 a6 a7 a8 a9 b0 b1 b2 b3 b4, l = [a0, a1, a2, a3, a4, a5, a6, a7, a8, a9, b0, b1, b2, b3, b4] := by
  match l, h with
  | [a0, a1, a2, a3, a4, a5, a6, a7, a8, a9, b0, b1, b2, b3, b4], _ => exact ⟨a0, a1, a2, a3, a4, a5, a6, a7, a8, a9, b0, b1, b2, b3, b4, rfl⟩
end
end Ks
end Go.Proofs.Yteljmlodbnfhbaa
/- Koi -/
namespace Go.Proofs.Yteljmlodbnfhbaa
open Go.RowKit
namespace Ks
set_option maxRecDepth 100000
theorem ValWp.storeR {P : Program} {o : Oper} {ρ : Operand → Value} {w w' : World} {K : Value → World → Prop} {ty : TypeId} {x y : Operand} {p v : Value} (ho : o.op = .store ty x y) (hx : ρ x = p) (hy : ρ y = v) (hr : (Instr.storeAt ty p v).run P w = .ok () w') (hk : K undef w') : ValWp P o ρ w K := by
  unfold ValWp execOp
  simp only [ho, hx, hy, Sem.run_bind, hr, Result.andThen_ok, Sem.run_pure]
  exact hk
def Nb (W : World) : Nat → Prop := fun k => k ≠ W.heap.size + 1
theorem fr_nb {W wz u : World} {v : Value} (h : Fr (Nb W) wz u) : Fr (Xk v (W.heap.size + 1)) wz u := h.sub fun _ hx => hx.2
theorem st_keep {u : World} {n : Nat} {cs : List Value} {s : St} (h : stR.C u n cs s) : kpR.C u n (cs.take 7) s.keep := by
  obtain ⟨xk, yk, rfl, hk, _⟩ := h
  have hk : kpR.C u n xk s.keep := hk
  rw [List.take_append_of_le_length (by rw [kpR.len hk]; exact Nat.le_refl _), List.take_of_length_le (by rw [kpR.len hk]; exact Nat.le_refl _)]
  exact hk
theorem row_3n {u : World} {N : Nat} {t : TypeId} {a b c : Int} (hb : u.heap[N]? = some (.cells #[.int .i64 a, .int .i64 b, .int .i64 c] t (0, 0))) (h1 : I64 a) (h2 : I64 b) (h3 : I64 c) : (rrow rnum).C u u.heap.size [.slice (some ⟨N, 0, none⟩) 3 3] [a, b, c] := by
  refine ⟨_, 3, rfl, Nat.le_refl _, by omega, [[.int .i64 a], [.int .i64 b], [.int .i64 c]], rfl, ⟨rfl, fun _ => ⟨_, rfl, lt_of_block hb, fun j y hj => by
    rw [add_lit0, (cell_row hb j).1]; simpa using hj⟩⟩, fun k x a hx ha => ?_⟩
  match k, hx, ha with
  | 0, hx, ha => cases hx; cases ha; exact ⟨rfl, h1⟩
  | 1, hx, ha => cases hx; cases ha; exact ⟨rfl, h2⟩
  | 2, hx, ha => cases hx; cases ha; exact ⟨rfl, h3⟩
theorem row_3b {u : World} {N : Nat} {t : TypeId} {a b c : Bool} (hb : u.heap[N]? = some (.cells #[.bool a, .bool b, .bool c] t (0, 0))) : (rrow rbit).C u u.heap.size [.slice (some ⟨N, 0, none⟩) 3 3] [a, b, c] := by
  refine ⟨_, 3, rfl, Nat.le_refl _, by omega, [[.bool a], [.bool b], [.bool c]], rfl, ⟨rfl, fun _ => ⟨_, rfl, lt_of_block hb, fun j y hj => by
    rw [add_lit0, (cell_row hb j).1]; simpa using hj⟩⟩, fun k x a hx ha => ?_⟩
  match k, hx, ha with
  | 0, hx, ha => cases hx; cases ha; exact rfl
  | 1, hx, ha => cases hx; cases ha; exact rfl
  | 2, hx, ha => cases hx; cases ha; exact rfl
theorem OW.row {W wz u : World} {csA : Array Value} {s : St} {v : Value} {n : Nat} {xss : List (List Value)} (h : OW W csA s wz v n xss) (hn : n = s.stack.length) (hu : Fr (Nb W) wz u) : (rrow frR).C u u.heap.size [v] (s.stack.map frOf) := by
  subst hn
  have ho := hu.row h.own (fun i hi => by have := (h.own.lt i hi).1; unfold Nb; omega)
  have hh : ∃ A cap, v = .slice A s.stack.length cap ∧ s.stack.length ≤ cap ∧ cap ≤ 9223372036854775807 := by
    rcases ho.2 with ⟨rfl, h0⟩ | ⟨g, cap, cur, rfl, _, _, hnc, hcm, _⟩
    · exact ⟨none, 0, by rw [h0], by omega, by omega⟩
    · exact ⟨_, cap, rfl, hnc, hcm⟩
  obtain ⟨A, cap, rfl, h1, h2⟩ := hh
  have hl : (s.stack.map frOf).length = s.stack.length := List.length_map ..
  refine ⟨A, cap, by rw [hl], by rw [hl]; exact h1, h2, xss, by rw [hl]; exact h.len, ⟨by rw [hl]; exact ho.1, fun hn => ?_⟩, fun k x a hx ha => ?_⟩
  · rw [hl] at hn
    rcases ho.2 with ⟨e0, h0⟩ | ⟨g, cap', cur, e0, _, hb2, _⟩
    · rw [h0] at hn; simp at hn
    · injection e0 with e0
      subst e0
      exact ⟨_, rfl, lt_of_block hb2, ho.cells (g := g) rfl⟩
  · rw [List.getElem?_map] at ha
    cases hf : s.stack[k]? with
    | none => rw [hf] at ha; cases ha
    | some f =>
      rw [hf] at ha
      obtain rfl : frOf f = a := by simpa using ha
      exact h.els k x f hx hf u (fr_nb hu)
/-- A state as the document has it, out of its parts. -/
theorem ss_mk {u : World} {n : Nat} {s : St} {cs cs' : List Value} {v3 v6 v7 : Value} (h : stR.C u n cs s) (hk : kpR.C u n cs' s.keep) (h3 : (rrow frR).C u n [v3] (s.stack.map frOf)) (h6 : (rrow rnum).C u n [v6] [s.loose, s.n, s.deep]) (h7 : (rrow rbit).C u n [v7] [s.trapping, s.ended, s.done]) :
    ∃ A1 c1 Q1 e1 Q2 e2 A3 c3 v8 r, cs.drop 7 = .slice A1 s.progs.length c1 :: v8 :: .int .i64 s.asked.kind :: .int .i64 s.asked.n :: .int .i64 s.asked.m :: .string (mkS s.asked.text) :: .slice Q1 s.asked.list.length e1 :: .int .i64 s.got.kind :: .int .i64 s.got.err :: .int .i64 s.got.n :: .int .i64 s.got.m :: .string (mkS s.got.text) :: .slice Q2 s.got.list.length e2 :: .int .i64 s.got.sig :: .slice A3 s.sigs.length c3 :: r ∧
      ssR.C u n (cs' ++ ([.slice A1 s.progs.length c1] ++ ([v3] ++ ([.int .i64 s.asked.kind, .int .i64 s.asked.n, .int .i64 s.asked.m, .string (mkS s.asked.text), .slice Q1 s.asked.list.length e1] ++ ([.int .i64 s.got.kind, .int .i64 s.got.err, .int .i64 s.got.n, .int .i64 s.got.m, .string (mkS s.got.text), .slice Q2 s.got.list.length e2, .int .i64 s.got.sig] ++ ([.slice A3 s.sigs.length c3] ++ ([v6] ++ ([v7] ++ [.int .i64 s.fail])))))))) (ssOf s) := by
  obtain ⟨xk, yk, rfl, hk0, x1, y1, rfl, hp, x2, y2, rfl, ⟨A2, c2, rfl, _⟩, xq, yq, rfl, hq, xa, ya, rfl, ha, x3, y3, rfl, hs, x4, y4, rfl, h4, x5, y5, rfl, h5, xb, yb, rfl, hb, _, _, rfl, _, _, _, rfl, _, _, _, rfl, _, hf⟩ := h
  have hk0 : kpR.C u n xk s.keep := hk0
  have hq : rqR.C u n xq s.asked := hq
  have ha : anR.C u n xa s.got := ha
  have hp : txtsR.C u n x1 s.progs := hp
  have hs : (rrow rnum).C u n x3 s.sigs := hs
  obtain ⟨B1, d1, B2, d2, B3, d3, B4, d4, B5, d5, rfl, _⟩ := kp_cells hk0
  obtain ⟨Q1, e1, rfl, _⟩ := rq_cells hq
  obtain ⟨Q2, e2, rfl, _⟩ := an_cells ha
  obtain ⟨A1, c1, rfl, _⟩ := id hp
  obtain ⟨A3, c3, rfl, _⟩ := id hs
  exact ⟨A1, c1, Q1, e1, Q2, e2, A3, c3, _, _, rfl, _, _, rfl, hk, _, _, rfl, hp, _, _, rfl, h3, _, _, rfl, hq, _, _, rfl, ha, _, _, rfl, hs, _, _, rfl, h6, _, _, rfl, h7, ⟨rfl, hf.2⟩⟩
section
variable (W wz : World) (s : St)
def HS (x : List Value) (y : World) : Prop := x.length = 25 ∧ (∀ u ∈ x, u.oneCell' = true) ∧ ∀ u, Fr (Nb W) y u → ssR.C u u.heap.size x (ssOf s)
def Fin12 (y : World) : Prop := ∃ y0 x, Later wz y0 ∧ y = y0.setRow (W.heap.size + 1) (List.toArray x) ∧ HS W s x y0
def L3 (l : Array Value) (t : TypeId) (v : Value) (y : World) : Prop := ∃ N, v = .slice (some ⟨N, 0, none⟩) 3 3 ∧ y.heap[N]? = some (.cells l t (0, 0)) ∧ wz.heap.size ≤ N
def K76 (v : Value) (y : World) : Prop := ∃ cs : List Value, v = .agg cs.toArray ∧ ∀ u, Fr (Nb W) y u → kpR.C u u.heap.size cs s.keep
def C12 (bits : List Bool) (S : Tmp → Value) (y : World) : Prop :=
  (∃ p q r, bits = [p, q, r, false, false] ∧ Later wz y ∧ (p = true → K76 W s (S 76) y) ∧ (q = true → L3 wz #[.int .i64 s.loose, .int .i64 s.n, .int .i64 s.deep] 3 (S 92) y) ∧ (r = true → L3 wz #[.bool s.trapping, .bool s.ended, .bool s.done] 4 (S 99) y)) ∨
  (bits = [true, true, true, true, false] ∧ Later wz y ∧ ∃ x : List Value, S 102 = .agg x.toArray ∧ HS W s x y) ∨
  (bits = [true, true, true, true, true] ∧ Fin12 W wz s y)
end
section
variable {W wz y y' : World} {s : St} {bits : List Bool} {S : Tmp → Value}
theorem C12_only : Only (C12 W wz s) [76, 92, 99, 102] := by
  intro bits S S' w h hc
  have e1 := h 76 (by simp)
  have e2 := h 92 (by simp)
  have e3 := h 99 (by simp)
  have e4 := h 102 (by simp)
  unfold C12 at hc ⊢
  rw [e1, e2, e3, e4] at hc
  exact hc
theorem C12_zero (h : Later wz y) : C12 W wz s [false, false, false, false, false] S y := .inl ⟨false, false, false, rfl, h, fun e => (by cases e), fun e => (by cases e), fun e => (by cases e)⟩
theorem C12_fr (h : C12 W wz s bits S y) : Fr (Nb W) wz y := by
  rcases h with ⟨p, q, r, _, h, _⟩ | ⟨_, h, _⟩ | ⟨_, y0, x, h, rfl, _⟩
  · exact Fr.later h
  · exact Fr.later h
  · exact (Fr.later h).trans ⟨rfl, rfl, rfl, by simp [World.setRow], fun b _ hb => setRow_other y0 _ b _ hb⟩
theorem L3.later {l : Array Value} {t : TypeId} {v : Value} (h : L3 wz l t v y) (hl : Later y y') : L3 wz l t v y' := by
  obtain ⟨N, e, hb, hn⟩ := h
  exact ⟨N, e, later_cells hl hb, hn⟩
theorem K76.later {v : Value} (h : K76 W s v y) (hl : Later y y') : K76 W s v y' := by
  obtain ⟨cs, e, hk⟩ := h
  exact ⟨cs, e, fun u hu => hk u ((Fr.later hl).trans hu)⟩
theorem C12_low (h : C12 W wz s bits S y) (hu : bits[0]? = some false ∨ bits[1]? = some false ∨ bits[2]? = some false ∨ bits[3]? = some false ∨ bits[4]? = some false) : Later wz y := by
  rcases h with ⟨p, q, r, _, h, _⟩ | ⟨_, h, _⟩ | ⟨rfl, _⟩
  · exact h
  · exact h
  · simp at hu
theorem step76 {cs : List Value} (h : C12 W wz s bits S y) (hu : bits[0]? = some false) (hl2 : Later y y') (hk : ∀ u, Fr (Nb W) y' u → kpR.C u u.heap.size cs s.keep) : C12 W wz s (setAt [2, 18, 25, 28, 29] 2 bits) (putS S (some 76) (.agg cs.toArray)) y' := by
  rcases h with ⟨p, q, r, rfl, hl, _, h2, h3⟩ | ⟨rfl, _⟩ | ⟨rfl, _⟩
  · refine .inl ⟨true, q, r, rfl, hl.trans hl2, fun _ => ⟨cs, put_eq _ _ _, hk⟩, fun e => ?_, fun e => ?_⟩
    · rw [put_ne _ _ (by decide)]
      exact (h2 e).later hl2
    · rw [put_ne _ _ (by decide)]
      exact (h3 e).later hl2
  all_goals simp at hu
theorem step92 (h : C12 W wz s bits S y) (hu : bits[1]? = some false) : C12 W wz s (setAt [2, 18, 25, 28, 29] 18 bits) (putS S (some 92) (.slice (some ⟨y.heap.size, 0, none⟩) 3 3)) (y.alloc (.cells #[.int .i64 s.loose, .int .i64 s.n, .int .i64 s.deep] 3)) := by
  have hla := Later.alloc y (.cells #[.int .i64 s.loose, .int .i64 s.n, .int .i64 s.deep] 3)
  rcases h with ⟨p, q, r, rfl, hl, h1, _, h3⟩ | ⟨rfl, _⟩ | ⟨rfl, _⟩
  · refine .inl ⟨p, true, r, rfl, hl.trans hla, fun e => ?_, fun _ => ⟨_, put_eq _ _ _, heap_alloc_new y _, hl.size⟩, fun e => ?_⟩
    · rw [put_ne _ _ (by decide)]
      exact (h1 e).later hla
    · rw [put_ne _ _ (by decide)]
      exact (h3 e).later hla
  all_goals simp at hu
theorem step99 (h : C12 W wz s bits S y) (hu : bits[2]? = some false) : C12 W wz s (setAt [2, 18, 25, 28, 29] 25 bits) (putS S (some 99) (.slice (some ⟨y.heap.size, 0, none⟩) 3 3)) (y.alloc (.cells #[.bool s.trapping, .bool s.ended, .bool s.done] 4)) := by
  have hla := Later.alloc y (.cells #[.bool s.trapping, .bool s.ended, .bool s.done] 4)
  rcases h with ⟨p, q, r, rfl, hl, h1, h2, _⟩ | ⟨rfl, _⟩ | ⟨rfl, _⟩
  · refine .inl ⟨p, q, true, rfl, hl.trans hla, fun e => ?_, fun e => ?_, fun _ => ⟨_, put_eq _ _ _, heap_alloc_new y _, hl.size⟩⟩
    · rw [put_ne _ _ (by decide)]
      exact (h1 e).later hla
    · rw [put_ne _ _ (by decide)]
      exact (h2 e).later hla
  all_goals simp at hu
theorem pre102 (h : C12 W wz s bits S y) (h0 : bits[0]? = some true) (h1 : bits[1]? = some true) (h2 : bits[2]? = some true) (hu : bits[3]? = some false) : bits = [true, true, true, false, false] ∧ Later wz y ∧ K76 W s (S 76) y ∧ L3 wz #[.int .i64 s.loose, .int .i64 s.n, .int .i64 s.deep] 3 (S 92) y ∧ L3 wz #[.bool s.trapping, .bool s.ended, .bool s.done] 4 (S 99) y := by
  rcases h with ⟨p, q, r, rfl, hl, hp, hq, hr⟩ | ⟨rfl, _⟩ | ⟨rfl, _⟩
  · simp at h0 h1 h2
    subst h0
    subst h1
    subst h2
    exact ⟨rfl, hl, hp rfl, hq rfl, hr rfl⟩
  all_goals simp at hu
theorem step102 {x : List Value} (h : C12 W wz s bits S y) (h0 : bits[0]? = some true) (h1 : bits[1]? = some true) (h2 : bits[2]? = some true) (hu : bits[3]? = some false) (hx : HS W s x y) : C12 W wz s (setAt [2, 18, 25, 28, 29] 28 bits) (putS S (some 102) (.agg x.toArray)) y := by
  obtain ⟨rfl, hl, _⟩ := pre102 h h0 h1 h2 hu
  exact .inr (.inl ⟨rfl, hl, x, put_eq _ _ _, hx⟩)
theorem step103 (h : C12 W wz s bits S y) (h0 : bits[3]? = some true) (hu : bits[4]? = some false) (hrs : wz.heap[W.heap.size + 1]? = some (.cells zeroS 59 (0, 0))) : ∃ x : List Value, S 102 = .agg x.toArray ∧ ∃ w', (Instr.storeAt 59 (.pointer (some ⟨W.heap.size + 1, 0, none⟩)) (.agg x.toArray)).run Try.prog y = .ok () w' ∧ C12 W wz s (setAt [2, 18, 25, 28, 29] 29 bits) S w' := by
  rcases h with ⟨p, q, r, rfl, _⟩ | ⟨rfl, hl, x, h102, hx⟩ | ⟨rfl, _⟩
  · simp at h0
  · have e25 : x.toArray.size = 25 := by simpa using hx.1
    refine ⟨x, h102, y.setRow (W.heap.size + 1) x.toArray, ?_, .inr (.inr ⟨rfl, y, x, hl, rfl, hx⟩)⟩
    simp only [Instr.storeAt, Instr.sureAddr, Sem.run_bind, Sem.run_pure, Result.andThen]
    exact run_storeVar_row _ _ 59 59 _ _ (later_cells hl hrs) (by rw [e25]; kernel_rfl) (by rw [e25]; rfl) (by simpa using hx.2.1)
  · simp at hu
theorem C12_end (h : C12 W wz s [true, true, true, true, true] S y) : Fin12 W wz s y := by
  rcases h with ⟨p, q, r, e, _⟩ | ⟨e, _⟩ | ⟨_, h⟩
  · simp at e
  · simp at e
  · exact h
theorem Fin12.res (h : Fin12 W wz s y) (hrs : wz.heap[W.heap.size + 1]? = some (.cells zeroS 59 (0, 0))) (hlow : Later W wz) : ∃ x : List Value, y.heap[W.heap.size + 1]? = some (.cells x.toArray 59 (0, 0)) ∧ x.length = 25 ∧ ssR.C y y.heap.size x (ssOf s) ∧ Later W y := by
  obtain ⟨y0, x, hl, rfl, hx⟩ := h
  have hb := later_cells hl hrs
  have hf : Fr (Nb W) y0 (y0.setRow (W.heap.size + 1) x.toArray) := ⟨rfl, rfl, rfl, by simp [World.setRow], fun b _ hb => setRow_other y0 _ b _ hb⟩
  have hw := hlow.trans hl
  refine ⟨x, setRow_heap y0 _ _ _ _ _ hb, hx.1, hx.2.2 _ hf, ⟨hf.os.trans hw.os, hf.tape.trans hw.tape, hf.output.trans hw.output, Nat.le_trans hw.size hf.size, fun j hj => (hf.block j (Nat.lt_of_lt_of_le hj hw.size) (by unfold Nb; omega)).trans (hw.block j hj)⟩⟩
theorem HS.mk_ {csA : Array Value} {v : Value} {n : Nat} {xss : List (List Value)} {cs cs' : List Value} {N M : Nat} {w : World} (hs : stR.C W W.heap.size cs s) (h : OW W csA s wz v n xss) (hn : n = s.stack.length) (hl : Later wz w) (hi : w.heap[N]? = some (.cells #[.int .i64 s.loose, .int .i64 s.n, .int .i64 s.deep] 3 (0, 0))) (hN : wz.heap.size ≤ N) (hm : w.heap[M]? = some (.cells #[.bool s.trapping, .bool s.ended, .bool s.done] 4 (0, 0))) (hM : wz.heap.size ≤ M)
    (hk : ∀ u, Fr (Nb W) w u → kpR.C u u.heap.size cs' s.keep) {A1 Q1 Q2 A3 : Option Addr} {c1 e1 e2 c3 : Nat} {v8 : Value} {r : List Value}
    (hd : cs.drop 7 = .slice A1 s.progs.length c1 :: v8 :: .int .i64 s.asked.kind :: .int .i64 s.asked.n :: .int .i64 s.asked.m :: .string (mkS s.asked.text) :: .slice Q1 s.asked.list.length e1 :: .int .i64 s.got.kind :: .int .i64 s.got.err :: .int .i64 s.got.n :: .int .i64 s.got.m :: .string (mkS s.got.text) :: .slice Q2 s.got.list.length e2 :: .int .i64 s.got.sig :: .slice A3 s.sigs.length c3 :: r) :
    HS W s (cs' ++ ([.slice A1 s.progs.length c1] ++ ([v] ++ ([.int .i64 s.asked.kind, .int .i64 s.asked.n, .int .i64 s.asked.m, .string (mkS s.asked.text), .slice Q1 s.asked.list.length e1] ++ ([.int .i64 s.got.kind, .int .i64 s.got.err, .int .i64 s.got.n, .int .i64 s.got.m, .string (mkS s.got.text), .slice Q2 s.got.list.length e2, .int .i64 s.got.sig] ++ ([.slice A3 s.sigs.length c3] ++ ([.slice (some ⟨N, 0, none⟩) 3 3] ++ ([.slice (some ⟨M, 0, none⟩) 3 3] ++ [.int .i64 s.fail])))))))) w := by
  have hws := lt_of_block h.rs
  have hW := h.low.size
  have key : ∀ u, Fr (Nb W) w u → ssR.C u u.heap.size _ (ssOf s) := fun u hu => by
    have hzu := (Fr.later hl).trans hu
    have hiu := (hu.block N (lt_of_block hi) (by unfold Nb; omega)).trans hi
    have hmu := (hu.block M (lt_of_block hm) (by unfold Nb; omega)).trans hm
    have hsu : stR.C u u.heap.size cs s := stR.more (stR.keep hs fun p hp => World.cell?_of_block ((hzu.block _ (by omega) (by unfold Nb; omega)).trans (h.low.block _ hp))) (Nat.le_trans hW hzu.size)
    obtain ⟨_, _, _, _, _, _, _, _, _, _, _, _, _, _, _, _, _, _, _, _, -, -, -, -, -, ⟨i1, i2, i3, -⟩, -⟩ := st_cells hsu
    obtain ⟨A1', c1', Q1', e1', Q2', e2', A3', c3', v8', r', e, hss⟩ := ss_mk hsu (hk u hu) (h.row hn hzu) (row_3n hiu i1 i2 i3) (row_3b hmu)
    rw [hd] at e
    simp only [List.cons.injEq, Value.slice.injEq, true_and] at e
    obtain ⟨⟨rfl, rfl⟩, -, ⟨rfl, rfl⟩, ⟨rfl, rfl⟩, ⟨rfl, rfl⟩, -⟩ := e
    exact hss
  have h0 := key w (Fr.refl _ _)
  refine ⟨by have := ssR.len h0; exact this, ?_, key⟩
  obtain ⟨_, _, _, _, _, _, _, _, _, _, _, _, _, _, _, _, _, _, _, _, _, _, _, _, hc, _⟩ := ss_cells h0
  rw [hc]
  simp [Value.oneCell']
end
end Ks
end Go.Proofs.Yteljmlodbnfhbaa
/- Koh -/
namespace Go.Proofs.Yteljmlodbnfhbaa
open Go.RowKit
namespace Ks
set_option maxRecDepth 100000
theorem fm_keep {u : World} {n : Nat} {fs : List Value} {f : Fm} (h : fmR.C u n fs f) : kpR.C u n (fs.drop 12) f.keep := by
  obtain ⟨x1, y1, rfl, h1, x2, y2, rfl, h2, x3, y3, rfl, h3, x4, y4, rfl, h4, x5, y5, rfl, h5, x6, y6, rfl, hq, x7, y7, rfl, h7, x8, y8, rfl, h8, x9, y9, rfl, h9, xa, ya, rfl, ⟨A1, c1, rfl, _⟩, xb, yb, rfl, ⟨A2, c2, rfl, _⟩, xc, yc, rfl, ⟨A3, c3, rfl, _⟩, hk⟩ := h
  rw [h1.1, h2.1, h3.1, h4.1, h5.1, show x6 = [.bool f.quiet] from hq, h7.1, h8.1, h9.1]
  exact hk
/-- What the statement that adds a frame is handed. -/
structure Rd11 (W wz : World) (csA : Array Value) (s : St) (Av : Option Addr) (j cv : Nat) (xss : List (List Value)) (fs : List Value) (f : Fm) (bf : Nat) (v6 : Value) : Prop where
  ow : OW W csA s wz (.slice Av j cv) j xss
  fb : wz.heap[bf]? = some (.cells fs.toArray 70 (0, 0))
  src : Src W fs f
  nb : bf ≠ W.heap.size + 1
  own6 : ∃ b, W.heap.size + 2 ≤ b ∧ wz.ownsRow b 92 2 v6 f.rows.length (f.rows.flatMap cV)
  few : fmN f ≤ 100000
section
variable {W wz : World} {csA : Array Value} {s : St} {Av : Option Addr} {j cv bf : Nat} {xss : List (List Value)} {fs : List Value} {f : Fm} {v6 : Value}
theorem Rd11.vb (h : Rd11 W wz csA s Av j cv xss fs f bf v6) : ∀ k, (Value.slice Av j cv).ownBlock = some k → W.heap.size + 2 ≤ k ∧ k < wz.heap.size := h.ow.own.lt
theorem Rd11.low (h : Rd11 W wz csA s Av j cv xss fs f bf v6) {u : World} (hu : Fr (Xk (.slice Av j cv) (W.heap.size + 1)) wz u) : fmR.C u u.heap.size fs f := by
  have hsz := h.ow.low.size
  refine h.src u (Nat.le_trans hsz hu.size) fun p hp => ?_
  have h1 : u.heap[p.block]? = wz.heap[p.block]? := hu.block _ (by omega) ⟨fun e => by have := (h.vb _ e).1; omega, by omega⟩
  exact World.cell?_of_block (h1.trans (h.ow.low.block _ hp))
theorem Rd11.fbk (h : Rd11 W wz csA s Av j cv xss fs f bf v6) {u : World} (hu : Fr (Xk (.slice Av j cv) (W.heap.size + 1)) wz u) : u.heap[bf]? = some (.cells fs.toArray 70 (0, 0)) := by
  refine (hu.block bf (lt_of_block h.fb) ⟨fun e => ?_, h.nb⟩).trans h.fb
  obtain ⟨cs, hb⟩ := own_type h.ow.own e
  rw [h.fb] at hb
  injection hb with hb
  injection hb with _ hb _
  revert hb
  decide
theorem Rd11.keep (h : Rd11 W wz csA s Av j cv xss fs f bf v6) {y : World} (hy : Fr (Xk (.slice Av j cv) (W.heap.size + 1)) wz y) : Calls Try.prog 25 #[.agg (fs.drop 12).toArray] y fun e w' => (∃ cs' : List Value, e = .returned (.agg cs'.toArray) ∧ ∀ u, Fr (Xk (.slice Av j cv) (W.heap.size + 1)) w' u → kpR.C u u.heap.size cs' f.keep) ∧ Later y w' := by
  have hk := h.few
  have hs := lt_of_block h.ow.rs
  refine kept_v f.keep (fs.drop 12) y _ (fun k hk => ⟨fun e => ?_, ?_⟩) (fun u hu => fm_keep (h.low (hy.trans hu))) (by unfold fmN at hk; omega)
  · have := (h.vb _ e).2
    have := hy.size
    omega
  · have := hy.size
    omega
theorem Rd11.hx (h : Rd11 W wz csA s Av j cv xss fs f bf v6) {w : World} {N : Nat} {cs' : List Value} (hl : Later wz w) (hi : w.heap[N]? = some (.cells #[.int .i64 f.op, .int .i64 f.prog, .int .i64 f.node, .int .i64 f.phase, .int .i64 f.i] 3 (0, 0))) (hN : wz.heap.size ≤ N)
    (hk : ∀ u, Fr (Xk (.slice Av j cv) (W.heap.size + 1)) w u → kpR.C u u.heap.size cs' f.keep) {v1 v2 : Value} {r : List Value} (hd : fs.drop 9 = v1 :: v2 :: r) : HX W (.slice Av j cv) f ([.slice (some ⟨N, 0, none⟩) 5 5] ++ ([.bool f.quiet] ++ ([.int .i64 f.a] ++ ([.int .i64 f.b] ++ ([.string (mkS f.text)] ++ ([v1] ++ ([v2] ++ ([v6] ++ cs')))))))) w := by
  have hs := lt_of_block h.ow.rs
  obtain ⟨b6, hb6, ho6⟩ := h.own6
  have key : ∀ u, Fr (Xk (.slice Av j cv) (W.heap.size + 1)) w u → frR.C u u.heap.size ([.slice (some ⟨N, 0, none⟩) 5 5] ++ ([.bool f.quiet] ++ ([.int .i64 f.a] ++ ([.int .i64 f.b] ++ ([.string (mkS f.text)] ++ ([v1] ++ ([v2] ++ ([v6] ++ cs')))))))) (frOf f) := fun u hu => by
    have hzu := (Fr.later hl).trans hu
    have hiu : u.heap[N]? = some (.cells #[.int .i64 f.op, .int .i64 f.prog, .int .i64 f.node, .int .i64 f.phase, .int .i64 f.i] 3 (0, 0)) := (hu.block N (lt_of_block hi) ⟨fun e => by have := (h.vb _ e).2; omega, by omega⟩).trans hi
    have h6 : (rrow prR).C u u.heap.size [v6] f.rows := by
      refine rrow_ownK (r := prR) (f := cV) (hzu.row ho6 fun i hi6 => ⟨fun e => ?_, by have := (ho6.lt i hi6).1; omega⟩) fun a ha u' m => ?_
      · rcases apart_types ho6 h.ow.own (by decide) with e1 | e1
        · rw [e1] at hi6; cases hi6
        · exact e1 (hi6.trans e.symm)
      · obtain ⟨_, _, _, _, _, _, _, _, _, _, _, _, _, _, _, _, hfc, _, ⟨_, _, hr6⟩, _⟩ := fm_cells (h.low hzu)
        obtain ⟨xs, g1, _, g3⟩ := hr6
        obtain ⟨i, hi, rfl⟩ := List.getElem_of_mem ha
        exact (cV_C (g3 i _ _ (List.getElem?_eq_getElem (show i < xs.length by omega)) (List.getElem?_eq_getElem hi))).2 u' m
    obtain ⟨w1, w2, e, hfr⟩ := fr_mk (h.low hzu) hiu h6 (hk u hu)
    rw [hd] at e
    have q1 := (List.cons.inj e).1
    have q2 := (List.cons.inj (List.cons.inj e).2).1
    rw [q1, q2]
    exact hfr
  have h0 := key w (Fr.refl _ _)
  refine ⟨by have := frR.len h0; exact this, ?_, key⟩
  obtain ⟨_, _, _, _, _, _, _, _, _, _, _, _, _, _, _, _, _, _, hc, _⟩ := fr_cells h0
  rw [hc]
  simp [Value.oneCell']
end
set_option maxHeartbeats 12800000 in
theorem of_v (s : St) (cs : List Value) (W : World) (h : stR.C W W.heap.size cs s) (hn : fewN s ≤ 100000) : Calls Try.prog 12 #[.agg cs.toArray] W fun e W' => (∃ cs' : List Value, e = .returned (.agg cs'.toArray) ∧ ssR.C W' W'.heap.size cs' (ssOf s)) ∧ Later W W' := by
  obtain ⟨B1, d1, B2, d2, B3, d3, B4, d4, B5, d5, A1, c1, A2, c2, Q1, e1, Q2, e2, A3, c3, hcs, -, -, -, ⟨-, hr, -⟩, -, -, -⟩ := st_cells h
  have HST := Lib.hid h
  have HCS := Lib.hid hcs
  have HFEW := Lib.hid hn
  have HR := Lib.hid hr
  obtain ⟨n2, hn2⟩ : ∃ n, n = s.stack.length := ⟨_, rfl⟩
  have hn300 : n2 ≤ 100000 := by unfold fewN topN at hn; omega
  have HN := Lib.hid hn2
  have HWR := Lib.hid (show ∀ w1 : World, w1.heap[W.heap.size]? = some (.cells cs.toArray 40 (0, 0)) → w1.cell? ⟨W.heap.size, 8, none⟩ = some (.slice A2 n2 c2) from fun w1 hb => by rw [hcs, ← hn2] at hb; rw [(cell_row hb 8).1]; rfl)
  rw [← hn2] at HCS
  clear h hn hr hcs hn2
  go_enter Try.func12, Try.ntmps12
  go_wp2_with (first
    | (refine wpList_boxO rfl 40 (.tmp 0) rfl _ rfl ?_; intro w1 hb1 hl1 hs1; (have HB1 := Lib.hid hb1); (have HL1 := Lib.hid hl1); (have HS1 := Lib.hid hs1); clear hb1 hl1 hs1)
    | (refine wpList_allocO 2 rfl rfl 59 rfl zeroS 25 info_S18 ?_; intro w2 hb2 hl2 hs2; rw [HS1.out] at hb2 ⊢; (have HOW0 := Lib.hid (show OW W cs.toArray s w2 (.slice none 0 0) 0 [] from ⟨HL1.out.trans hl2, later_cells hl2 HB1.out, hb2, World.ownsRow_nil _ _ _ _, rfl, fun k x f hx _ => by simp at hx⟩)); clear hb2 hl2 hs2))
  go_loopw [3, 4] (fun u i wr => ∃ (j : Nat) (xss : List (List Value)), j ≤ n2 ∧ i = .int .i64 (j : Int) ∧ Hid (OW W cs.toArray s wr u j xss)) (fun _ i _ => n2 - (intOf i).toNat)
  case atStart => exact ⟨0, [], Nat.zero_le _, rfl, HOW0⟩
  case round =>
    obtain ⟨j, xss, hj, rfl, HOW⟩ := hrel
    have qb := HWR.out wr HOW.out.bx
    by_cases hlt : j < n2
    · have hj0 : (0 : Int) ≤ (j : Int) := by omega
      have hj1 : (j : Int) < (n2 : Int) := by omega
      have hjl : j < s.stack.length := by rw [← HN.out]; exact hlt
      have HJ := Lib.hid (show j ≤ 100000 by omega)
      obtain ⟨g, o, rfl, hg, hcell⟩ := HR.out.lie (by omega) (by decide)
      obtain ⟨fs, hfs, hu⟩ := hcell j hjl
      obtain ⟨f, hf⟩ : ∃ f, f = s.stack[j] := ⟨_, rfl⟩
      rw [← hf] at hfs
      have hfn : fmN f ≤ 100000 := by
        have h1 := stk_mem (List.getElem_mem hjl)
        have h2 := HFEW.out
        rw [← hf] at h1
        unfold fewN at h2
        omega
      have HSRC := Lib.hid (show Src W fs f from fun u hs hk => fmR.more (fmR.keep hfs hk) hs)
      have hf19 : fs.toArray.size = 19 := by rw [List.size_toArray]; exact fmR.len hfs
      have HON := Lib.hid (show fs.toArray.all (·.oneCell') = true by
        obtain ⟨X1, y1, X2, y2, X3, y3, Y1, z1, Y2, z2, Y3, z3, Y4, z4, Y5, z5, rfl, _⟩ := fm_cells hfs
        simp [Value.oneCell'])
      have HI := Lib.hid (show (Try.prog.info? 70).map (·.size) = some fs.toArray.size by rw [hf19]; kernel_rfl)
      have HSZ := Lib.hid (show (#[.int .i64 0, .int .i64 0, .int .i64 0, .int .i64 0, .int .i64 0, .bool false, .int .i64 0, .int .i64 0, .string ⟨#[]⟩, .slice none 0 0, .slice none 0 0, .slice none 0 0, .slice none 0 0, .slice none 0 0, .int .i64 0, .string ⟨#[]⟩, .slice none 0 0, .slice none 0 0, .slice none 0 0] : Array Value).size = fs.toArray.size by rw [hf19]; rfl)
      have HLD := Lib.hid (show (Instr.loadAt 70 (.pointer (some ⟨g, o + j * 19, none⟩))).run Try.prog wr = .ok (.agg fs.toArray) wr from
        run_loadAt_mid wr g (o + j * 19) _ fs _ (fun j' v hv => (HOW.out.low.cell (p := ⟨g, o + j * 19 + j', none⟩) hg).trans (hu j' v hv)) Try.underlying70 rfl (by rw [show fs.length = 19 from fmR.len hfs]; kernel_rfl))
      obtain ⟨X1, y1, X2, y2, X3, y3, Y1, z1, Y2, z2, Y3, z3, Y4, z4, Y5, z5, hfc, -, ⟨-, -, hr6⟩, -⟩ := fm_cells hfs
      obtain ⟨l1, h_l1⟩ : ∃ n, n = f.nums.length := ⟨_, rfl⟩
      obtain ⟨l2, h_l2⟩ : ∃ n, n = f.words.length := ⟨_, rfl⟩
      obtain ⟨l3, h_l3⟩ : ∃ n, n = f.rows.length := ⟨_, rfl⟩
      obtain ⟨k1, h_k1⟩ : ∃ n, n = f.keep.vars.length := ⟨_, rfl⟩
      obtain ⟨k2, h_k2⟩ : ∃ n, n = f.keep.args.length := ⟨_, rfl⟩
      obtain ⟨k3, h_k3⟩ : ∃ n, n = f.keep.funcs.length := ⟨_, rfl⟩
      obtain ⟨k4, h_k4⟩ : ∃ n, n = f.keep.traps.length := ⟨_, rfl⟩
      obtain ⟨k5, h_k5⟩ : ∃ n, n = f.keep.fds.length := ⟨_, rfl⟩
      have hl300 : l3 ≤ 100000 := by unfold fmN at hfn; omega
      rw [← h_l1, ← h_l2, ← h_l3, ← h_k1, ← h_k2, ← h_k3, ← h_k4, ← h_k5] at hfc
      have HFC := Lib.hid hfc
      have HL3 := Lib.hid h_l3
      have HR6 := Lib.hid hr6
      have HFN := Lib.hid hfn
      have HF := Lib.hid (show s.stack[j]? = some f by rw [hf, List.getElem?_eq_getElem hjl])
      have HJL := Lib.hid hjl
      obtain ⟨Av, cv, hv, _⟩ := own_any HOW.out.own
      subst hv
      clear hf hfs hcell hg hu hfn hf19 hfc hr6 hjl h_l1 h_l2 h_k1 h_k2 h_k3 h_k4 h_k5 h_l3
      go_wp2_with (first
        | (refine wpList_loadRun rfl 70 (.tmp 18) rfl _ _ rfl HLD.out ?_)
        | (refine wpList_allocO 5 rfl rfl 70 rfl #[.int .i64 0, .int .i64 0, .int .i64 0, .int .i64 0, .int .i64 0, .bool false, .int .i64 0, .int .i64 0, .string ⟨#[]⟩, .slice none 0 0, .slice none 0 0, .slice none 0 0, .slice none 0 0, .slice none 0 0, .int .i64 0, .string ⟨#[]⟩, .slice none 0 0, .slice none 0 0, .slice none 0 0] 19 (by kernel_rfl) ?_; intro w3 hw3 hl3 hs3; (have HW3 := Lib.hid hw3); (have HL3' := Lib.hid hl3); clear hw3 hl3 hs3)
        | (refine wpList_storeO rfl 70 (.tmp 5) (.tmp 19) rfl wr.heap.size _ _ rfl rfl HW3.out HI.out HSZ.out HON.out ?_; intro w4 hw4 hg4 hs4; (have HB5 := Lib.hid hw4); (have HOW4 := Lib.hid (HOW.out.later (later_of_new HL3'.out hg4 (Nat.le_refl _)))); (have HNB := Lib.hid (Nat.ne_of_gt (lt_of_block HOW.out.rs))); clear hw4 hg4 hs4))
      obtain ⟨bf, hbf⟩ : ∃ b, b = wr.heap.size := ⟨_, rfl⟩
      rw [← hbf] at HB5 HNB ⊢
      clear HOW HLD HW3 HL3' HI HSZ HON qb hbf
      obtain ⟨wo, hwo⟩ : ∃ x, x = wr := ⟨_, rfl⟩
      clear hwo wo
      go_loopw [6, 7] (fun u i wr => ∃ m : Nat, m ≤ l3 ∧ i = .int .i64 (m : Int) ∧ Hid (RI w4 f wr u m)) (fun _ i _ => l3 - (intOf i).toNat)
      case atStart => exact ⟨0, Nat.zero_le _, rfl, Lib.hid ⟨Later.refl _, World.ownsRow_nil _ _ _ _⟩⟩
      case round =>
        obtain ⟨m, hm, rfl, HRI⟩ := hrel
        have HB6 := Lib.hid (show wr.heap[bf]? = some (.cells #[.int .i64 f.op, .int .i64 f.prog, .int .i64 f.node, .int .i64 f.phase, .int .i64 f.i, .bool f.quiet, .int .i64 f.a, .int .i64 f.b, .string (mkS f.text), .slice X1 l1 y1, .slice X2 l2 y2, .slice X3 l3 y3, .slice Y1 k1 z1, .slice Y2 k2 z2, .int .i64 f.keep.status, .string (mkS f.keep.flags), .slice Y3 k3 z3, .slice Y4 k4 z4, .slice Y5 k5 z5] 70 (0, 0)) by have h9 := later_cells HRI.out.low HB5.out; rw [HFC.out] at h9; exact h9)
        have qb := (cell_row HB6.out 11).1
        simp at qb
        by_cases hlt6 : m < l3
        · have hm0 : (0 : Int) ≤ (m : Int) := by omega
          have hm1 : (m : Int) < (l3 : Int) := by omega
          have hml : m < f.rows.length := by rw [← HL3.out]; exact hlt6
          obtain ⟨g6, o6, rfl, hg6, hcell⟩ := HR6.out.lie (by omega) (by decide)
          obtain ⟨es, hes, hu⟩ := hcell m hml
          obtain ⟨y, hy⟩ : ∃ y, y = f.rows[m] := ⟨_, rfl⟩
          rw [← hy] at hes
          obtain ⟨rfl, _⟩ := cV_C hes
          obtain ⟨x1, x2⟩ := y
          obtain ⟨Av6, cv6, hv6, _⟩ := own_any HRI.out.own
          subst hv6
          obtain ⟨i0, hif, hz0, hz1, hz2⟩ := info_parts info_R13
          have HAP := Lib.hid (run_appK (P := Try.prog) wr.drew #[.string (mkS x1), .string (mkS x2)] 2 (by omega) rfl (by intro u hu; simp at hu; rcases hu with rfl | rfl <;> rfl) 83 83 92 i0 _ 32 Try.underlying83 hif hz0 hz1 hz2 rfl w4.heap.size (.slice Av6 m cv6) m ((f.rows.take m).flatMap cV) (own_below HRI.out.own (Later.drew wr)) (by omega) (by omega) HRI.out.low.size)
          have HKP := Lib.hid (show ∀ (j' : Nat) (u : Value) (x : World), (fun jj u x => match jj with | 0 => x = wr.drew | 1 => x = wr.drew.alloc (.cells #[.string (mkS x1), .string (mkS x2)] 92) | _ => GrewK wr.drew x w4.heap.size 92 2 (.slice Av6 m cv6) u (m + 1) ((f.rows.take m).flatMap cV ++ [.string (mkS x1), .string (mkS x2)])) j' u x → Later w4 x from fun j' u x hC => by
            match j', hC with
            | 0, hC => rw [show x = wr.drew from hC]; exact HRI.out.low.trans (Later.drew wr)
            | 1, hC => rw [show x = wr.drew.alloc (.cells #[.string (mkS x1), .string (mkS x2)] 92) from hC]; exact HRI.out.low.trans ((Later.drew wr).trans (Later.alloc _ _))
            | j' + 2, hC => exact ((HRI.out.later (Later.drew wr)).push hml (by rw [← hy]; exact hC)).low)
          have HBX := Lib.hid (show ∀ (j' : Nat) (u : Value) (x : World), (fun jj u x => match jj with | 0 => x = wr.drew | 1 => x = wr.drew.alloc (.cells #[.string (mkS x1), .string (mkS x2)] 92) | _ => GrewK wr.drew x w4.heap.size 92 2 (.slice Av6 m cv6) u (m + 1) ((f.rows.take m).flatMap cV ++ [.string (mkS x1), .string (mkS x2)])) j' u x → x.cell? ⟨bf, 11, none⟩ = some (.slice (some ⟨g6, o6, none⟩) l3 y3) from fun j' u x hC => by
            have h9 := later_cells (HKP.out j' u x hC) HB5.out
            rw [HFC.out] at h9
            rw [(cell_row h9 11).1]; rfl)
          have HEL0 := Lib.hid (show ∀ (j' : Nat) (u : Value) (x : World), (fun jj u x => match jj with | 0 => x = wr.drew | 1 => x = wr.drew.alloc (.cells #[.string (mkS x1), .string (mkS x2)] 92) | _ => GrewK wr.drew x w4.heap.size 92 2 (.slice Av6 m cv6) u (m + 1) ((f.rows.take m).flatMap cV ++ [.string (mkS x1), .string (mkS x2)])) j' u x → x.cell? ⟨g6, o6 + m * 2, none⟩ = some (.string (mkS x1)) from fun j' u x hC => ((HOW4.out.low.trans (HKP.out j' u x hC)).cell (p := ⟨g6, o6 + m * 2, none⟩) hg6).trans (hu 0 _ rfl))
          have HEL1 := Lib.hid (show ∀ (j' : Nat) (u : Value) (x : World), (fun jj u x => match jj with | 0 => x = wr.drew | 1 => x = wr.drew.alloc (.cells #[.string (mkS x1), .string (mkS x2)] 92) | _ => GrewK wr.drew x w4.heap.size 92 2 (.slice Av6 m cv6) u (m + 1) ((f.rows.take m).flatMap cV ++ [.string (mkS x1), .string (mkS x2)])) j' u x → x.cell? ⟨g6, o6 + m * 2 + 1, none⟩ = some (.string (mkS x2)) from fun j' u x hC => ((HOW4.out.low.trans (HKP.out j' u x hC)).cell (p := ⟨g6, o6 + m * 2 + 1, none⟩) hg6).trans (hu 1 _ rfl))
          have HPU := Lib.hid (show ∀ (u : Value) (x : World), GrewK wr.drew x w4.heap.size 92 2 (.slice Av6 m cv6) u (m + 1) ((f.rows.take m).flatMap cV ++ [.string (mkS x1), .string (mkS x2)]) → RI w4 f x u (m + 1) from fun u x hC => (HRI.out.later (Later.drew wr)).push hml (by rw [← hy]; exact hC))
          clear hes hcell hml hg6 hy hu hif hz0 hz1 hz2
          go_wp2_with fail
          refine wp_region_seqE (by kernel_rfl) [14, 15, 16] (fun jj u x => match jj with | 0 => x = wr.drew | 1 => x = wr.drew.alloc (.cells #[.string (mkS x1), .string (mkS x2)] 92) | _ => GrewK wr.drew x w4.heap.size 92 2 (.slice Av6 m cv6) u (m + 1) ((f.rows.take m).flatMap cV ++ [.string (mkS x1), .string (mkS x2)])) [some (.slice Av6 m cv6), some (.pointer (some ⟨bf, 11, none⟩)), some (.slice (some ⟨g6, o6, none⟩) l3 y3), some (.int .i64 (m : Int)), some (.pointer (some ⟨g6, o6 + m * 2, none⟩)), some (.pointer (some ⟨g6, o6 + m * 2, none⟩)), some (.string (mkS x1)), some (.pointer (some ⟨bf, 11, none⟩)), some (.slice (some ⟨g6, o6, none⟩) l3 y3), some (.int .i64 (m : Int)), some (.pointer (some ⟨g6, o6 + m * 2, none⟩)), some (.pointer (some ⟨g6, o6 + m * 2 + 1, none⟩)), some (.string (mkS x2)), some (.agg #[.string (mkS x1), .string (mkS x2)]), some (.slice (some ⟨wr.drew.heap.size, 0, none⟩) 1 1), none, none] (by decide) (by decide) (by kernel_rfl) (by kernel_rfl) 6 (by kernel_rfl) (rfl) ?_ ?_
          · refine ⟨?_, ?_, ?_, ?_, ?_, ?_, ?_, ?_, ?_, ?_, ?_, ?_, ?_, ?_, ?_, ?_, ?_, trivial⟩
            · -- 0: slot 27 := Op.move t6
              refine OwesSE.q rfl fun a w j' u hC hb he hs => ⟨rfl, ?_⟩
              have e6 : a.tmps.getD 6 undef = .slice Av6 m cv6 := he (by have := hb 2 16 rfl rfl; simp only [List.length_cons, List.length_nil]; omega)
              refine ValWp.pure (v := .slice Av6 m cv6) (fun K' hK' => ?_) ⟨rfl, rfl⟩
              simp only [ValWp, execOp, Act.eval, e6]
              go_simp
              all_goals exact hK'
            · -- 1: slot 28 := Op.fieldAddr 70 t5 11
              refine OwesSE.q rfl fun a w j' u hC hb he hs => ⟨rfl, ?_⟩
              have e5 : a.tmps.getD 5 undef = .pointer (some ⟨bf, 0, none⟩) := hs.free 5 rfl
              refine ValWp.pure (v := .pointer (some ⟨bf, 11, none⟩)) (fun K' hK' => ?_) ⟨rfl, rfl⟩
              simp only [ValWp, execOp, Act.eval, e5]
              go_simp
              all_goals exact hK'
            · -- 2: slot 29 := Op.load 68 t28
              refine OwesSE.q rfl fun a w j' u hC hb he hs => ⟨rfl, ?_⟩
              have e28 : a.tmps.getD 28 undef = .pointer (some ⟨bf, 11, none⟩) := hs.dep 1 _ rfl rfl
              have q0 := HBX.out j' u w hC
              refine ValWp.pure (v := .slice (some ⟨g6, o6, none⟩) l3 y3) (fun K' hK' => ?_) ⟨rfl, rfl⟩
              simp only [ValWp, execOp, Act.eval, e28]
              go_simp
              all_goals exact hK'
            · -- 3: slot 30 := Op.move t7
              refine OwesSE.q rfl fun a w j' u hC hb he hs => ⟨rfl, ?_⟩
              have e7 : a.tmps.getD 7 undef = .int .i64 (m : Int) := hs.free 7 rfl
              refine ValWp.pure (v := .int .i64 (m : Int)) (fun K' hK' => ?_) ⟨rfl, rfl⟩
              simp only [ValWp, execOp, Act.eval, e7]
              go_simp
              all_goals exact hK'
            · -- 4: slot 31 := Op.indexAddr 68 t29 t30
              refine OwesSE.q rfl fun a w j' u hC hb he hs => ⟨rfl, ?_⟩
              have e29 : a.tmps.getD 29 undef = .slice (some ⟨g6, o6, none⟩) l3 y3 := hs.dep 2 _ rfl rfl
              have e30 : a.tmps.getD 30 undef = .int .i64 (m : Int) := hs.dep 3 _ rfl rfl
              refine ValWp.pure (v := .pointer (some ⟨g6, o6 + m * 2, none⟩)) (fun K' hK' => ?_) ⟨rfl, rfl⟩
              simp only [ValWp, execOp, Act.eval, e29, e30]
              go_simp
              all_goals exact hK'
            · -- 5: slot 32 := Op.fieldAddr 91 t31 0
              refine OwesSE.q rfl fun a w j' u hC hb he hs => ⟨rfl, ?_⟩
              have e31 : a.tmps.getD 31 undef = .pointer (some ⟨g6, o6 + m * 2, none⟩) := hs.dep 4 _ rfl rfl
              refine ValWp.pure (v := .pointer (some ⟨g6, o6 + m * 2, none⟩)) (fun K' hK' => ?_) ⟨rfl, rfl⟩
              simp only [ValWp, execOp, Act.eval, e31]
              go_simp
              all_goals exact hK'
            · -- 6: slot 33 := Op.load 9 t32
              refine OwesSE.q rfl fun a w j' u hC hb he hs => ⟨rfl, ?_⟩
              have e32 : a.tmps.getD 32 undef = .pointer (some ⟨g6, o6 + m * 2, none⟩) := hs.dep 5 _ rfl rfl
              have q0 := HEL0.out j' u w hC
              refine ValWp.pure (v := .string (mkS x1)) (fun K' hK' => ?_) ⟨rfl, rfl⟩
              simp only [ValWp, execOp, Act.eval, e32]
              go_simp
              all_goals exact hK'
            · -- 7: slot 34 := Op.fieldAddr 70 t5 11
              refine OwesSE.q rfl fun a w j' u hC hb he hs => ⟨rfl, ?_⟩
              have e5 : a.tmps.getD 5 undef = .pointer (some ⟨bf, 0, none⟩) := hs.free 5 rfl
              refine ValWp.pure (v := .pointer (some ⟨bf, 11, none⟩)) (fun K' hK' => ?_) ⟨rfl, rfl⟩
              simp only [ValWp, execOp, Act.eval, e5]
              go_simp
              all_goals exact hK'
            · -- 8: slot 35 := Op.load 68 t34
              refine OwesSE.q rfl fun a w j' u hC hb he hs => ⟨rfl, ?_⟩
              have e34 : a.tmps.getD 34 undef = .pointer (some ⟨bf, 11, none⟩) := hs.dep 7 _ rfl rfl
              have q0 := HBX.out j' u w hC
              refine ValWp.pure (v := .slice (some ⟨g6, o6, none⟩) l3 y3) (fun K' hK' => ?_) ⟨rfl, rfl⟩
              simp only [ValWp, execOp, Act.eval, e34]
              go_simp
              all_goals exact hK'
            · -- 9: slot 36 := Op.move t7
              refine OwesSE.q rfl fun a w j' u hC hb he hs => ⟨rfl, ?_⟩
              have e7 : a.tmps.getD 7 undef = .int .i64 (m : Int) := hs.free 7 rfl
              refine ValWp.pure (v := .int .i64 (m : Int)) (fun K' hK' => ?_) ⟨rfl, rfl⟩
              simp only [ValWp, execOp, Act.eval, e7]
              go_simp
              all_goals exact hK'
            · -- 10: slot 37 := Op.indexAddr 68 t35 t36
              refine OwesSE.q rfl fun a w j' u hC hb he hs => ⟨rfl, ?_⟩
              have e35 : a.tmps.getD 35 undef = .slice (some ⟨g6, o6, none⟩) l3 y3 := hs.dep 8 _ rfl rfl
              have e36 : a.tmps.getD 36 undef = .int .i64 (m : Int) := hs.dep 9 _ rfl rfl
              refine ValWp.pure (v := .pointer (some ⟨g6, o6 + m * 2, none⟩)) (fun K' hK' => ?_) ⟨rfl, rfl⟩
              simp only [ValWp, execOp, Act.eval, e35, e36]
              go_simp
              all_goals exact hK'
            · -- 11: slot 38 := Op.fieldAddr 91 t37 1
              refine OwesSE.q rfl fun a w j' u hC hb he hs => ⟨rfl, ?_⟩
              have e37 : a.tmps.getD 37 undef = .pointer (some ⟨g6, o6 + m * 2, none⟩) := hs.dep 10 _ rfl rfl
              refine ValWp.pure (v := .pointer (some ⟨g6, o6 + m * 2 + 1, none⟩)) (fun K' hK' => ?_) ⟨rfl, rfl⟩
              simp only [ValWp, execOp, Act.eval, e37]
              go_simp
              all_goals exact hK'
            · -- 12: slot 39 := Op.load 9 t38
              refine OwesSE.q rfl fun a w j' u hC hb he hs => ⟨rfl, ?_⟩
              have e38 : a.tmps.getD 38 undef = .pointer (some ⟨g6, o6 + m * 2 + 1, none⟩) := hs.dep 11 _ rfl rfl
              have q0 := HEL1.out j' u w hC
              refine ValWp.pure (v := .string (mkS x2)) (fun K' hK' => ?_) ⟨rfl, rfl⟩
              simp only [ValWp, execOp, Act.eval, e38]
              go_simp
              all_goals exact hK'
            · -- 13: slot 40 := Op.build 92 #[(0, t33), (1, t39)]
              refine OwesSE.q rfl fun a w j' u hC hb he hs => ⟨rfl, ?_⟩
              have e33 : a.tmps.getD 33 undef = .string (mkS x1) := hs.dep 6 _ rfl rfl
              have e39 : a.tmps.getD 39 undef = .string (mkS x2) := hs.dep 12 _ rfl rfl
              refine ValWp.pure (v := .agg #[.string (mkS x1), .string (mkS x2)]) (fun K' hK' => ?_) ⟨rfl, rfl⟩
              simp only [ValWp, execOp, Act.eval, List.map_toArray, List.map_cons, List.map_nil, e33, e39]
              go_simp
              all_goals exact hK'
            · -- 14: slot 41 := Op.buildSlice 83 1 #[(0, t40)]
              refine OwesSE.w rfl fun a w u hC hl hs => ⟨rfl, fun K hK => ?_⟩
              have e40 : a.tmps.getD 40 undef = .agg #[.string (mkS x1), .string (mkS x2)] := hs.dep 13 _ rfl rfl
              have hw := hC
              subst hw
              refine wp_of_val ?_
              refine ValWp.pure (v := .slice (some ⟨wr.drew.heap.size, 0, none⟩) 1 1) (w' := wr.drew.alloc (.cells #[.string (mkS x1), .string (mkS x2)] 92)) (fun K' hK' => ?_) (hK _ _ rfl rfl)
              simp only [ValWp, execOp, Act.eval, List.map_toArray, List.map_cons, List.map_nil, e40]
              go_simp
              all_goals exact hK'
            · -- 15: slot 42 := Op.call { builtin append, args := #[t27, t41], argTypes := #[83, 83] }
              refine OwesSE.w rfl fun a w u hC hl hs => ⟨rfl, fun K hK => ?_⟩
              have e27 : a.tmps.getD 27 undef = .slice Av6 m cv6 := hs.dep 0 _ rfl rfl
              have e41 : a.tmps.getD 41 undef = .slice (some ⟨wr.drew.heap.size, 0, none⟩) 1 1 := hs.dep 14 _ rfl rfl
              have hw := hC
              subst hw
              obtain ⟨v', w', hrun, h3⟩ := HAP.out
              exact owes_append hrun rfl e27 e41 (hK v' w' trivial h3)
            · -- 16: slot 6 := Op.assign t42
              refine OwesSE.w rfl fun a w u hC hl hs => ⟨rfl, fun K hK => ?_⟩
              have e42 : a.tmps.getD 42 undef = u := hl
              have h3 := hC
              refine wp_of_val ?_
              refine ValWp.pure (v := u) (w' := w) (fun K' hK' => ?_) (hK _ _ trivial h3)
              simp only [ValWp, execOp, Act.eval, e42]
              go_simp
              all_goals exact hK'
          · intro a w u hC hl hd hsz hfree hs
            obtain ⟨u27, hu27⟩ : ∃ u, u = a.tmps.getD 27 undef := ⟨_, rfl⟩
            obtain ⟨u28, hu28⟩ : ∃ u, u = a.tmps.getD 28 undef := ⟨_, rfl⟩
            obtain ⟨u29, hu29⟩ : ∃ u, u = a.tmps.getD 29 undef := ⟨_, rfl⟩
            obtain ⟨u30, hu30⟩ : ∃ u, u = a.tmps.getD 30 undef := ⟨_, rfl⟩
            obtain ⟨u31, hu31⟩ : ∃ u, u = a.tmps.getD 31 undef := ⟨_, rfl⟩
            obtain ⟨u32, hu32⟩ : ∃ u, u = a.tmps.getD 32 undef := ⟨_, rfl⟩
            obtain ⟨u33, hu33⟩ : ∃ u, u = a.tmps.getD 33 undef := ⟨_, rfl⟩
            obtain ⟨u34, hu34⟩ : ∃ u, u = a.tmps.getD 34 undef := ⟨_, rfl⟩
            obtain ⟨u35, hu35⟩ : ∃ u, u = a.tmps.getD 35 undef := ⟨_, rfl⟩
            obtain ⟨u36, hu36⟩ : ∃ u, u = a.tmps.getD 36 undef := ⟨_, rfl⟩
            obtain ⟨u37, hu37⟩ : ∃ u, u = a.tmps.getD 37 undef := ⟨_, rfl⟩
            obtain ⟨u38, hu38⟩ : ∃ u, u = a.tmps.getD 38 undef := ⟨_, rfl⟩
            obtain ⟨u39, hu39⟩ : ∃ u, u = a.tmps.getD 39 undef := ⟨_, rfl⟩
            obtain ⟨u40, hu40⟩ : ∃ u, u = a.tmps.getD 40 undef := ⟨_, rfl⟩
            obtain ⟨u41, hu41⟩ : ∃ u, u = a.tmps.getD 41 undef := ⟨_, rfl⟩
            obtain ⟨u42, hu42⟩ : ∃ u, u = a.tmps.getD 42 undef := ⟨_, rfl⟩
            have hal : AllAt a 0 [_, _, _, _, _, _, u, _, _, _, _, _, _, _, _, _, _, _, _, _, _, _, _, _, _, _, _, u27, u28, u29, u30, u31, u32, u33, u34, u35, u36, u37, u38, u39, u40, u41, u42, _, _, _, _, _, _, _, _, _, _, _, _, _, _, _, _, _, _, _, _, _, _, _, _, _, _, _, _, _, _, _, _, _, _, _, _, _, _, _, _, _, _, _, _, _, _, _, _, _, _, _, _, _, _, _, _, _, _, _, _] := ⟨hfree 0 rfl, hfree 1 rfl, hfree 2 rfl, hfree 3 rfl, hfree 4 rfl, hfree 5 rfl, hl, hfree 7 rfl, hfree 8 rfl, hfree 9 rfl, hfree 10 rfl, hfree 11 rfl, hfree 12 rfl, hfree 13 rfl, hfree 14 rfl, hfree 15 rfl, hfree 16 rfl, hfree 17 rfl, hfree 18 rfl, hfree 19 rfl, hfree 20 rfl, hfree 21 rfl, hfree 22 rfl, hfree 23 rfl, hfree 24 rfl, hfree 25 rfl, hfree 26 rfl, hu27.symm, hu28.symm, hu29.symm, hu30.symm, hu31.symm, hu32.symm, hu33.symm, hu34.symm, hu35.symm, hu36.symm, hu37.symm, hu38.symm, hu39.symm, hu40.symm, hu41.symm, hu42.symm, hfree 43 rfl, hfree 44 rfl, hfree 45 rfl, hfree 46 rfl, hfree 47 rfl, hfree 48 rfl, hfree 49 rfl, hfree 50 rfl, hfree 51 rfl, hfree 52 rfl, hfree 53 rfl, hfree 54 rfl, hfree 55 rfl, hfree 56 rfl, hfree 57 rfl, hfree 58 rfl, hfree 59 rfl, hfree 60 rfl, hfree 61 rfl, hfree 62 rfl, hfree 63 rfl, hfree 64 rfl, hfree 65 rfl, hfree 66 rfl, hfree 67 rfl, hfree 68 rfl, hfree 69 rfl, hfree 70 rfl, hfree 71 rfl, hfree 72 rfl, hfree 73 rfl, hfree 74 rfl, hfree 75 rfl, hfree 76 rfl, hfree 77 rfl, hfree 78 rfl, hfree 79 rfl, hfree 80 rfl, hfree 81 rfl, hfree 82 rfl, hfree 83 rfl, hfree 84 rfl, hfree 85 rfl, hfree 86 rfl, hfree 87 rfl, hfree 88 rfl, hfree 89 rfl, hfree 90 rfl, hfree 91 rfl, hfree 92 rfl, hfree 93 rfl, hfree 94 rfl, hfree 95 rfl, hfree 96 rfl, hfree 97 rfl, hfree 98 rfl, hfree 99 rfl, hfree 100 rfl, hfree 101 rfl, hfree 102 rfl, trivial⟩
            have hlit := fun h => act_lit hd h hal
            rw [hlit hsz]
            simp only [Array.getD_eq_getD_getElem?, List.getElem?_toArray, List.getElem?_cons_zero, List.getElem?_cons_succ, Option.getD_some]
            clear hlit hal hd hsz hfree hs hu27 hu28 hu29 hu30 hu31 hu32 hu33 hu34 hu35 hu36 hu37 hu38 hu39 hu40 hu41 hu42
            have HKN := Lib.hid (HPU.out u w hC)
            clear hC hl
            go_wp2
            go_roundw
            case rel => exact ⟨m + 1, by omega, by go_num, HKN⟩
            case measure => simp [intOf]; omega
        · have e : m = l3 := by omega
          have hlt1 : ¬ (l3 : Int) < (l3 : Int) := by omega
          rw [e] at HRI ⊢
          clear e hm hlt6
          obtain ⟨v6, h6⟩ : ∃ x, x = u6 := ⟨_, rfl⟩
          rw [← h6] at HRI ⊢
          clear h6
          obtain ⟨Av6, cv6, hv6, _⟩ := own_any HRI.out.own
          subst hv6
          have HRD := Lib.hid (show Rd11 W wr cs.toArray s Av j cv xss fs f bf (.slice Av6 l3 cv6) from ⟨HOW4.out.later HRI.out.low, later_cells HRI.out.low HB5.out, HSRC.out, HNB.out, ⟨w4.heap.size, Nat.le_trans (lt_of_block HOW4.out.rs) (Nat.le_refl _), by have h9 := HRI.out.own; rw [show f.rows.take l3 = f.rows by rw [HL3.out, List.take_length]] at h9; rw [← HL3.out]; exact h9⟩, HFN.out⟩)
          obtain ⟨wz, hwz⟩ : ∃ x, x = wr := ⟨_, rfl⟩
          rw [← hwz] at HRD qb ⊢
          clear hwz HRI HB6
          go_wp2_with fail
          clear qb hlt1
          have HKB := Lib.hid (show ∀ (bits : List Bool) (S : Tmp → Value) (y : World), C11 W wz (.slice Av j cv) f j xss.flatten bits S y → y.heap[bf]? = some (.cells #[.int .i64 f.op, .int .i64 f.prog, .int .i64 f.node, .int .i64 f.phase, .int .i64 f.i, .bool f.quiet, .int .i64 f.a, .int .i64 f.b, .string (mkS f.text), .slice X1 l1 y1, .slice X2 l2 y2, .slice X3 l3 y3, .slice Y1 k1 z1, .slice Y2 k2 z2, .int .i64 f.keep.status, .string (mkS f.keep.flags), .slice Y3 k3 z3, .slice Y4 k4 z4, .slice Y5 k5 z5] 70 (0, 0)) ∧ (Instr.loadAt 31 (.pointer (some ⟨bf, 12, none⟩))).run Try.prog y = .ok (.agg #[.slice Y1 k1 z1, .slice Y2 k2 z2, .int .i64 f.keep.status, .string (mkS f.keep.flags), .slice Y3 k3 z3, .slice Y4 k4 z4, .slice Y5 k5 z5]) y from fun bits S y hC => by
            have h9 := HRD.out.fbk (C11_fr hC)
            rw [HFC.out] at h9
            exact ⟨h9, load_sub h9 [.slice Y1 k1 z1, .slice Y2 k2 z2, .int .i64 f.keep.status, .string (mkS f.keep.flags), .slice Y3 k3 z3, .slice Y4 k4 z4, .slice Y5 k5 z5] rfl Try.underlying31 rfl (by kernel_rfl)⟩)
          have HKE := Lib.hid (show ∀ (bits : List Bool) (S : Tmp → Value) (y : World), C11 W wz (.slice Av j cv) f j xss.flatten bits S y → Calls Try.prog 25 #[.agg #[.slice Y1 k1 z1, .slice Y2 k2 z2, .int .i64 f.keep.status, .string (mkS f.keep.flags), .slice Y3 k3 z3, .slice Y4 k4 z4, .slice Y5 k5 z5]] y fun e w' => (∃ cs' : List Value, e = .returned (.agg cs'.toArray) ∧ ∀ u, Fr (Xk (.slice Av j cv) (W.heap.size + 1)) w' u → kpR.C u u.heap.size cs' f.keep) ∧ Later y w' from fun bits S y hC => by
            have h9 := HRD.out.keep (C11_fr hC)
            rw [HFC.out] at h9
            exact h9)
          have HHX := Lib.hid (show ∀ (w : World) (N : Nat) (cs' : List Value), Later wz w → w.heap[N]? = some (.cells #[.int .i64 f.op, .int .i64 f.prog, .int .i64 f.node, .int .i64 f.phase, .int .i64 f.i] 3 (0, 0)) → wz.heap.size ≤ N → (∀ u, Fr (Xk (.slice Av j cv) (W.heap.size + 1)) w u → kpR.C u u.heap.size cs' f.keep) → HX W (.slice Av j cv) f ([.slice (some ⟨N, 0, none⟩) 5 5] ++ ([.bool f.quiet] ++ ([.int .i64 f.a] ++ ([.int .i64 f.b] ++ ([.string (mkS f.text)] ++ ([.slice X1 l1 y1] ++ ([.slice X2 l2 y2] ++ ([.slice Av6 l3 cv6] ++ cs')))))))) w from fun w N cs' hl hi hN hk => HRD.out.hx hl hi hN hk (by rw [HFC.out]; rfl))
          have HOWN := Lib.hid HRD.out.ow.own
          have HWS := Lib.hid (show W.heap.size + 2 ≤ wz.heap.size from lt_of_block HRD.out.ow.rs)
          have HPU := Lib.hid (show ∀ (u : Value) (y : World), Fin11 W wz (.slice Av j cv) f j xss.flatten u y → ∃ xss', OW W cs.toArray s y u (j + 1) xss' from fun u y hfin => by
            obtain ⟨y0, x, hl, hg, hx⟩ := hfin
            exact ⟨xss ++ [x], (HRD.out.ow.later hl).push HJL.out hg (by have h0 := HF.out; rw [List.getElem?_eq_getElem HJL.out] at h0; injection h0 with h0; rw [h0]; exact hx.2.2)⟩)
          refine wp_region_slots (by kernel_rfl) [11, 27, 28, 29, 30, 31] (C11 W wz (.slice Av j cv) f j xss.flatten) [some (.slice Av j cv), some (.pointer (some ⟨bf, 0, none⟩)), some (.int .i64 f.op), some (.pointer (some ⟨bf, 1, none⟩)), some (.int .i64 f.prog), some (.pointer (some ⟨bf, 2, none⟩)), some (.int .i64 f.node), some (.pointer (some ⟨bf, 3, none⟩)), some (.int .i64 f.phase), some (.pointer (some ⟨bf, 4, none⟩)), some (.int .i64 f.i), none, some (.pointer (some ⟨bf, 5, none⟩)), some (.bool f.quiet), some (.pointer (some ⟨bf, 6, none⟩)), some (.int .i64 f.a), some (.pointer (some ⟨bf, 7, none⟩)), some (.int .i64 f.b), some (.pointer (some ⟨bf, 8, none⟩)), some (.string (mkS f.text)), some (.pointer (some ⟨bf, 9, none⟩)), some (.slice X1 l1 y1), some (.pointer (some ⟨bf, 10, none⟩)), some (.slice X2 l2 y2), some (.slice Av6 l3 cv6), some (.pointer (some ⟨bf, 12, none⟩)), some (.agg #[.slice Y1 k1 z1, .slice Y2 k2 z2, .int .i64 f.keep.status, .string (mkS f.keep.flags), .slice Y3 k3 z3, .slice Y4 k4 z4, .slice Y5 k5 z5]), none, none, none, none, none] (by decide) (by decide) (by kernel_rfl) (C11_zero (Later.drew wz) rfl) ?_ ?_
          · refine ⟨?_, ?_, ?_, ?_, ?_, ?_, ?_, ?_, ?_, ?_, ?_, ?_, ?_, ?_, ?_, ?_, ?_, ?_, ?_, ?_, ?_, ?_, ?_, ?_, ?_, ?_, ?_, ?_, ?_, ?_, ?_, ?_, trivial⟩
            · -- 0: slot 43 := Op.move t3
              refine OwesV.q C11_only rfl (by decide) fun a w bits hC hu hs => ⟨rfl, ?_⟩
              have e3 : a.tmps.getD 3 undef = .slice Av j cv := C11_v3 hC (hu 4 30 rfl rfl)
              refine ValWp.pure (v := .slice Av j cv) (fun K' hK' => ?_) ⟨rfl, rfl⟩
              simp only [ValWp, execOp, Act.eval, e3]
              go_simp
              all_goals exact hK'
            · -- 1: slot 44 := Op.fieldAddr 70 t5 0
              refine OwesV.q C11_only rfl (by decide) fun a w bits hC hu hs => ⟨rfl, ?_⟩
              have e5 : a.tmps.getD 5 undef = .pointer (some ⟨bf, 0, none⟩) := hs.free 5 rfl
              refine ValWp.pure (v := .pointer (some ⟨bf, 0, none⟩)) (fun K' hK' => ?_) ⟨rfl, rfl⟩
              simp only [ValWp, execOp, Act.eval, e5]
              go_simp
              all_goals exact hK'
            · -- 2: slot 45 := Op.load 3 t44
              refine OwesV.q C11_only rfl (by decide) fun a w bits hC hu hs => ⟨rfl, ?_⟩
              have e44 : a.tmps.getD 44 undef = .pointer (some ⟨bf, 0, none⟩) := hs.dep 1 _ rfl rfl
              have q0 : w.cell? ⟨bf, 0, none⟩ = some (.int .i64 f.op) := by rw [(cell_row (HKB.out bits _ w hC).1 0).1]; rfl
              refine ValWp.pure (v := .int .i64 f.op) (fun K' hK' => ?_) ⟨rfl, rfl⟩
              simp only [ValWp, execOp, Act.eval, e44]
              go_simp
              all_goals exact hK'
            · -- 3: slot 46 := Op.fieldAddr 70 t5 1
              refine OwesV.q C11_only rfl (by decide) fun a w bits hC hu hs => ⟨rfl, ?_⟩
              have e5 : a.tmps.getD 5 undef = .pointer (some ⟨bf, 0, none⟩) := hs.free 5 rfl
              refine ValWp.pure (v := .pointer (some ⟨bf, 1, none⟩)) (fun K' hK' => ?_) ⟨rfl, rfl⟩
              simp only [ValWp, execOp, Act.eval, e5]
              go_simp
              all_goals exact hK'
            · -- 4: slot 47 := Op.load 3 t46
              refine OwesV.q C11_only rfl (by decide) fun a w bits hC hu hs => ⟨rfl, ?_⟩
              have e46 : a.tmps.getD 46 undef = .pointer (some ⟨bf, 1, none⟩) := hs.dep 3 _ rfl rfl
              have q0 : w.cell? ⟨bf, 1, none⟩ = some (.int .i64 f.prog) := by rw [(cell_row (HKB.out bits _ w hC).1 1).1]; rfl
              refine ValWp.pure (v := .int .i64 f.prog) (fun K' hK' => ?_) ⟨rfl, rfl⟩
              simp only [ValWp, execOp, Act.eval, e46]
              go_simp
              all_goals exact hK'
            · -- 5: slot 48 := Op.fieldAddr 70 t5 2
              refine OwesV.q C11_only rfl (by decide) fun a w bits hC hu hs => ⟨rfl, ?_⟩
              have e5 : a.tmps.getD 5 undef = .pointer (some ⟨bf, 0, none⟩) := hs.free 5 rfl
              refine ValWp.pure (v := .pointer (some ⟨bf, 2, none⟩)) (fun K' hK' => ?_) ⟨rfl, rfl⟩
              simp only [ValWp, execOp, Act.eval, e5]
              go_simp
              all_goals exact hK'
            · -- 6: slot 49 := Op.load 3 t48
              refine OwesV.q C11_only rfl (by decide) fun a w bits hC hu hs => ⟨rfl, ?_⟩
              have e48 : a.tmps.getD 48 undef = .pointer (some ⟨bf, 2, none⟩) := hs.dep 5 _ rfl rfl
              have q0 : w.cell? ⟨bf, 2, none⟩ = some (.int .i64 f.node) := by rw [(cell_row (HKB.out bits _ w hC).1 2).1]; rfl
              refine ValWp.pure (v := .int .i64 f.node) (fun K' hK' => ?_) ⟨rfl, rfl⟩
              simp only [ValWp, execOp, Act.eval, e48]
              go_simp
              all_goals exact hK'
            · -- 7: slot 50 := Op.fieldAddr 70 t5 3
              refine OwesV.q C11_only rfl (by decide) fun a w bits hC hu hs => ⟨rfl, ?_⟩
              have e5 : a.tmps.getD 5 undef = .pointer (some ⟨bf, 0, none⟩) := hs.free 5 rfl
              refine ValWp.pure (v := .pointer (some ⟨bf, 3, none⟩)) (fun K' hK' => ?_) ⟨rfl, rfl⟩
              simp only [ValWp, execOp, Act.eval, e5]
              go_simp
              all_goals exact hK'
            · -- 8: slot 51 := Op.load 3 t50
              refine OwesV.q C11_only rfl (by decide) fun a w bits hC hu hs => ⟨rfl, ?_⟩
              have e50 : a.tmps.getD 50 undef = .pointer (some ⟨bf, 3, none⟩) := hs.dep 7 _ rfl rfl
              have q0 : w.cell? ⟨bf, 3, none⟩ = some (.int .i64 f.phase) := by rw [(cell_row (HKB.out bits _ w hC).1 3).1]; rfl
              refine ValWp.pure (v := .int .i64 f.phase) (fun K' hK' => ?_) ⟨rfl, rfl⟩
              simp only [ValWp, execOp, Act.eval, e50]
              go_simp
              all_goals exact hK'
            · -- 9: slot 52 := Op.fieldAddr 70 t5 4
              refine OwesV.q C11_only rfl (by decide) fun a w bits hC hu hs => ⟨rfl, ?_⟩
              have e5 : a.tmps.getD 5 undef = .pointer (some ⟨bf, 0, none⟩) := hs.free 5 rfl
              refine ValWp.pure (v := .pointer (some ⟨bf, 4, none⟩)) (fun K' hK' => ?_) ⟨rfl, rfl⟩
              simp only [ValWp, execOp, Act.eval, e5]
              go_simp
              all_goals exact hK'
            · -- 10: slot 53 := Op.load 3 t52
              refine OwesV.q C11_only rfl (by decide) fun a w bits hC hu hs => ⟨rfl, ?_⟩
              have e52 : a.tmps.getD 52 undef = .pointer (some ⟨bf, 4, none⟩) := hs.dep 9 _ rfl rfl
              have q0 : w.cell? ⟨bf, 4, none⟩ = some (.int .i64 f.i) := by rw [(cell_row (HKB.out bits _ w hC).1 4).1]; rfl
              refine ValWp.pure (v := .int .i64 f.i) (fun K' hK' => ?_) ⟨rfl, rfl⟩
              simp only [ValWp, execOp, Act.eval, e52]
              go_simp
              all_goals exact hK'
            · -- 11: slot 54 := Op.buildSlice 37 5 #[(0, t45), (1, t47), (2, t49), (3, t51), (4, t53)]
              refine fun a w bits hC hd hu hs => ⟨rfl, fun K hK => ?_⟩
              have e45 : a.tmps.getD 45 undef = .int .i64 f.op := hs.dep 2 _ rfl rfl
              have e47 : a.tmps.getD 47 undef = .int .i64 f.prog := hs.dep 4 _ rfl rfl
              have e49 : a.tmps.getD 49 undef = .int .i64 f.node := hs.dep 6 _ rfl rfl
              have e51 : a.tmps.getD 51 undef = .int .i64 f.phase := hs.dep 8 _ rfl rfl
              have e53 : a.tmps.getD 53 undef = .int .i64 f.i := hs.dep 10 _ rfl rfl
              have h9 := step54 hC (hu 0 11 rfl (.inl rfl))
              refine wp_of_val ?_
              refine ValWp.pure (v := .slice (some ⟨w.heap.size, 0, none⟩) 5 5) (w' := w.alloc (.cells #[.int .i64 f.op, .int .i64 f.prog, .int .i64 f.node, .int .i64 f.phase, .int .i64 f.i] 3)) (fun K' hK' => ?_) (hK _ _ trivial h9)
              simp only [ValWp, execOp, Act.eval, List.map_toArray, List.map_cons, List.map_nil, e45, e47, e49, e51, e53]
              go_simp
              all_goals exact hK'
            · -- 12: slot 55 := Op.fieldAddr 70 t5 5
              refine OwesV.q C11_only rfl (by decide) fun a w bits hC hu hs => ⟨rfl, ?_⟩
              have e5 : a.tmps.getD 5 undef = .pointer (some ⟨bf, 0, none⟩) := hs.free 5 rfl
              refine ValWp.pure (v := .pointer (some ⟨bf, 5, none⟩)) (fun K' hK' => ?_) ⟨rfl, rfl⟩
              simp only [ValWp, execOp, Act.eval, e5]
              go_simp
              all_goals exact hK'
            · -- 13: slot 56 := Op.load 4 t55
              refine OwesV.q C11_only rfl (by decide) fun a w bits hC hu hs => ⟨rfl, ?_⟩
              have e55 : a.tmps.getD 55 undef = .pointer (some ⟨bf, 5, none⟩) := hs.dep 12 _ rfl rfl
              have q0 : w.cell? ⟨bf, 5, none⟩ = some (.bool f.quiet) := by rw [(cell_row (HKB.out bits _ w hC).1 5).1]; rfl
              refine ValWp.pure (v := .bool f.quiet) (fun K' hK' => ?_) ⟨rfl, rfl⟩
              simp only [ValWp, execOp, Act.eval, e55]
              go_simp
              all_goals exact hK'
            · -- 14: slot 57 := Op.fieldAddr 70 t5 6
              refine OwesV.q C11_only rfl (by decide) fun a w bits hC hu hs => ⟨rfl, ?_⟩
              have e5 : a.tmps.getD 5 undef = .pointer (some ⟨bf, 0, none⟩) := hs.free 5 rfl
              refine ValWp.pure (v := .pointer (some ⟨bf, 6, none⟩)) (fun K' hK' => ?_) ⟨rfl, rfl⟩
              simp only [ValWp, execOp, Act.eval, e5]
              go_simp
              all_goals exact hK'
            · -- 15: slot 58 := Op.load 2 t57
              refine OwesV.q C11_only rfl (by decide) fun a w bits hC hu hs => ⟨rfl, ?_⟩
              have e57 : a.tmps.getD 57 undef = .pointer (some ⟨bf, 6, none⟩) := hs.dep 14 _ rfl rfl
              have q0 : w.cell? ⟨bf, 6, none⟩ = some (.int .i64 f.a) := by rw [(cell_row (HKB.out bits _ w hC).1 6).1]; rfl
              refine ValWp.pure (v := .int .i64 f.a) (fun K' hK' => ?_) ⟨rfl, rfl⟩
              simp only [ValWp, execOp, Act.eval, e57]
              go_simp
              all_goals exact hK'
            · -- 16: slot 59 := Op.fieldAddr 70 t5 7
              refine OwesV.q C11_only rfl (by decide) fun a w bits hC hu hs => ⟨rfl, ?_⟩
              have e5 : a.tmps.getD 5 undef = .pointer (some ⟨bf, 0, none⟩) := hs.free 5 rfl
              refine ValWp.pure (v := .pointer (some ⟨bf, 7, none⟩)) (fun K' hK' => ?_) ⟨rfl, rfl⟩
              simp only [ValWp, execOp, Act.eval, e5]
              go_simp
              all_goals exact hK'
            · -- 17: slot 60 := Op.load 2 t59
              refine OwesV.q C11_only rfl (by decide) fun a w bits hC hu hs => ⟨rfl, ?_⟩
              have e59 : a.tmps.getD 59 undef = .pointer (some ⟨bf, 7, none⟩) := hs.dep 16 _ rfl rfl
              have q0 : w.cell? ⟨bf, 7, none⟩ = some (.int .i64 f.b) := by rw [(cell_row (HKB.out bits _ w hC).1 7).1]; rfl
              refine ValWp.pure (v := .int .i64 f.b) (fun K' hK' => ?_) ⟨rfl, rfl⟩
              simp only [ValWp, execOp, Act.eval, e59]
              go_simp
              all_goals exact hK'
            · -- 18: slot 61 := Op.fieldAddr 70 t5 8
              refine OwesV.q C11_only rfl (by decide) fun a w bits hC hu hs => ⟨rfl, ?_⟩
              have e5 : a.tmps.getD 5 undef = .pointer (some ⟨bf, 0, none⟩) := hs.free 5 rfl
              refine ValWp.pure (v := .pointer (some ⟨bf, 8, none⟩)) (fun K' hK' => ?_) ⟨rfl, rfl⟩
              simp only [ValWp, execOp, Act.eval, e5]
              go_simp
              all_goals exact hK'
            · -- 19: slot 62 := Op.load 9 t61
              refine OwesV.q C11_only rfl (by decide) fun a w bits hC hu hs => ⟨rfl, ?_⟩
              have e61 : a.tmps.getD 61 undef = .pointer (some ⟨bf, 8, none⟩) := hs.dep 18 _ rfl rfl
              have q0 : w.cell? ⟨bf, 8, none⟩ = some (.string (mkS f.text)) := by rw [(cell_row (HKB.out bits _ w hC).1 8).1]; rfl
              refine ValWp.pure (v := .string (mkS f.text)) (fun K' hK' => ?_) ⟨rfl, rfl⟩
              simp only [ValWp, execOp, Act.eval, e61]
              go_simp
              all_goals exact hK'
            · -- 20: slot 63 := Op.fieldAddr 70 t5 9
              refine OwesV.q C11_only rfl (by decide) fun a w bits hC hu hs => ⟨rfl, ?_⟩
              have e5 : a.tmps.getD 5 undef = .pointer (some ⟨bf, 0, none⟩) := hs.free 5 rfl
              refine ValWp.pure (v := .pointer (some ⟨bf, 9, none⟩)) (fun K' hK' => ?_) ⟨rfl, rfl⟩
              simp only [ValWp, execOp, Act.eval, e5]
              go_simp
              all_goals exact hK'
            · -- 21: slot 64 := Op.load 67 t63
              refine OwesV.q C11_only rfl (by decide) fun a w bits hC hu hs => ⟨rfl, ?_⟩
              have e63 : a.tmps.getD 63 undef = .pointer (some ⟨bf, 9, none⟩) := hs.dep 20 _ rfl rfl
              have q0 : w.cell? ⟨bf, 9, none⟩ = some (.slice X1 l1 y1) := by rw [(cell_row (HKB.out bits _ w hC).1 9).1]; rfl
              refine ValWp.pure (v := .slice X1 l1 y1) (fun K' hK' => ?_) ⟨rfl, rfl⟩
              simp only [ValWp, execOp, Act.eval, e63]
              go_simp
              all_goals exact hK'
            · -- 22: slot 65 := Op.fieldAddr 70 t5 10
              refine OwesV.q C11_only rfl (by decide) fun a w bits hC hu hs => ⟨rfl, ?_⟩
              have e5 : a.tmps.getD 5 undef = .pointer (some ⟨bf, 0, none⟩) := hs.free 5 rfl
              refine ValWp.pure (v := .pointer (some ⟨bf, 10, none⟩)) (fun K' hK' => ?_) ⟨rfl, rfl⟩
              simp only [ValWp, execOp, Act.eval, e5]
              go_simp
              all_goals exact hK'
            · -- 23: slot 66 := Op.load 23 t65
              refine OwesV.q C11_only rfl (by decide) fun a w bits hC hu hs => ⟨rfl, ?_⟩
              have e65 : a.tmps.getD 65 undef = .pointer (some ⟨bf, 10, none⟩) := hs.dep 22 _ rfl rfl
              have q0 : w.cell? ⟨bf, 10, none⟩ = some (.slice X2 l2 y2) := by rw [(cell_row (HKB.out bits _ w hC).1 10).1]; rfl
              refine ValWp.pure (v := .slice X2 l2 y2) (fun K' hK' => ?_) ⟨rfl, rfl⟩
              simp only [ValWp, execOp, Act.eval, e65]
              go_simp
              all_goals exact hK'
            · -- 24: slot 67 := Op.move t6
              refine OwesV.q C11_only rfl (by decide) fun a w bits hC hu hs => ⟨rfl, ?_⟩
              have e6 : a.tmps.getD 6 undef = .slice Av6 l3 cv6 := hs.free 6 rfl
              refine ValWp.pure (v := .slice Av6 l3 cv6) (fun K' hK' => ?_) ⟨rfl, rfl⟩
              simp only [ValWp, execOp, Act.eval, e6]
              go_simp
              all_goals exact hK'
            · -- 25: slot 68 := Op.fieldAddr 70 t5 12
              refine OwesV.q C11_only rfl (by decide) fun a w bits hC hu hs => ⟨rfl, ?_⟩
              have e5 : a.tmps.getD 5 undef = .pointer (some ⟨bf, 0, none⟩) := hs.free 5 rfl
              refine ValWp.pure (v := .pointer (some ⟨bf, 12, none⟩)) (fun K' hK' => ?_) ⟨rfl, rfl⟩
              simp only [ValWp, execOp, Act.eval, e5]
              go_simp
              all_goals exact hK'
            · -- 26: slot 69 := Op.load 31 t68
              refine OwesV.q C11_only rfl (by decide) fun a w bits hC hu hs => ⟨rfl, ?_⟩
              have e68 : a.tmps.getD 68 undef = .pointer (some ⟨bf, 12, none⟩) := hs.dep 25 _ rfl rfl
              exact ValWp.loadR rfl e68 (HKB.out bits _ w hC).2 ⟨rfl, rfl⟩
            · -- 27: slot 70 := Op.call { value (Operand.func 25), args := #[t69], argTypes := #[31] }
              refine fun a w bits hC hd hu hs => ⟨rfl, fun K hK => ?_⟩
              have e69 : a.tmps.getD 69 undef = .agg #[.slice Y1 k1 z1, .slice Y2 k2 z2, .int .i64 f.keep.status, .string (mkS f.keep.flags), .slice Y3 k3 z3, .slice Y4 k4 z4, .slice Y5 k5 z5] := hs.dep 26 _ rfl rfl
              refine wp_of_val ?_
              refine ValWp.call #[.agg #[.slice Y1 k1 z1, .slice Y2 k2 z2, .int .i64 f.keep.status, .string (mkS f.keep.flags), .slice Y3 k3 z3, .slice Y4 k4 z4, .slice Y5 k5 z5]] rfl rfl Try.func25 rfl rfl (by simp only [List.map_toArray, List.map_cons, List.map_nil, Act.eval, e69]) ?_
              refine (HKE.out bits _ w hC).mono ?_
              rintro e w' ⟨⟨cs', rfl, hk⟩, hl⟩
              exact ⟨_, rfl, hK _ _ trivial (step70 hC (hu 1 27 rfl (.inl rfl)) hl hk)⟩
            · -- 28: slot 71 := Op.build 85 #[(0, t54), (1, t56), (2, t58), (3, t60), (4, t62), (5, t64), (6, t66), (7, t67), (8, t70)]
              refine fun a w bits hC hd hu hs => ⟨rfl, fun K hK => ?_⟩
              have e56 : a.tmps.getD 56 undef = .bool f.quiet := hs.dep 13 _ rfl rfl
              have e58 : a.tmps.getD 58 undef = .int .i64 f.a := hs.dep 15 _ rfl rfl
              have e60 : a.tmps.getD 60 undef = .int .i64 f.b := hs.dep 17 _ rfl rfl
              have e62 : a.tmps.getD 62 undef = .string (mkS f.text) := hs.dep 19 _ rfl rfl
              have e64 : a.tmps.getD 64 undef = .slice X1 l1 y1 := hs.dep 21 _ rfl rfl
              have e66 : a.tmps.getD 66 undef = .slice X2 l2 y2 := hs.dep 23 _ rfl rfl
              have e67 : a.tmps.getD 67 undef = .slice Av6 l3 cv6 := hs.dep 24 _ rfl rfl
              obtain ⟨_, hl9, _, h54, h70⟩ := pre71 hC (hd 0 11 rfl rfl) (hd 1 27 rfl rfl) (hu 2 28 rfl (.inl rfl))
              obtain ⟨N, e54, hN, hge⟩ := h54
              obtain ⟨cs', e70, hk⟩ := h70
              obtain ⟨r1, t1, r2, t2, r3, t3, r4, t4, r5, t5, rfl, -⟩ := kp_cells (hk w (Fr.refl _ _))
              have hx := HHX.out w N _ hl9 hN hge hk
              have e54 : a.tmps.getD 54 undef = .slice (some ⟨N, 0, none⟩) 5 5 := e54
              have e70 : a.tmps.getD 70 undef = .agg #[.slice r1 f.keep.vars.length t1, .slice r2 f.keep.args.length t2, .int .i64 f.keep.status, .string (mkS f.keep.flags), .slice r3 f.keep.funcs.length t3, .slice r4 f.keep.traps.length t4, .slice r5 f.keep.fds.length t5] := e70
              refine wp_of_val ?_
              refine ValWp.pure (v := .agg #[.slice (some ⟨N, 0, none⟩) 5 5, .bool f.quiet, .int .i64 f.a, .int .i64 f.b, .string (mkS f.text), .slice X1 l1 y1, .slice X2 l2 y2, .slice Av6 l3 cv6, .slice r1 f.keep.vars.length t1, .slice r2 f.keep.args.length t2, .int .i64 f.keep.status, .string (mkS f.keep.flags), .slice r3 f.keep.funcs.length t3, .slice r4 f.keep.traps.length t4, .slice r5 f.keep.fds.length t5]) (w' := w) (fun K' hK' => ?_) (hK _ _ trivial (step71 hC (hd 0 11 rfl rfl) (hd 1 27 rfl rfl) (hu 2 28 rfl (.inl rfl)) hx))
              simp only [ValWp, execOp, Act.eval, List.map_toArray, List.map_cons, List.map_nil, e56, e58, e60, e62, e64, e66, e67, e54, e70]
              go_simp
              all_goals exact hK'
            · -- 29: slot 72 := Op.buildSlice 56 1 #[(0, t71)]
              refine fun a w bits hC hd hu hs => ⟨rfl, fun K hK => ?_⟩
              obtain ⟨x, e71, hx15, h9⟩ := step72 hC (hd 2 28 rfl rfl) (hu 3 29 rfl (.inl rfl))
              obtain ⟨a0, a1, a2, a3, a4, a5, a6, a7, a8, a9, b0, b1, b2, b3, b4, rfl⟩ := lst15 hx15
              have e71 : a.tmps.getD 71 undef = .agg #[a0, a1, a2, a3, a4, a5, a6, a7, a8, a9, b0, b1, b2, b3, b4] := e71
              refine wp_of_val ?_
              refine ValWp.pure (v := .slice (some ⟨w.heap.size, 0, none⟩) 1 1) (w' := w.alloc (.cells #[a0, a1, a2, a3, a4, a5, a6, a7, a8, a9, b0, b1, b2, b3, b4] 85)) (fun K' hK' => ?_) (hK _ _ trivial h9)
              simp only [ValWp, execOp, Act.eval, List.map_toArray, List.map_cons, List.map_nil, e71]
              go_simp
              all_goals exact hK'
            · -- 30: slot 73 := Op.call { builtin append, args := #[t43, t72], argTypes := #[56, 56] }
              refine fun a w bits hC hd hu hs => ⟨rfl, fun K hK => ?_⟩
              have e43 : a.tmps.getD 43 undef = .slice Av j cv := hs.dep 0 _ rfl rfl
              obtain ⟨u72, v', w', _, e72, hrun, h9⟩ := step73 hC (hd 3 29 rfl rfl) (hu 4 30 rfl (.inl rfl)) HOWN.out HJ.out HWS.out
              exact owes_append hrun rfl e43 e72 (hK v' w' trivial h9)
            · -- 31: slot 3 := Op.assign t73
              refine fun a w bits hC hd hu hs => ⟨rfl, fun K hK => ?_⟩
              have h9 := step3 hC (hd 4 30 rfl rfl) (hu 5 31 rfl (.inl rfl))
              obtain ⟨v9, hv9⟩ : ∃ v, v = a.tmps.getD 73 undef := ⟨_, rfl⟩
              have e73 : a.tmps.getD 73 undef = v9 := hv9.symm
              clear hv9
              change C11 _ _ _ _ _ _ _ (putS _ (some 3) (a.tmps.getD 73 undef)) _ at h9
              rw [e73] at h9
              refine wp_of_val ?_
              refine ValWp.pure (v := v9) (w' := w) (fun K' hK' => ?_) (hK _ _ trivial h9)
              simp only [ValWp, execOp, Act.eval, e73]
              go_simp
              all_goals exact hK'
          · intro a w hC hd hsz hfree hs
            obtain ⟨u43, hu43⟩ : ∃ u, u = a.tmps.getD 43 undef := ⟨_, rfl⟩
            obtain ⟨u44, hu44⟩ : ∃ u, u = a.tmps.getD 44 undef := ⟨_, rfl⟩
            obtain ⟨u45, hu45⟩ : ∃ u, u = a.tmps.getD 45 undef := ⟨_, rfl⟩
            obtain ⟨u46, hu46⟩ : ∃ u, u = a.tmps.getD 46 undef := ⟨_, rfl⟩
            obtain ⟨u47, hu47⟩ : ∃ u, u = a.tmps.getD 47 undef := ⟨_, rfl⟩
            obtain ⟨u48, hu48⟩ : ∃ u, u = a.tmps.getD 48 undef := ⟨_, rfl⟩
            obtain ⟨u49, hu49⟩ : ∃ u, u = a.tmps.getD 49 undef := ⟨_, rfl⟩
            obtain ⟨u50, hu50⟩ : ∃ u, u = a.tmps.getD 50 undef := ⟨_, rfl⟩
            obtain ⟨u51, hu51⟩ : ∃ u, u = a.tmps.getD 51 undef := ⟨_, rfl⟩
            obtain ⟨u52, hu52⟩ : ∃ u, u = a.tmps.getD 52 undef := ⟨_, rfl⟩
            obtain ⟨u53, hu53⟩ : ∃ u, u = a.tmps.getD 53 undef := ⟨_, rfl⟩
            obtain ⟨u54, hu54⟩ : ∃ u, u = a.tmps.getD 54 undef := ⟨_, rfl⟩
            obtain ⟨u55, hu55⟩ : ∃ u, u = a.tmps.getD 55 undef := ⟨_, rfl⟩
            obtain ⟨u56, hu56⟩ : ∃ u, u = a.tmps.getD 56 undef := ⟨_, rfl⟩
            obtain ⟨u57, hu57⟩ : ∃ u, u = a.tmps.getD 57 undef := ⟨_, rfl⟩
            obtain ⟨u58, hu58⟩ : ∃ u, u = a.tmps.getD 58 undef := ⟨_, rfl⟩
            obtain ⟨u59, hu59⟩ : ∃ u, u = a.tmps.getD 59 undef := ⟨_, rfl⟩
            obtain ⟨u60, hu60⟩ : ∃ u, u = a.tmps.getD 60 undef := ⟨_, rfl⟩
            obtain ⟨u61, hu61⟩ : ∃ u, u = a.tmps.getD 61 undef := ⟨_, rfl⟩
            obtain ⟨u62, hu62⟩ : ∃ u, u = a.tmps.getD 62 undef := ⟨_, rfl⟩
            obtain ⟨u63, hu63⟩ : ∃ u, u = a.tmps.getD 63 undef := ⟨_, rfl⟩
            obtain ⟨u64, hu64⟩ : ∃ u, u = a.tmps.getD 64 undef := ⟨_, rfl⟩
            obtain ⟨u65, hu65⟩ : ∃ u, u = a.tmps.getD 65 undef := ⟨_, rfl⟩
            obtain ⟨u66, hu66⟩ : ∃ u, u = a.tmps.getD 66 undef := ⟨_, rfl⟩
            obtain ⟨u67, hu67⟩ : ∃ u, u = a.tmps.getD 67 undef := ⟨_, rfl⟩
            obtain ⟨u68, hu68⟩ : ∃ u, u = a.tmps.getD 68 undef := ⟨_, rfl⟩
            obtain ⟨u69, hu69⟩ : ∃ u, u = a.tmps.getD 69 undef := ⟨_, rfl⟩
            obtain ⟨u70, hu70⟩ : ∃ u, u = a.tmps.getD 70 undef := ⟨_, rfl⟩
            obtain ⟨u71, hu71⟩ : ∃ u, u = a.tmps.getD 71 undef := ⟨_, rfl⟩
            obtain ⟨u72, hu72⟩ : ∃ u, u = a.tmps.getD 72 undef := ⟨_, rfl⟩
            obtain ⟨u73, hu73⟩ : ∃ u, u = a.tmps.getD 73 undef := ⟨_, rfl⟩
            obtain ⟨u, hu3'⟩ : ∃ u, u = a.tmps.getD 3 undef := ⟨_, rfl⟩
            have hu3 : a.tmps.getD 3 undef = u := hu3'.symm
            have hfin : Fin11 W wz (.slice Av j cv) f j xss.flatten u w := by rw [← hu3]; exact C11_end hC
            have hal : AllAt a 0 [_, _, _, u, _, _, _, _, _, _, _, _, _, _, _, _, _, _, _, _, _, _, _, _, _, _, _, _, _, _, _, _, _, _, _, _, _, _, _, _, _, _, _, u43, u44, u45, u46, u47, u48, u49, u50, u51, u52, u53, u54, u55, u56, u57, u58, u59, u60, u61, u62, u63, u64, u65, u66, u67, u68, u69, u70, u71, u72, u73, _, _, _, _, _, _, _, _, _, _, _, _, _, _, _, _, _, _, _, _, _, _, _, _, _, _, _, _, _] := ⟨hfree 0 rfl, hfree 1 rfl, hfree 2 rfl, hu3, hfree 4 rfl, hfree 5 rfl, hfree 6 rfl, hfree 7 rfl, hfree 8 rfl, hfree 9 rfl, hfree 10 rfl, hfree 11 rfl, hfree 12 rfl, hfree 13 rfl, hfree 14 rfl, hfree 15 rfl, hfree 16 rfl, hfree 17 rfl, hfree 18 rfl, hfree 19 rfl, hfree 20 rfl, hfree 21 rfl, hfree 22 rfl, hfree 23 rfl, hfree 24 rfl, hfree 25 rfl, hfree 26 rfl, hfree 27 rfl, hfree 28 rfl, hfree 29 rfl, hfree 30 rfl, hfree 31 rfl, hfree 32 rfl, hfree 33 rfl, hfree 34 rfl, hfree 35 rfl, hfree 36 rfl, hfree 37 rfl, hfree 38 rfl, hfree 39 rfl, hfree 40 rfl, hfree 41 rfl, hfree 42 rfl, hu43.symm, hu44.symm, hu45.symm, hu46.symm, hu47.symm, hu48.symm, hu49.symm, hu50.symm, hu51.symm, hu52.symm, hu53.symm, hu54.symm, hu55.symm, hu56.symm, hu57.symm, hu58.symm, hu59.symm, hu60.symm, hu61.symm, hu62.symm, hu63.symm, hu64.symm, hu65.symm, hu66.symm, hu67.symm, hu68.symm, hu69.symm, hu70.symm, hu71.symm, hu72.symm, hu73.symm, hfree 74 rfl, hfree 75 rfl, hfree 76 rfl, hfree 77 rfl, hfree 78 rfl, hfree 79 rfl, hfree 80 rfl, hfree 81 rfl, hfree 82 rfl, hfree 83 rfl, hfree 84 rfl, hfree 85 rfl, hfree 86 rfl, hfree 87 rfl, hfree 88 rfl, hfree 89 rfl, hfree 90 rfl, hfree 91 rfl, hfree 92 rfl, hfree 93 rfl, hfree 94 rfl, hfree 95 rfl, hfree 96 rfl, hfree 97 rfl, hfree 98 rfl, hfree 99 rfl, hfree 100 rfl, hfree 101 rfl, hfree 102 rfl, trivial⟩
            have hlit := fun h => act_lit hd h hal
            rw [hlit hsz]
            simp only [Array.getD_eq_getD_getElem?, List.getElem?_toArray, List.getElem?_cons_zero, List.getElem?_cons_succ, Option.getD_some]
            clear hlit hal hd hsz hfree hs hu43 hu44 hu45 hu46 hu47 hu48 hu49 hu50 hu51 hu52 hu53 hu54 hu55 hu56 hu57 hu58 hu59 hu60 hu61 hu62 hu63 hu64 hu65 hu66 hu67 hu68 hu69 hu70 hu71 hu72 hu73
            obtain ⟨xss', hnx⟩ := HPU.out _ _ hfin
            have HNX := Lib.hid hnx
            clear hC hfin hnx hu3 hu3'
            go_wp2
            go_roundw
            case rel => exact ⟨j + 1, xss', by omega, by go_num, HNX⟩
            case measure => simp [intOf]; omega
    · have e : j = n2 := by omega
      have hlt1 : ¬ (n2 : Int) < (n2 : Int) := by omega
      rw [e] at HOW ⊢
      clear e hj hlt
      obtain ⟨Av, cv, hv, _⟩ := own_any HOW.out.own
      subst hv
      obtain ⟨wz, hwz⟩ : ∃ x, x = wr := ⟨_, rfl⟩
      rw [← hwz] at HOW qb ⊢
      clear hwz
      go_wp2_with fail
      clear qb hlt1
      have HBX := Lib.hid (show ∀ (bits : List Bool) (S : Tmp → Value) (y : World), C12 W wz s bits S y → y.heap[W.heap.size]? = some (.cells #[.slice B1 s.keep.vars.length d1, .slice B2 s.keep.args.length d2, .int .i64 s.keep.status, .string (mkS s.keep.flags), .slice B3 s.keep.funcs.length d3, .slice B4 s.keep.traps.length d4, .slice B5 s.keep.fds.length d5, .slice A1 s.progs.length c1, .slice A2 n2 c2, .int .i64 s.asked.kind, .int .i64 s.asked.n, .int .i64 s.asked.m, .string (mkS s.asked.text), .slice Q1 s.asked.list.length e1, .int .i64 s.got.kind, .int .i64 s.got.err, .int .i64 s.got.n, .int .i64 s.got.m, .string (mkS s.got.text), .slice Q2 s.got.list.length e2, .int .i64 s.got.sig, .slice A3 s.sigs.length c3, .int .i64 s.loose, .int .i64 s.n, .int .i64 s.deep, .bool s.trapping, .bool s.ended, .bool s.done, .int .i64 s.fail] 40 (0, 0)) from fun bits S y hC => by
        have h9 := ((C12_fr hC).block W.heap.size (lt_of_block HOW.out.bx) (by unfold Nb; omega)).trans HOW.out.bx
        rw [HCS.out] at h9
        exact h9)
      have HKE := Lib.hid (show ∀ y : World, Later wz y → Calls Try.prog 25 #[.agg #[.slice B1 s.keep.vars.length d1, .slice B2 s.keep.args.length d2, .int .i64 s.keep.status, .string (mkS s.keep.flags), .slice B3 s.keep.funcs.length d3, .slice B4 s.keep.traps.length d4, .slice B5 s.keep.fds.length d5]] y fun e w' => (∃ cs' : List Value, e = .returned (.agg cs'.toArray) ∧ ∀ u, Fr (Nb W) w' u → kpR.C u u.heap.size cs' s.keep) ∧ Later y w' from fun y hy => by
        have hs := lt_of_block HOW.out.rs
        have h9 := HCS.out
        have h8 := kept_v s.keep (cs.take 7) y (Nb W) (fun k hk => by have := hy.size; unfold Nb; omega) (fun u hu => by
          have hz := (Fr.later (X := Nb W) hy).trans hu
          exact st_keep (stR.more (stR.keep HST.out fun p hp => World.cell?_of_block ((hz.block _ (by omega) (by unfold Nb; omega)).trans (HOW.out.low.block _ hp))) (Nat.le_trans HOW.out.low.size hz.size))) (by have h7 := HFEW.out; unfold fewN topN at h7; omega)
        rw [h9] at h8
        exact h8)
      have HHX := Lib.hid (show ∀ (w : World) (N M : Nat) (cs' : List Value), Later wz w → w.heap[N]? = some (.cells #[.int .i64 s.loose, .int .i64 s.n, .int .i64 s.deep] 3 (0, 0)) → wz.heap.size ≤ N → w.heap[M]? = some (.cells #[.bool s.trapping, .bool s.ended, .bool s.done] 4 (0, 0)) → wz.heap.size ≤ M → (∀ u, Fr (Nb W) w u → kpR.C u u.heap.size cs' s.keep) → HS W s (cs' ++ ([.slice A1 s.progs.length c1] ++ ([.slice Av n2 cv] ++ ([.int .i64 s.asked.kind, .int .i64 s.asked.n, .int .i64 s.asked.m, .string (mkS s.asked.text), .slice Q1 s.asked.list.length e1] ++ ([.int .i64 s.got.kind, .int .i64 s.got.err, .int .i64 s.got.n, .int .i64 s.got.m, .string (mkS s.got.text), .slice Q2 s.got.list.length e2, .int .i64 s.got.sig] ++ ([.slice A3 s.sigs.length c3] ++ ([.slice (some ⟨N, 0, none⟩) 3 3] ++ ([.slice (some ⟨M, 0, none⟩) 3 3] ++ [.int .i64 s.fail])))))))) w from fun w N M cs' hl hi hN hm hM hk => HS.mk_ HST.out HOW.out HN.out hl hi hN hm hM hk (by rw [HCS.out]; rfl))
      have HRS := Lib.hid HOW.out.rs
      have HLOW := Lib.hid HOW.out.low
      refine wp_region_slots (by kernel_rfl) [2, 18, 25, 28, 29] (C12 W wz s) [some (.pointer (some ⟨W.heap.size, 0, none⟩)), some (.agg #[.slice B1 s.keep.vars.length d1, .slice B2 s.keep.args.length d2, .int .i64 s.keep.status, .string (mkS s.keep.flags), .slice B3 s.keep.funcs.length d3, .slice B4 s.keep.traps.length d4, .slice B5 s.keep.fds.length d5]), none, some (.pointer (some ⟨W.heap.size, 7, none⟩)), some (.slice A1 s.progs.length c1), some (.slice Av n2 cv), some (.pointer (some ⟨W.heap.size, 9, none⟩)), some (.agg #[.int .i64 s.asked.kind, .int .i64 s.asked.n, .int .i64 s.asked.m, .string (mkS s.asked.text), .slice Q1 s.asked.list.length e1]), some (.pointer (some ⟨W.heap.size, 14, none⟩)), some (.agg #[.int .i64 s.got.kind, .int .i64 s.got.err, .int .i64 s.got.n, .int .i64 s.got.m, .string (mkS s.got.text), .slice Q2 s.got.list.length e2, .int .i64 s.got.sig]), some (.pointer (some ⟨W.heap.size, 21, none⟩)), some (.slice A3 s.sigs.length c3), some (.pointer (some ⟨W.heap.size, 22, none⟩)), some (.int .i64 s.loose), some (.pointer (some ⟨W.heap.size, 23, none⟩)), some (.int .i64 s.n), some (.pointer (some ⟨W.heap.size, 24, none⟩)), some (.int .i64 s.deep), none, some (.pointer (some ⟨W.heap.size, 25, none⟩)), some (.bool s.trapping), some (.pointer (some ⟨W.heap.size, 26, none⟩)), some (.bool s.ended), some (.pointer (some ⟨W.heap.size, 27, none⟩)), some (.bool s.done), none, some (.pointer (some ⟨W.heap.size, 28, none⟩)), some (.int .i64 s.fail), none, none] (by decide) (by decide) (by kernel_rfl) (C12_zero (Later.drew wz)) ?_ ?_
      · refine ⟨?_, ?_, ?_, ?_, ?_, ?_, ?_, ?_, ?_, ?_, ?_, ?_, ?_, ?_, ?_, ?_, ?_, ?_, ?_, ?_, ?_, ?_, ?_, ?_, ?_, ?_, ?_, ?_, ?_, ?_, trivial⟩
        · -- 0: slot 74 := Op.fieldAddr 40 t1 0
          refine OwesV.q C12_only rfl (by decide) fun a w bits hC hu hs => ⟨rfl, ?_⟩
          have e1 : a.tmps.getD 1 undef = .pointer (some ⟨W.heap.size, 0, none⟩) := hs.free 1 rfl
          refine ValWp.pure (v := .pointer (some ⟨W.heap.size, 0, none⟩)) (fun K' hK' => ?_) ⟨rfl, rfl⟩
          simp only [ValWp, execOp, Act.eval, e1]
          go_simp
          all_goals exact hK'
        · -- 1: slot 75 := Op.load 31 t74
          refine OwesV.q C12_only rfl (by decide) fun a w bits hC hu hs => ⟨rfl, ?_⟩
          have e74 : a.tmps.getD 74 undef = .pointer (some ⟨W.heap.size, 0, none⟩) := hs.dep 0 _ rfl rfl
          exact ValWp.loadR rfl e74 (load_sub (o := 0) (HBX.out bits _ w hC) [.slice B1 s.keep.vars.length d1, .slice B2 s.keep.args.length d2, .int .i64 s.keep.status, .string (mkS s.keep.flags), .slice B3 s.keep.funcs.length d3, .slice B4 s.keep.traps.length d4, .slice B5 s.keep.fds.length d5] rfl Try.underlying31 rfl (by kernel_rfl)) ⟨rfl, rfl⟩
        · -- 2: slot 76 := Op.call { value (Operand.func 25), args := #[t75], argTypes := #[31] }
          refine fun a w bits hC hd hu hs => ⟨rfl, fun K hK => ?_⟩
          have e75 : a.tmps.getD 75 undef = .agg #[.slice B1 s.keep.vars.length d1, .slice B2 s.keep.args.length d2, .int .i64 s.keep.status, .string (mkS s.keep.flags), .slice B3 s.keep.funcs.length d3, .slice B4 s.keep.traps.length d4, .slice B5 s.keep.fds.length d5] := hs.dep 1 _ rfl rfl
          refine wp_of_val ?_
          refine ValWp.call #[.agg #[.slice B1 s.keep.vars.length d1, .slice B2 s.keep.args.length d2, .int .i64 s.keep.status, .string (mkS s.keep.flags), .slice B3 s.keep.funcs.length d3, .slice B4 s.keep.traps.length d4, .slice B5 s.keep.fds.length d5]] rfl rfl Try.func25 rfl rfl (by simp only [List.map_toArray, List.map_cons, List.map_nil, Act.eval, e75]) ?_
          refine (HKE.out w (C12_low hC (.inl (hu 0 2 rfl (.inl rfl))))).mono ?_
          rintro e w' ⟨⟨cs', rfl, hk⟩, hl⟩
          exact ⟨_, rfl, hK _ _ trivial (step76 hC (hu 0 2 rfl (.inl rfl)) hl hk)⟩
        · -- 3: slot 77 := Op.fieldAddr 40 t1 1
          refine OwesV.q C12_only rfl (by decide) fun a w bits hC hu hs => ⟨rfl, ?_⟩
          have e1 : a.tmps.getD 1 undef = .pointer (some ⟨W.heap.size, 0, none⟩) := hs.free 1 rfl
          refine ValWp.pure (v := .pointer (some ⟨W.heap.size, 7, none⟩)) (fun K' hK' => ?_) ⟨rfl, rfl⟩
          simp only [ValWp, execOp, Act.eval, e1]
          go_simp
          all_goals exact hK'
        · -- 4: slot 78 := Op.load 23 t77
          refine OwesV.q C12_only rfl (by decide) fun a w bits hC hu hs => ⟨rfl, ?_⟩
          have e77 : a.tmps.getD 77 undef = .pointer (some ⟨W.heap.size, 7, none⟩) := hs.dep 3 _ rfl rfl
          have q0 : w.cell? ⟨W.heap.size, 7, none⟩ = some (.slice A1 s.progs.length c1) := by rw [(cell_row (HBX.out bits _ w hC) 7).1]; rfl
          refine ValWp.pure (v := .slice A1 s.progs.length c1) (fun K' hK' => ?_) ⟨rfl, rfl⟩
          simp only [ValWp, execOp, Act.eval, e77]
          go_simp
          all_goals exact hK'
        · -- 5: slot 79 := Op.move t3
          refine OwesV.q C12_only rfl (by decide) fun a w bits hC hu hs => ⟨rfl, ?_⟩
          have e3 : a.tmps.getD 3 undef = .slice Av n2 cv := hs.free 3 rfl
          refine ValWp.pure (v := .slice Av n2 cv) (fun K' hK' => ?_) ⟨rfl, rfl⟩
          simp only [ValWp, execOp, Act.eval, e3]
          go_simp
          all_goals exact hK'
        · -- 6: slot 80 := Op.fieldAddr 40 t1 3
          refine OwesV.q C12_only rfl (by decide) fun a w bits hC hu hs => ⟨rfl, ?_⟩
          have e1 : a.tmps.getD 1 undef = .pointer (some ⟨W.heap.size, 0, none⟩) := hs.free 1 rfl
          refine ValWp.pure (v := .pointer (some ⟨W.heap.size, 9, none⟩)) (fun K' hK' => ?_) ⟨rfl, rfl⟩
          simp only [ValWp, execOp, Act.eval, e1]
          go_simp
          all_goals exact hK'
        · -- 7: slot 81 := Op.load 34 t80
          refine OwesV.q C12_only rfl (by decide) fun a w bits hC hu hs => ⟨rfl, ?_⟩
          have e80 : a.tmps.getD 80 undef = .pointer (some ⟨W.heap.size, 9, none⟩) := hs.dep 6 _ rfl rfl
          exact ValWp.loadR rfl e80 (load_sub (o := 9) (HBX.out bits _ w hC) [.int .i64 s.asked.kind, .int .i64 s.asked.n, .int .i64 s.asked.m, .string (mkS s.asked.text), .slice Q1 s.asked.list.length e1] rfl Try.underlying34 rfl (by kernel_rfl)) ⟨rfl, rfl⟩
        · -- 8: slot 82 := Op.fieldAddr 40 t1 4
          refine OwesV.q C12_only rfl (by decide) fun a w bits hC hu hs => ⟨rfl, ?_⟩
          have e1 : a.tmps.getD 1 undef = .pointer (some ⟨W.heap.size, 0, none⟩) := hs.free 1 rfl
          refine ValWp.pure (v := .pointer (some ⟨W.heap.size, 14, none⟩)) (fun K' hK' => ?_) ⟨rfl, rfl⟩
          simp only [ValWp, execOp, Act.eval, e1]
          go_simp
          all_goals exact hK'
        · -- 9: slot 83 := Op.load 36 t82
          refine OwesV.q C12_only rfl (by decide) fun a w bits hC hu hs => ⟨rfl, ?_⟩
          have e82 : a.tmps.getD 82 undef = .pointer (some ⟨W.heap.size, 14, none⟩) := hs.dep 8 _ rfl rfl
          exact ValWp.loadR rfl e82 (load_sub (o := 14) (HBX.out bits _ w hC) [.int .i64 s.got.kind, .int .i64 s.got.err, .int .i64 s.got.n, .int .i64 s.got.m, .string (mkS s.got.text), .slice Q2 s.got.list.length e2, .int .i64 s.got.sig] rfl Try.underlying36 rfl (by kernel_rfl)) ⟨rfl, rfl⟩
        · -- 10: slot 84 := Op.fieldAddr 40 t1 5
          refine OwesV.q C12_only rfl (by decide) fun a w bits hC hu hs => ⟨rfl, ?_⟩
          have e1 : a.tmps.getD 1 undef = .pointer (some ⟨W.heap.size, 0, none⟩) := hs.free 1 rfl
          refine ValWp.pure (v := .pointer (some ⟨W.heap.size, 21, none⟩)) (fun K' hK' => ?_) ⟨rfl, rfl⟩
          simp only [ValWp, execOp, Act.eval, e1]
          go_simp
          all_goals exact hK'
        · -- 11: slot 85 := Op.load 37 t84
          refine OwesV.q C12_only rfl (by decide) fun a w bits hC hu hs => ⟨rfl, ?_⟩
          have e84 : a.tmps.getD 84 undef = .pointer (some ⟨W.heap.size, 21, none⟩) := hs.dep 10 _ rfl rfl
          have q0 : w.cell? ⟨W.heap.size, 21, none⟩ = some (.slice A3 s.sigs.length c3) := by rw [(cell_row (HBX.out bits _ w hC) 21).1]; rfl
          refine ValWp.pure (v := .slice A3 s.sigs.length c3) (fun K' hK' => ?_) ⟨rfl, rfl⟩
          simp only [ValWp, execOp, Act.eval, e84]
          go_simp
          all_goals exact hK'
        · -- 12: slot 86 := Op.fieldAddr 40 t1 6
          refine OwesV.q C12_only rfl (by decide) fun a w bits hC hu hs => ⟨rfl, ?_⟩
          have e1 : a.tmps.getD 1 undef = .pointer (some ⟨W.heap.size, 0, none⟩) := hs.free 1 rfl
          refine ValWp.pure (v := .pointer (some ⟨W.heap.size, 22, none⟩)) (fun K' hK' => ?_) ⟨rfl, rfl⟩
          simp only [ValWp, execOp, Act.eval, e1]
          go_simp
          all_goals exact hK'
        · -- 13: slot 87 := Op.load 3 t86
          refine OwesV.q C12_only rfl (by decide) fun a w bits hC hu hs => ⟨rfl, ?_⟩
          have e86 : a.tmps.getD 86 undef = .pointer (some ⟨W.heap.size, 22, none⟩) := hs.dep 12 _ rfl rfl
          have q0 : w.cell? ⟨W.heap.size, 22, none⟩ = some (.int .i64 s.loose) := by rw [(cell_row (HBX.out bits _ w hC) 22).1]; rfl
          refine ValWp.pure (v := .int .i64 s.loose) (fun K' hK' => ?_) ⟨rfl, rfl⟩
          simp only [ValWp, execOp, Act.eval, e86]
          go_simp
          all_goals exact hK'
        · -- 14: slot 88 := Op.fieldAddr 40 t1 7
          refine OwesV.q C12_only rfl (by decide) fun a w bits hC hu hs => ⟨rfl, ?_⟩
          have e1 : a.tmps.getD 1 undef = .pointer (some ⟨W.heap.size, 0, none⟩) := hs.free 1 rfl
          refine ValWp.pure (v := .pointer (some ⟨W.heap.size, 23, none⟩)) (fun K' hK' => ?_) ⟨rfl, rfl⟩
          simp only [ValWp, execOp, Act.eval, e1]
          go_simp
          all_goals exact hK'
        · -- 15: slot 89 := Op.load 3 t88
          refine OwesV.q C12_only rfl (by decide) fun a w bits hC hu hs => ⟨rfl, ?_⟩
          have e88 : a.tmps.getD 88 undef = .pointer (some ⟨W.heap.size, 23, none⟩) := hs.dep 14 _ rfl rfl
          have q0 : w.cell? ⟨W.heap.size, 23, none⟩ = some (.int .i64 s.n) := by rw [(cell_row (HBX.out bits _ w hC) 23).1]; rfl
          refine ValWp.pure (v := .int .i64 s.n) (fun K' hK' => ?_) ⟨rfl, rfl⟩
          simp only [ValWp, execOp, Act.eval, e88]
          go_simp
          all_goals exact hK'
        · -- 16: slot 90 := Op.fieldAddr 40 t1 8
          refine OwesV.q C12_only rfl (by decide) fun a w bits hC hu hs => ⟨rfl, ?_⟩
          have e1 : a.tmps.getD 1 undef = .pointer (some ⟨W.heap.size, 0, none⟩) := hs.free 1 rfl
          refine ValWp.pure (v := .pointer (some ⟨W.heap.size, 24, none⟩)) (fun K' hK' => ?_) ⟨rfl, rfl⟩
          simp only [ValWp, execOp, Act.eval, e1]
          go_simp
          all_goals exact hK'
        · -- 17: slot 91 := Op.load 3 t90
          refine OwesV.q C12_only rfl (by decide) fun a w bits hC hu hs => ⟨rfl, ?_⟩
          have e90 : a.tmps.getD 90 undef = .pointer (some ⟨W.heap.size, 24, none⟩) := hs.dep 16 _ rfl rfl
          have q0 : w.cell? ⟨W.heap.size, 24, none⟩ = some (.int .i64 s.deep) := by rw [(cell_row (HBX.out bits _ w hC) 24).1]; rfl
          refine ValWp.pure (v := .int .i64 s.deep) (fun K' hK' => ?_) ⟨rfl, rfl⟩
          simp only [ValWp, execOp, Act.eval, e90]
          go_simp
          all_goals exact hK'
        · -- 18: slot 92 := Op.buildSlice 37 3 #[(0, t87), (1, t89), (2, t91)]
          refine fun a w bits hC hd hu hs => ⟨rfl, fun K hK => ?_⟩
          have e87 : a.tmps.getD 87 undef = .int .i64 s.loose := hs.dep 13 _ rfl rfl
          have e89 : a.tmps.getD 89 undef = .int .i64 s.n := hs.dep 15 _ rfl rfl
          have e91 : a.tmps.getD 91 undef = .int .i64 s.deep := hs.dep 17 _ rfl rfl
          have h9 := step92 hC (hu 1 18 rfl (.inl rfl))
          refine wp_of_val ?_
          refine ValWp.pure (v := .slice (some ⟨w.heap.size, 0, none⟩) 3 3) (w' := w.alloc (.cells #[.int .i64 s.loose, .int .i64 s.n, .int .i64 s.deep] 3)) (fun K' hK' => ?_) (hK _ _ trivial h9)
          simp only [ValWp, execOp, Act.eval, List.map_toArray, List.map_cons, List.map_nil, e87, e89, e91]
          go_simp
          all_goals exact hK'
        · -- 19: slot 93 := Op.fieldAddr 40 t1 9
          refine OwesV.q C12_only rfl (by decide) fun a w bits hC hu hs => ⟨rfl, ?_⟩
          have e1 : a.tmps.getD 1 undef = .pointer (some ⟨W.heap.size, 0, none⟩) := hs.free 1 rfl
          refine ValWp.pure (v := .pointer (some ⟨W.heap.size, 25, none⟩)) (fun K' hK' => ?_) ⟨rfl, rfl⟩
          simp only [ValWp, execOp, Act.eval, e1]
          go_simp
          all_goals exact hK'
        · -- 20: slot 94 := Op.load 4 t93
          refine OwesV.q C12_only rfl (by decide) fun a w bits hC hu hs => ⟨rfl, ?_⟩
          have e93 : a.tmps.getD 93 undef = .pointer (some ⟨W.heap.size, 25, none⟩) := hs.dep 19 _ rfl rfl
          have q0 : w.cell? ⟨W.heap.size, 25, none⟩ = some (.bool s.trapping) := by rw [(cell_row (HBX.out bits _ w hC) 25).1]; rfl
          refine ValWp.pure (v := .bool s.trapping) (fun K' hK' => ?_) ⟨rfl, rfl⟩
          simp only [ValWp, execOp, Act.eval, e93]
          go_simp
          all_goals exact hK'
        · -- 21: slot 95 := Op.fieldAddr 40 t1 10
          refine OwesV.q C12_only rfl (by decide) fun a w bits hC hu hs => ⟨rfl, ?_⟩
          have e1 : a.tmps.getD 1 undef = .pointer (some ⟨W.heap.size, 0, none⟩) := hs.free 1 rfl
          refine ValWp.pure (v := .pointer (some ⟨W.heap.size, 26, none⟩)) (fun K' hK' => ?_) ⟨rfl, rfl⟩
          simp only [ValWp, execOp, Act.eval, e1]
          go_simp
          all_goals exact hK'
        · -- 22: slot 96 := Op.load 4 t95
          refine OwesV.q C12_only rfl (by decide) fun a w bits hC hu hs => ⟨rfl, ?_⟩
          have e95 : a.tmps.getD 95 undef = .pointer (some ⟨W.heap.size, 26, none⟩) := hs.dep 21 _ rfl rfl
          have q0 : w.cell? ⟨W.heap.size, 26, none⟩ = some (.bool s.ended) := by rw [(cell_row (HBX.out bits _ w hC) 26).1]; rfl
          refine ValWp.pure (v := .bool s.ended) (fun K' hK' => ?_) ⟨rfl, rfl⟩
          simp only [ValWp, execOp, Act.eval, e95]
          go_simp
          all_goals exact hK'
        · -- 23: slot 97 := Op.fieldAddr 40 t1 11
          refine OwesV.q C12_only rfl (by decide) fun a w bits hC hu hs => ⟨rfl, ?_⟩
          have e1 : a.tmps.getD 1 undef = .pointer (some ⟨W.heap.size, 0, none⟩) := hs.free 1 rfl
          refine ValWp.pure (v := .pointer (some ⟨W.heap.size, 27, none⟩)) (fun K' hK' => ?_) ⟨rfl, rfl⟩
          simp only [ValWp, execOp, Act.eval, e1]
          go_simp
          all_goals exact hK'
        · -- 24: slot 98 := Op.load 4 t97
          refine OwesV.q C12_only rfl (by decide) fun a w bits hC hu hs => ⟨rfl, ?_⟩
          have e97 : a.tmps.getD 97 undef = .pointer (some ⟨W.heap.size, 27, none⟩) := hs.dep 23 _ rfl rfl
          have q0 : w.cell? ⟨W.heap.size, 27, none⟩ = some (.bool s.done) := by rw [(cell_row (HBX.out bits _ w hC) 27).1]; rfl
          refine ValWp.pure (v := .bool s.done) (fun K' hK' => ?_) ⟨rfl, rfl⟩
          simp only [ValWp, execOp, Act.eval, e97]
          go_simp
          all_goals exact hK'
        · -- 25: slot 99 := Op.buildSlice 57 3 #[(0, t94), (1, t96), (2, t98)]
          refine fun a w bits hC hd hu hs => ⟨rfl, fun K hK => ?_⟩
          have e94 : a.tmps.getD 94 undef = .bool s.trapping := hs.dep 20 _ rfl rfl
          have e96 : a.tmps.getD 96 undef = .bool s.ended := hs.dep 22 _ rfl rfl
          have e98 : a.tmps.getD 98 undef = .bool s.done := hs.dep 24 _ rfl rfl
          have h9 := step99 hC (hu 2 25 rfl (.inl rfl))
          refine wp_of_val ?_
          refine ValWp.pure (v := .slice (some ⟨w.heap.size, 0, none⟩) 3 3) (w' := w.alloc (.cells #[.bool s.trapping, .bool s.ended, .bool s.done] 4)) (fun K' hK' => ?_) (hK _ _ trivial h9)
          simp only [ValWp, execOp, Act.eval, List.map_toArray, List.map_cons, List.map_nil, e94, e96, e98]
          go_simp
          all_goals exact hK'
        · -- 26: slot 100 := Op.fieldAddr 40 t1 12
          refine OwesV.q C12_only rfl (by decide) fun a w bits hC hu hs => ⟨rfl, ?_⟩
          have e1 : a.tmps.getD 1 undef = .pointer (some ⟨W.heap.size, 0, none⟩) := hs.free 1 rfl
          refine ValWp.pure (v := .pointer (some ⟨W.heap.size, 28, none⟩)) (fun K' hK' => ?_) ⟨rfl, rfl⟩
          simp only [ValWp, execOp, Act.eval, e1]
          go_simp
          all_goals exact hK'
        · -- 27: slot 101 := Op.load 38 t100
          refine OwesV.q C12_only rfl (by decide) fun a w bits hC hu hs => ⟨rfl, ?_⟩
          have e100 : a.tmps.getD 100 undef = .pointer (some ⟨W.heap.size, 28, none⟩) := hs.dep 26 _ rfl rfl
          have q0 : w.cell? ⟨W.heap.size, 28, none⟩ = some (.int .i64 s.fail) := by rw [(cell_row (HBX.out bits _ w hC) 28).1]; rfl
          refine ValWp.pure (v := .int .i64 s.fail) (fun K' hK' => ?_) ⟨rfl, rfl⟩
          simp only [ValWp, execOp, Act.eval, e100]
          go_simp
          all_goals exact hK'
        · -- 28: slot 102 := Op.build 59 #[(0, t76), (1, t78), (2, t79), (3, t81), (4, t83), (5, t85), (6, t92), (7, t99), (8, t101)]
          refine fun a w bits hC hd hu hs => ⟨rfl, fun K hK => ?_⟩
          have e78 : a.tmps.getD 78 undef = .slice A1 s.progs.length c1 := hs.dep 4 _ rfl rfl
          have e79 : a.tmps.getD 79 undef = .slice Av n2 cv := hs.dep 5 _ rfl rfl
          have e81 : a.tmps.getD 81 undef = .agg #[.int .i64 s.asked.kind, .int .i64 s.asked.n, .int .i64 s.asked.m, .string (mkS s.asked.text), .slice Q1 s.asked.list.length e1] := hs.dep 7 _ rfl rfl
          have e83 : a.tmps.getD 83 undef = .agg #[.int .i64 s.got.kind, .int .i64 s.got.err, .int .i64 s.got.n, .int .i64 s.got.m, .string (mkS s.got.text), .slice Q2 s.got.list.length e2, .int .i64 s.got.sig] := hs.dep 9 _ rfl rfl
          have e85 : a.tmps.getD 85 undef = .slice A3 s.sigs.length c3 := hs.dep 11 _ rfl rfl
          have e101 : a.tmps.getD 101 undef = .int .i64 s.fail := hs.dep 27 _ rfl rfl
          obtain ⟨_, hl9, h76, h92, h99⟩ := pre102 hC (hd 0 2 rfl rfl) (hd 1 18 rfl rfl) (hd 2 25 rfl rfl) (hu 3 28 rfl (.inl rfl))
          obtain ⟨cs', e76, hk⟩ := h76
          obtain ⟨N, e92, hN, hgn⟩ := h92
          obtain ⟨M, e99, hM, hgm⟩ := h99
          obtain ⟨r1, t1, r2, t2, r3, t3, r4, t4, r5, t5, rfl, -⟩ := kp_cells (hk w (Fr.refl _ _))
          have hx := HHX.out w N M _ hl9 hN hgn hM hgm hk
          have e76 : a.tmps.getD 76 undef = .agg #[.slice r1 s.keep.vars.length t1, .slice r2 s.keep.args.length t2, .int .i64 s.keep.status, .string (mkS s.keep.flags), .slice r3 s.keep.funcs.length t3, .slice r4 s.keep.traps.length t4, .slice r5 s.keep.fds.length t5] := e76
          have e92 : a.tmps.getD 92 undef = .slice (some ⟨N, 0, none⟩) 3 3 := e92
          have e99 : a.tmps.getD 99 undef = .slice (some ⟨M, 0, none⟩) 3 3 := e99
          refine wp_of_val ?_
          refine ValWp.pure (v := .agg #[.slice r1 s.keep.vars.length t1, .slice r2 s.keep.args.length t2, .int .i64 s.keep.status, .string (mkS s.keep.flags), .slice r3 s.keep.funcs.length t3, .slice r4 s.keep.traps.length t4, .slice r5 s.keep.fds.length t5, .slice A1 s.progs.length c1, .slice Av n2 cv, .int .i64 s.asked.kind, .int .i64 s.asked.n, .int .i64 s.asked.m, .string (mkS s.asked.text), .slice Q1 s.asked.list.length e1, .int .i64 s.got.kind, .int .i64 s.got.err, .int .i64 s.got.n, .int .i64 s.got.m, .string (mkS s.got.text), .slice Q2 s.got.list.length e2, .int .i64 s.got.sig, .slice A3 s.sigs.length c3, .slice (some ⟨N, 0, none⟩) 3 3, .slice (some ⟨M, 0, none⟩) 3 3, .int .i64 s.fail]) (w' := w) (fun K' hK' => ?_) (hK _ _ trivial (step102 hC (hd 0 2 rfl rfl) (hd 1 18 rfl rfl) (hd 2 25 rfl rfl) (hu 3 28 rfl (.inl rfl)) hx))
          simp only [ValWp, execOp, Act.eval, List.map_toArray, List.map_cons, List.map_nil, e78, e79, e81, e83, e85, e101, e76, e92, e99]
          go_simp
          all_goals exact hK'
        · -- 29: slot None := Op.store 59 t2 t102
          refine fun a w bits hC hd hu hs => ⟨rfl, fun K hK => ?_⟩
          have e2 : a.tmps.getD 2 undef = .pointer (some ⟨W.heap.size + 1, 0, none⟩) := hs.free 2 rfl
          obtain ⟨x, e102, w9, hrun, h9⟩ := step103 hC (hd 3 28 rfl rfl) (hu 4 29 rfl (.inl rfl)) HRS.out
          exact wp_of_val (ValWp.storeR rfl e2 e102 hrun (hK _ _ trivial h9))
      · intro a w hC hd hsz hfree hs
        obtain ⟨u74, hu74⟩ : ∃ u, u = a.tmps.getD 74 undef := ⟨_, rfl⟩
        obtain ⟨u75, hu75⟩ : ∃ u, u = a.tmps.getD 75 undef := ⟨_, rfl⟩
        obtain ⟨u76, hu76⟩ : ∃ u, u = a.tmps.getD 76 undef := ⟨_, rfl⟩
        obtain ⟨u77, hu77⟩ : ∃ u, u = a.tmps.getD 77 undef := ⟨_, rfl⟩
        obtain ⟨u78, hu78⟩ : ∃ u, u = a.tmps.getD 78 undef := ⟨_, rfl⟩
        obtain ⟨u79, hu79⟩ : ∃ u, u = a.tmps.getD 79 undef := ⟨_, rfl⟩
        obtain ⟨u80, hu80⟩ : ∃ u, u = a.tmps.getD 80 undef := ⟨_, rfl⟩
        obtain ⟨u81, hu81⟩ : ∃ u, u = a.tmps.getD 81 undef := ⟨_, rfl⟩
        obtain ⟨u82, hu82⟩ : ∃ u, u = a.tmps.getD 82 undef := ⟨_, rfl⟩
        obtain ⟨u83, hu83⟩ : ∃ u, u = a.tmps.getD 83 undef := ⟨_, rfl⟩
        obtain ⟨u84, hu84⟩ : ∃ u, u = a.tmps.getD 84 undef := ⟨_, rfl⟩
        obtain ⟨u85, hu85⟩ : ∃ u, u = a.tmps.getD 85 undef := ⟨_, rfl⟩
        obtain ⟨u86, hu86⟩ : ∃ u, u = a.tmps.getD 86 undef := ⟨_, rfl⟩
        obtain ⟨u87, hu87⟩ : ∃ u, u = a.tmps.getD 87 undef := ⟨_, rfl⟩
        obtain ⟨u88, hu88⟩ : ∃ u, u = a.tmps.getD 88 undef := ⟨_, rfl⟩
        obtain ⟨u89, hu89⟩ : ∃ u, u = a.tmps.getD 89 undef := ⟨_, rfl⟩
        obtain ⟨u90, hu90⟩ : ∃ u, u = a.tmps.getD 90 undef := ⟨_, rfl⟩
        obtain ⟨u91, hu91⟩ : ∃ u, u = a.tmps.getD 91 undef := ⟨_, rfl⟩
        obtain ⟨u92, hu92⟩ : ∃ u, u = a.tmps.getD 92 undef := ⟨_, rfl⟩
        obtain ⟨u93, hu93⟩ : ∃ u, u = a.tmps.getD 93 undef := ⟨_, rfl⟩
        obtain ⟨u94, hu94⟩ : ∃ u, u = a.tmps.getD 94 undef := ⟨_, rfl⟩
        obtain ⟨u95, hu95⟩ : ∃ u, u = a.tmps.getD 95 undef := ⟨_, rfl⟩
        obtain ⟨u96, hu96⟩ : ∃ u, u = a.tmps.getD 96 undef := ⟨_, rfl⟩
        obtain ⟨u97, hu97⟩ : ∃ u, u = a.tmps.getD 97 undef := ⟨_, rfl⟩
        obtain ⟨u98, hu98⟩ : ∃ u, u = a.tmps.getD 98 undef := ⟨_, rfl⟩
        obtain ⟨u99, hu99⟩ : ∃ u, u = a.tmps.getD 99 undef := ⟨_, rfl⟩
        obtain ⟨u100, hu100⟩ : ∃ u, u = a.tmps.getD 100 undef := ⟨_, rfl⟩
        obtain ⟨u101, hu101⟩ : ∃ u, u = a.tmps.getD 101 undef := ⟨_, rfl⟩
        obtain ⟨u102, hu102⟩ : ∃ u, u = a.tmps.getD 102 undef := ⟨_, rfl⟩
        have hfin : Fin12 W wz s w := C12_end hC
        have hal : AllAt a 0 [_, _, _, _, _, _, _, _, _, _, _, _, _, _, _, _, _, _, _, _, _, _, _, _, _, _, _, _, _, _, _, _, _, _, _, _, _, _, _, _, _, _, _, _, _, _, _, _, _, _, _, _, _, _, _, _, _, _, _, _, _, _, _, _, _, _, _, _, _, _, _, _, _, _, u74, u75, u76, u77, u78, u79, u80, u81, u82, u83, u84, u85, u86, u87, u88, u89, u90, u91, u92, u93, u94, u95, u96, u97, u98, u99, u100, u101, u102] := ⟨hfree 0 rfl, hfree 1 rfl, hfree 2 rfl, hfree 3 rfl, hfree 4 rfl, hfree 5 rfl, hfree 6 rfl, hfree 7 rfl, hfree 8 rfl, hfree 9 rfl, hfree 10 rfl, hfree 11 rfl, hfree 12 rfl, hfree 13 rfl, hfree 14 rfl, hfree 15 rfl, hfree 16 rfl, hfree 17 rfl, hfree 18 rfl, hfree 19 rfl, hfree 20 rfl, hfree 21 rfl, hfree 22 rfl, hfree 23 rfl, hfree 24 rfl, hfree 25 rfl, hfree 26 rfl, hfree 27 rfl, hfree 28 rfl, hfree 29 rfl, hfree 30 rfl, hfree 31 rfl, hfree 32 rfl, hfree 33 rfl, hfree 34 rfl, hfree 35 rfl, hfree 36 rfl, hfree 37 rfl, hfree 38 rfl, hfree 39 rfl, hfree 40 rfl, hfree 41 rfl, hfree 42 rfl, hfree 43 rfl, hfree 44 rfl, hfree 45 rfl, hfree 46 rfl, hfree 47 rfl, hfree 48 rfl, hfree 49 rfl, hfree 50 rfl, hfree 51 rfl, hfree 52 rfl, hfree 53 rfl, hfree 54 rfl, hfree 55 rfl, hfree 56 rfl, hfree 57 rfl, hfree 58 rfl, hfree 59 rfl, hfree 60 rfl, hfree 61 rfl, hfree 62 rfl, hfree 63 rfl, hfree 64 rfl, hfree 65 rfl, hfree 66 rfl, hfree 67 rfl, hfree 68 rfl, hfree 69 rfl, hfree 70 rfl, hfree 71 rfl, hfree 72 rfl, hfree 73 rfl, hu74.symm, hu75.symm, hu76.symm, hu77.symm, hu78.symm, hu79.symm, hu80.symm, hu81.symm, hu82.symm, hu83.symm, hu84.symm, hu85.symm, hu86.symm, hu87.symm, hu88.symm, hu89.symm, hu90.symm, hu91.symm, hu92.symm, hu93.symm, hu94.symm, hu95.symm, hu96.symm, hu97.symm, hu98.symm, hu99.symm, hu100.symm, hu101.symm, hu102.symm, trivial⟩
        have hlit := fun h => act_lit hd h hal
        rw [hlit hsz]
        simp only [Array.getD_eq_getD_getElem?, List.getElem?_toArray, List.getElem?_cons_zero, List.getElem?_cons_succ, Option.getD_some]
        clear hlit hal hd hsz hfree hs hu74 hu75 hu76 hu77 hu78 hu79 hu80 hu81 hu82 hu83 hu84 hu85 hu86 hu87 hu88 hu89 hu90 hu91 hu92 hu93 hu94 hu95 hu96 hu97 hu98 hu99 hu100 hu101 hu102
        obtain ⟨x, hb, h25, hss, hlo⟩ := hfin.res HRS.out HLOW.out
        have HB9 := Lib.hid hb
        have HSS := Lib.hid hss
        have HLO := Lib.hid hlo
        have e25 : x.toArray.size = 25 := by simpa using h25
        clear hC hfin hb hss hlo h25
        go_wp2
        refine bodyPost_ret (results_S rfl _ _ (W.heap.size + 1) _ rfl HB9.out e25) rfl ?_
        exact ⟨⟨x, rfl, HSS.out⟩, HLO.out⟩
end Ks
end Go.Proofs.Yteljmlodbnfhbaa
/- Ksp -/
namespace Go.Proofs.Yteljmlodbnfhbaa
open Go.RowKit
namespace Ks
set_option maxRecDepth 100000
theorem frOk_of {f : Fm} (h : fmC.ok f) : frOk (frOf f) := by
  obtain ⟨h1, h2, h3, h4, h5, h6, h7, h8, h9, ha, hb, hc, hd⟩ := h
  exact ⟨⟨by show 5 ≤ 100000; omega, h7, h8⟩, ha, hb, hc, hd⟩
theorem ssOk_of {s : St} (h : stC.ok s) : ssOk (ssOf s) ∧ I64 s.fail := by
  obtain ⟨h1, h2, h3, h4, h5, h6, h7, h8, h9, ha, hb, hc, hd⟩ := h
  refine ⟨⟨h1, h2, by show (s.stack.map frOf).length ≤ 100000; rw [List.length_map]; exact h3.1, fun f hf => ?_, h4, h5, h6, by show 3 ≤ 100000; omega, by show 3 ≤ 100000; omega, hd⟩, hd⟩
  obtain ⟨g, hg, rfl⟩ := List.mem_map.1 (show f ∈ s.stack.map frOf from hf)
  exact frOk_of (h3.2 g hg)
def spSs (s : St) : Sp Later := ⟨fun v w => ∃ c : List Value, v = .agg c.toArray ∧ ssR.C w w.heap.size c (ssOf s), fun _ _ _ hl ⟨c, e, h⟩ => ⟨c, e, ssR.more (ssR.keep h fun _ hp => hl.cell hp) hl.size⟩⟩
/-- A state's cells, each of them one. -/
theorem st_one {w : World} {n : Nat} {cs : List Value} {s : St} (h : stR.C w n cs s) : (Try.prog.info? 40).map (·.size) = some cs.toArray.size ∧ (#[.slice none 0 0, .slice none 0 0, .int .i64 0, .string ⟨#[]⟩, .slice none 0 0, .slice none 0 0, .slice none 0 0, .slice none 0 0, .slice none 0 0, .int .i64 0, .int .i64 0, .int .i64 0, .string ⟨#[]⟩, .slice none 0 0, .int .i64 0, .int .i64 0, .int .i64 0, .int .i64 0, .string ⟨#[]⟩, .slice none 0 0, .int .i64 0, .slice none 0 0, .int .i64 0, .int .i64 0, .int .i64 0, .bool false, .bool false, .bool false, .int .i64 0] : Array Value).size = cs.toArray.size ∧ cs.toArray.all (·.oneCell') = true := by
  have h29 : cs.toArray.size = 29 := by rw [List.size_toArray]; exact stR.len h
  refine ⟨by rw [h29]; kernel_rfl, by rw [h29]; rfl, ?_⟩
  obtain ⟨B1, d1, B2, d2, B3, d3, B4, d4, B5, d5, A1, c1, A2, c2, Q1, e1, Q2, e2, A3, c3, rfl, _⟩ := st_cells h
  simp [Value.oneCell']
set_option maxHeartbeats 6400000 in
theorem packs_law (s : St) (cs : List Value) (W : World) (h : stR.C W W.heap.size cs s) (hx : (stC.put s).length ≤ 20000000) :
    Calls Try.prog 3 #[.agg cs.toArray] W fun e W' => e = .returned (.bool true) ∧ Later W W' := by
  have HB := Lib.hid (fun w1 hb hl => box_facts h (by omega) w1 hb hl)
  by_cases hf : fewN s ≤ 300
  · rw [decide_eq_true hf] at HB
    have hok := ok_st h hf
    obtain ⟨n, hn⟩ : ∃ n, n = (stC.put s).length := ⟨_, rfl⟩
    obtain ⟨p, hp⟩ : ∃ p, p = stC.put s := ⟨_, rfl⟩
    have HST := Lib.hid (show ∀ w, Later W w → stR.C w w.heap.size cs s from fun w hw => stR.more (stR.keep h fun p hp => hw.cell hp) hw.size)
    have HOF := Lib.hid (show ∀ (cx : List Value) (w : World), stR.C w w.heap.size cx s → Calls Try.prog 12 #[.agg cx.toArray] w fun e w' => (∃ c : List Value, e = .returned (.agg c.toArray) ∧ ssR.C w' w'.heap.size c (ssOf s)) ∧ Later w w' from fun cx w hc => of_v s cx w hc (by omega))
    have HPR := Lib.hid (show ∀ (w : World) (c : List Value), ssR.C w w.heap.size c (ssOf s) → Calls Try.prog 11 #[.agg c.toArray] w fun e w' => e = .returned (.string (mkS p)) ∧ Later w w' from fun w c hc => by
      have h9 := pack_v (ssOf s) c w hc (ssOk_of hok).1 (ssOk_of hok).2 (by rw [ssB_of]; omega)
      rw [ssB_of, ← hp] at h9
      exact h9)
    have HSM := Lib.hid (show ∀ (w : World) (ca cb : List Value), stR.C w w.heap.size ca s → stR.C w w.heap.size cb s → Calls Try.prog 13 #[.agg ca.toArray, .agg cb.toArray] w fun e w' => e = .returned (.bool true) ∧ Later w w' from fun w ca cb ha hb => (same_v s s ca cb w ha hb hok hok (by omega) (by omega)).mono fun e w' hq => ⟨by rw [hq.1, decide_eq_true rfl], hq.2⟩)
    have HPK := Lib.hid (show ∀ w, Later W w → Calls Try.prog 9 #[.agg cs.toArray] w fun e w' => ∃ A2 c2, e = .returned (.slice A2 n c2) ∧ Rd w' w'.heap.size A2 n (p.map bv) ∧ Later w w' from fun w hw => by
      refine (packS_v s cs w (HST.out w hw) hok (by omega)).mono fun e w' hq => ?_
      obtain ⟨v', rfl, hg⟩ := hq
      obtain ⟨A2, c2, rfl, _, hr, _⟩ := own_map hg.own
      rw [hn, hp]
      exact ⟨A2, c2, rfl, hr, hg.belowNil⟩)
    have HUN := Lib.hid (show ∀ (w : World) (A2 : Option Addr) (c2 : Nat), Rd w w.heap.size A2 n (p.map bv) → Calls Try.prog 10 #[.slice A2 n c2] w fun e w' => ∃ c : List Value, e = .returned (.tuple #[.agg c.toArray, .int .i64 0]) ∧ stR.C w' w'.heap.size c s ∧ Later w w' from fun w A2 c2 hr => by
      refine (unpack_v A2 n c2 p w hr (by omega)).mono fun e w' hq => ?_
      obtain ⟨hl, c, k, rfl, _, hgood⟩ := hq
      obtain ⟨rfl, hC⟩ := hgood s (by rw [hp]; exact unp_put hok)
      exact ⟨c, rfl, hC, hl⟩)
    clear h hx hok hn hp hf
    go_enter Try.func3, Try.ntmps3
    go_wp2_with (first
      | (refine wpList_boxO rfl 40 (.tmp 0) rfl _ rfl ?_; intro w1 hb1 hl1 hs1; obtain ⟨ha1, hld1⟩ := HB.out w1 hb1 hl1; (have HL1 := Lib.hid hl1); (have HLD := Lib.hid hld1); (have HFW := Lib.hid ha1); clear hb1 hl1 hs1 ha1 hld1)
      | (go_at_call 7; (with_reducible refine (awake_v _).mono ?_); rintro e w2 ⟨rfl, hl2⟩; (have HL2 := Lib.hid hl2); clear hl2)
      | (refine wpList_loadRun rfl 40 (.tmp 1) rfl _ _ rfl (HLD.out _ HL2.out) ?_)
      | (go_at_call 8; (with_reducible refine (HFW.out _ HL2.out).mono ?_); rintro e w3 ⟨rfl, hl3⟩; (have HL3 := Lib.hid (HL2.out.trans hl3)); clear hl3)
      | (refine wpList_loadRun rfl 40 (.tmp 1) rfl _ _ rfl (HLD.out _ HL3.out) ?_)
      | (go_at_call 9; (with_reducible refine (HPK.out _ (HL1.out.trans HL3.out)).mono ?_); rintro e w4 ⟨A2, c2, rfl, hr4, hl4⟩; (have HR4 := Lib.hid hr4); (have HL4 := Lib.hid (HL3.out.trans hl4)); clear hr4 hl4)
      | (go_at_call 10; (with_reducible refine (HUN.out w4 A2 c2 HR4.out).mono ?_); rintro e w5 ⟨cs2, rfl, hc5, hl5⟩; obtain ⟨hi5, hz5, ho5⟩ := st_one hc5; (have HI := Lib.hid hi5); (have HSZ := Lib.hid hz5); (have HON := Lib.hid ho5); (have HC5 := Lib.hid hc5); (have HL5 := Lib.hid hl5); clear hc5 hl5 hi5 hz5 ho5)
      | (refine wpList_allocO 6 rfl rfl 40 rfl #[.slice none 0 0, .slice none 0 0, .int .i64 0, .string ⟨#[]⟩, .slice none 0 0, .slice none 0 0, .slice none 0 0, .slice none 0 0, .slice none 0 0, .int .i64 0, .int .i64 0, .int .i64 0, .string ⟨#[]⟩, .slice none 0 0, .int .i64 0, .int .i64 0, .int .i64 0, .int .i64 0, .string ⟨#[]⟩, .slice none 0 0, .int .i64 0, .slice none 0 0, .int .i64 0, .int .i64 0, .int .i64 0, .bool false, .bool false, .bool false, .int .i64 0] 29 (by kernel_rfl) ?_; intro w6 hw6 hl6 hs6; (have HW6 := Lib.hid hw6); (have HL6 := Lib.hid hl6); clear hw6 hl6 hs6)
      | (refine wpList_storeO rfl 40 (.tmp 6) (.tmp 20) rfl w5.heap.size _ _ rfl rfl HW6.out HI.out HSZ.out HON.out ?_; intro w7 hw7 hg7 hs7; (have HW7 := Lib.hid hw7); (have HL7 := Lib.hid (later_of_new HL6.out hg7 (Nat.le_refl _))); clear hw7 hg7 hs7))
    have HL17 := Lib.hid ((HL4.out.trans HL5.out).trans HL7.out)
    have HLA := Lib.hid (show ∀ w, Later w7 w → _ from fun w hw => HLD.out w (HL17.out.trans hw))
    have HLB := Lib.hid (show ∀ w, Later w7 w → (Instr.loadAt 40 (.pointer (some ⟨w5.heap.size, 0, none⟩))).run Try.prog w = .ok (.agg cs2.toArray) w from fun w hw => loadO_run (P := Try.prog) 40 _ _ _ (later_cells hw HW7.out) Try.underlying40 rfl (by rw [List.size_toArray, stR.len HC5.out]; kernel_rfl))
    have HCA := Lib.hid (show ∀ w, Later w7 w → stR.C w w.heap.size cs s from fun w hw => HST.out w ((HL1.out.trans HL17.out).trans hw))
    have HCB := Lib.hid (show ∀ w, Later w7 w → stR.C w w.heap.size cs2 s from fun w hw => stR.more (stR.keep HC5.out fun p hp => (HL7.out.trans hw).cell hp) (HL7.out.trans hw).size)
    have HOA := Lib.hid (show ∀ w, Later w7 w → _ from fun w hw => HOF.out cs w (HCA.out w hw))
    have HOB := Lib.hid (show ∀ w, Later w7 w → _ from fun w hw => HOF.out cs2 w (HCB.out w hw))
    have HSA := Lib.hid (show ∀ w, Later w7 w → _ from fun w hw => HSM.out w cs cs2 (HCA.out w hw) (HCB.out w hw))
    have HRD := Lib.hid (show Rd w7 w7.heap.size A2 n (p.map bv) from Rd.wide (HR4.out.keep fun p hp => (HL5.out.trans HL7.out).cell hp) (HL5.out.trans HL7.out).size)
    have HEND := Lib.hid (HL1.out.trans HL17.out)
    refine wp_region_owes (by kernel_rfl) (fun x => Later w7 x) (Later) (Later.refl) [Sp.val (.slice A2 n c2), Sp.val (.string (mkS p)), Sp.val (.agg cs.toArray), spSs s, Sp.val (.string (mkS p)), Sp.val (.bool true), Sp.val (.bool true), Sp.val (.int .i64 0), Sp.val (.bool true), Sp.val (.bool true), Sp.val (.bool true), Sp.val (.agg cs2.toArray), spSs s, Sp.val (.string (mkS p)), Sp.val (.slice A2 n c2), Sp.val (.string (mkS p)), Sp.val (.bool true), Sp.val (.bool true), Sp.val (.bool true), Sp.val (.agg cs.toArray), Sp.val (.agg cs2.toArray), Sp.val (.bool true), Sp.val (.bool true), Sp.val (.bool true)] (by kernel_rfl) (Later.drew w7) ?_ ?_
    · refine ⟨?_, ?_, ?_, ?_, ?_, ?_, ?_, ?_, ?_, ?_, ?_, ?_, ?_, ?_, ?_, ?_, ?_, ?_, ?_, ?_, ?_, ?_, ?_, ?_, trivial⟩
      · -- 0: slot 22 := Op.move t5
        refine fun a w hC hs => .inl ⟨?_, ?_⟩
        · rfl
        have e5 : a.tmps.getD 5 undef = .slice A2 n c2 := hs.free 5 rfl
        exact ⟨e5, hC, Later.refl _⟩
      · -- 1: slot 23 := Op.convert 43 9 t22
        refine fun a w hC hs => .inl ⟨?_, ?_⟩
        · rfl
        have e22 : a.tmps.getD 22 undef = .slice A2 n c2 := hs.dep 0 _ rfl rfl
        have hcv := run_str_of (P := Try.prog) (Rd.wide (HRD.out.keep fun p hp => hC.cell hp) hC.size) 43 9 5 Try.underlying43 Try.underlying5 Try.underlying9 c2
        refine ValWp.pure (v := .string (mkS p)) (fun K' hK' => ?_) ⟨rfl, hC, Later.refl _⟩
        simp only [ValWp, execOp, Act.eval, e22]
        go_simp
        all_goals exact hK'
      · -- 2: slot 24 := Op.load 40 t1
        refine fun a w hC hs => .inl ⟨?_, ?_⟩
        · rfl
        have e1 : a.tmps.getD 1 undef = .pointer (some ⟨W.heap.size, 0, none⟩) := hs.free 1 rfl
        exact ValWp.loadR rfl e1 (HLA.out w hC) ⟨rfl, hC, Later.refl _⟩
      · -- 3: slot 25 := Op.call { value (Operand.func 12), args := #[t24], argTypes := #[40] }
        refine fun a w hC hs => .inl ⟨?_, ?_⟩
        · rfl
        have e24 : a.tmps.getD 24 undef = .agg cs.toArray := hs.dep 2 _ rfl rfl
        refine ValWp.call #[.agg cs.toArray] rfl rfl Try.func12 rfl rfl (by simp only [List.map_toArray, List.map_cons, List.map_nil, Act.eval, e24]) ?_
        refine (HOA.out w hC).mono ?_
        rintro e w' ⟨⟨c, rfl, h2⟩, hl⟩
        exact ⟨_, rfl, ⟨c, rfl, h2⟩, Later.trans hC hl, hl⟩
      · -- 4: slot 26 := Op.call { value (Operand.func 11), args := #[t25], argTypes := #[59] }
        refine fun a w hC hs => .inl ⟨?_, ?_⟩
        · rfl
        obtain ⟨c25, e25, h25⟩ := hs.dep 3 _ rfl rfl
        change a.tmps.getD 25 undef = _ at e25
        refine ValWp.call #[.agg c25.toArray] rfl rfl Try.func11 rfl rfl (by simp only [List.map_toArray, List.map_cons, List.map_nil, Act.eval, e25]) ?_
        refine (HPR.out w c25 h25).mono ?_
        rintro e w' ⟨rfl, hl⟩
        exact ⟨_, rfl, rfl, Later.trans hC hl, hl⟩
      · -- 5: slot 27 := Op.binOp BinOp.eql 9 t23 t26 9
        refine fun a w hC hs => .inl ⟨?_, ?_⟩
        · rfl
        have e23 : a.tmps.getD 23 undef = .string (mkS p) := hs.dep 1 _ rfl rfl
        have e26 : a.tmps.getD 26 undef = .string (mkS p) := hs.dep 4 _ rfl rfl
        refine ValWp.pure (v := .bool true) (fun K' hK' => ?_) ⟨rfl, hC, Later.refl _⟩
        simp only [ValWp, execOp, Act.eval, e23, e26]
        go_simp
        all_goals exact hK'
      · -- 6: slot 28 := Op.move t27
        refine fun a w hC hs => .inl ⟨?_, ?_⟩
        · rfl
        have e27 : a.tmps.getD 27 undef = .bool true := hs.dep 5 _ rfl rfl
        exact ⟨e27, hC, Later.refl _⟩
      · -- 7: slot 29 := Op.move t7 guarded (6, 'true')
        refine fun a w hC hs => .inl ⟨?_, ?_⟩
        · exact (by unfold Region.wanted; dsimp only; rw [yielded_bool (d := 28) rfl (hs.dep 6 _ rfl rfl)]; rfl)
        have e7 : a.tmps.getD 7 undef = .int .i64 0 := hs.free 7 rfl
        exact ⟨e7, hC, Later.refl _⟩
      · -- 8: slot 30 := Op.binOp BinOp.eql 38 t29 (const (0:i64)) 38 guarded (6, 'true')
        refine fun a w hC hs => .inl ⟨?_, ?_⟩
        · exact (by unfold Region.wanted; dsimp only; rw [yielded_bool (d := 28) rfl (hs.dep 6 _ rfl rfl)]; rfl)
        have e29 : a.tmps.getD 29 undef = .int .i64 0 := hs.dep 7 _ rfl rfl
        refine ValWp.pure (v := .bool true) (fun K' hK' => ?_) ⟨rfl, hC, Later.refl _⟩
        simp only [ValWp, execOp, Act.eval, e29]
        go_simp
        all_goals exact hK'
      · -- 9: slot 31 := Op.pick t28 t30 (const (Value.bool false))
        refine fun a w hC hs => .inl ⟨?_, ?_⟩
        · rfl
        have e28 : a.tmps.getD 28 undef = .bool true := hs.dep 6 _ rfl rfl
        have e30 : a.tmps.getD 30 undef = .bool true := hs.dep 8 _ rfl rfl
        refine ValWp.pure (v := .bool true) (fun K' hK' => ?_) ⟨rfl, hC, Later.refl _⟩
        simp only [ValWp, execOp, Act.eval, e28, e30]
        go_simp
        all_goals exact hK'
      · -- 10: slot 32 := Op.move t31
        refine fun a w hC hs => .inl ⟨?_, ?_⟩
        · rfl
        have e31 : a.tmps.getD 31 undef = .bool true := hs.dep 9 _ rfl rfl
        exact ⟨e31, hC, Later.refl _⟩
      · -- 11: slot 33 := Op.load 40 t6 guarded (10, 'true')
        refine fun a w hC hs => .inl ⟨?_, ?_⟩
        · exact (by unfold Region.wanted; dsimp only; rw [yielded_bool (d := 32) rfl (hs.dep 10 _ rfl rfl)]; rfl)
        have e6 : a.tmps.getD 6 undef = .pointer (some ⟨w5.heap.size, 0, none⟩) := hs.free 6 rfl
        exact ValWp.loadR rfl e6 (HLB.out w hC) ⟨rfl, hC, Later.refl _⟩
      · -- 12: slot 34 := Op.call { value (Operand.func 12), args := #[t33], argTypes := #[40] } guarded (10, 'true')
        refine fun a w hC hs => .inl ⟨?_, ?_⟩
        · exact (by unfold Region.wanted; dsimp only; rw [yielded_bool (d := 32) rfl (hs.dep 10 _ rfl rfl)]; rfl)
        have e33 : a.tmps.getD 33 undef = .agg cs2.toArray := hs.dep 11 _ rfl rfl
        refine ValWp.call #[.agg cs2.toArray] rfl rfl Try.func12 rfl rfl (by simp only [List.map_toArray, List.map_cons, List.map_nil, Act.eval, e33]) ?_
        refine (HOB.out w hC).mono ?_
        rintro e w' ⟨⟨c, rfl, h2⟩, hl⟩
        exact ⟨_, rfl, ⟨c, rfl, h2⟩, Later.trans hC hl, hl⟩
      · -- 13: slot 35 := Op.call { value (Operand.func 11), args := #[t34], argTypes := #[59] } guarded (10, 'true')
        refine fun a w hC hs => .inl ⟨?_, ?_⟩
        · exact (by unfold Region.wanted; dsimp only; rw [yielded_bool (d := 32) rfl (hs.dep 10 _ rfl rfl)]; rfl)
        obtain ⟨c34, e34, h34⟩ := hs.dep 12 _ rfl rfl
        change a.tmps.getD 34 undef = _ at e34
        refine ValWp.call #[.agg c34.toArray] rfl rfl Try.func11 rfl rfl (by simp only [List.map_toArray, List.map_cons, List.map_nil, Act.eval, e34]) ?_
        refine (HPR.out w c34 h34).mono ?_
        rintro e w' ⟨rfl, hl⟩
        exact ⟨_, rfl, rfl, Later.trans hC hl, hl⟩
      · -- 14: slot 36 := Op.move t5 guarded (10, 'true')
        refine fun a w hC hs => .inl ⟨?_, ?_⟩
        · exact (by unfold Region.wanted; dsimp only; rw [yielded_bool (d := 32) rfl (hs.dep 10 _ rfl rfl)]; rfl)
        have e5 : a.tmps.getD 5 undef = .slice A2 n c2 := hs.free 5 rfl
        exact ⟨e5, hC, Later.refl _⟩
      · -- 15: slot 37 := Op.convert 43 9 t36 guarded (10, 'true')
        refine fun a w hC hs => .inl ⟨?_, ?_⟩
        · exact (by unfold Region.wanted; dsimp only; rw [yielded_bool (d := 32) rfl (hs.dep 10 _ rfl rfl)]; rfl)
        have e36 : a.tmps.getD 36 undef = .slice A2 n c2 := hs.dep 14 _ rfl rfl
        have hcv := run_str_of (P := Try.prog) (Rd.wide (HRD.out.keep fun p hp => hC.cell hp) hC.size) 43 9 5 Try.underlying43 Try.underlying5 Try.underlying9 c2
        refine ValWp.pure (v := .string (mkS p)) (fun K' hK' => ?_) ⟨rfl, hC, Later.refl _⟩
        simp only [ValWp, execOp, Act.eval, e36]
        go_simp
        all_goals exact hK'
      · -- 16: slot 38 := Op.binOp BinOp.eql 9 t35 t37 9 guarded (10, 'true')
        refine fun a w hC hs => .inl ⟨?_, ?_⟩
        · exact (by unfold Region.wanted; dsimp only; rw [yielded_bool (d := 32) rfl (hs.dep 10 _ rfl rfl)]; rfl)
        have e35 : a.tmps.getD 35 undef = .string (mkS p) := hs.dep 13 _ rfl rfl
        have e37 : a.tmps.getD 37 undef = .string (mkS p) := hs.dep 15 _ rfl rfl
        refine ValWp.pure (v := .bool true) (fun K' hK' => ?_) ⟨rfl, hC, Later.refl _⟩
        simp only [ValWp, execOp, Act.eval, e35, e37]
        go_simp
        all_goals exact hK'
      · -- 17: slot 39 := Op.pick t32 t38 (const (Value.bool false))
        refine fun a w hC hs => .inl ⟨?_, ?_⟩
        · rfl
        have e32 : a.tmps.getD 32 undef = .bool true := hs.dep 10 _ rfl rfl
        have e38 : a.tmps.getD 38 undef = .bool true := hs.dep 16 _ rfl rfl
        refine ValWp.pure (v := .bool true) (fun K' hK' => ?_) ⟨rfl, hC, Later.refl _⟩
        simp only [ValWp, execOp, Act.eval, e32, e38]
        go_simp
        all_goals exact hK'
      · -- 18: slot 40 := Op.move t39
        refine fun a w hC hs => .inl ⟨?_, ?_⟩
        · rfl
        have e39 : a.tmps.getD 39 undef = .bool true := hs.dep 17 _ rfl rfl
        exact ⟨e39, hC, Later.refl _⟩
      · -- 19: slot 41 := Op.load 40 t1 guarded (18, 'true')
        refine fun a w hC hs => .inl ⟨?_, ?_⟩
        · exact (by unfold Region.wanted; dsimp only; rw [yielded_bool (d := 40) rfl (hs.dep 18 _ rfl rfl)]; rfl)
        have e1 : a.tmps.getD 1 undef = .pointer (some ⟨W.heap.size, 0, none⟩) := hs.free 1 rfl
        exact ValWp.loadR rfl e1 (HLA.out w hC) ⟨rfl, hC, Later.refl _⟩
      · -- 20: slot 42 := Op.load 40 t6 guarded (18, 'true')
        refine fun a w hC hs => .inl ⟨?_, ?_⟩
        · exact (by unfold Region.wanted; dsimp only; rw [yielded_bool (d := 40) rfl (hs.dep 18 _ rfl rfl)]; rfl)
        have e6 : a.tmps.getD 6 undef = .pointer (some ⟨w5.heap.size, 0, none⟩) := hs.free 6 rfl
        exact ValWp.loadR rfl e6 (HLB.out w hC) ⟨rfl, hC, Later.refl _⟩
      · -- 21: slot 43 := Op.call { value (Operand.func 13), args := #[t41, t42], argTypes := #[40, 40] } guarded (18, 'true')
        refine fun a w hC hs => .inl ⟨?_, ?_⟩
        · exact (by unfold Region.wanted; dsimp only; rw [yielded_bool (d := 40) rfl (hs.dep 18 _ rfl rfl)]; rfl)
        have e41 : a.tmps.getD 41 undef = .agg cs.toArray := hs.dep 19 _ rfl rfl
        have e42 : a.tmps.getD 42 undef = .agg cs2.toArray := hs.dep 20 _ rfl rfl
        refine ValWp.call #[.agg cs.toArray, .agg cs2.toArray] rfl rfl Try.func13 rfl rfl (by simp only [List.map_toArray, List.map_cons, List.map_nil, Act.eval, e41, e42]) ?_
        refine (HSA.out w hC).mono ?_
        rintro e w' ⟨rfl, hl⟩
        exact ⟨_, rfl, rfl, Later.trans hC hl, hl⟩
      · -- 22: slot 44 := Op.pick t40 t43 (const (Value.bool false))
        refine fun a w hC hs => .inl ⟨?_, ?_⟩
        · rfl
        have e40 : a.tmps.getD 40 undef = .bool true := hs.dep 18 _ rfl rfl
        have e43 : a.tmps.getD 43 undef = .bool true := hs.dep 21 _ rfl rfl
        refine ValWp.pure (v := .bool true) (fun K' hK' => ?_) ⟨rfl, hC, Later.refl _⟩
        simp only [ValWp, execOp, Act.eval, e40, e43]
        go_simp
        all_goals exact hK'
      · -- 23: slot 2 := Op.assign t44
        refine fun a w hC hs => .inl ⟨?_, ?_⟩
        · rfl
        have e44 : a.tmps.getD 44 undef = .bool true := hs.dep 22 _ rfl rfl
        exact ⟨e44, hC, Later.refl _⟩
    · intro a W hC hd hsz hfree hs
      obtain ⟨u22, hu22⟩ : ∃ u, u = a.tmps.getD 22 undef := ⟨_, rfl⟩
      obtain ⟨u23, hu23⟩ : ∃ u, u = a.tmps.getD 23 undef := ⟨_, rfl⟩
      obtain ⟨u24, hu24⟩ : ∃ u, u = a.tmps.getD 24 undef := ⟨_, rfl⟩
      obtain ⟨u25, hu25⟩ : ∃ u, u = a.tmps.getD 25 undef := ⟨_, rfl⟩
      obtain ⟨u26, hu26⟩ : ∃ u, u = a.tmps.getD 26 undef := ⟨_, rfl⟩
      obtain ⟨u27, hu27⟩ : ∃ u, u = a.tmps.getD 27 undef := ⟨_, rfl⟩
      obtain ⟨u28, hu28⟩ : ∃ u, u = a.tmps.getD 28 undef := ⟨_, rfl⟩
      obtain ⟨u29, hu29⟩ : ∃ u, u = a.tmps.getD 29 undef := ⟨_, rfl⟩
      obtain ⟨u30, hu30⟩ : ∃ u, u = a.tmps.getD 30 undef := ⟨_, rfl⟩
      obtain ⟨u31, hu31⟩ : ∃ u, u = a.tmps.getD 31 undef := ⟨_, rfl⟩
      obtain ⟨u32, hu32⟩ : ∃ u, u = a.tmps.getD 32 undef := ⟨_, rfl⟩
      obtain ⟨u33, hu33⟩ : ∃ u, u = a.tmps.getD 33 undef := ⟨_, rfl⟩
      obtain ⟨u34, hu34⟩ : ∃ u, u = a.tmps.getD 34 undef := ⟨_, rfl⟩
      obtain ⟨u35, hu35⟩ : ∃ u, u = a.tmps.getD 35 undef := ⟨_, rfl⟩
      obtain ⟨u36, hu36⟩ : ∃ u, u = a.tmps.getD 36 undef := ⟨_, rfl⟩
      obtain ⟨u37, hu37⟩ : ∃ u, u = a.tmps.getD 37 undef := ⟨_, rfl⟩
      obtain ⟨u38, hu38⟩ : ∃ u, u = a.tmps.getD 38 undef := ⟨_, rfl⟩
      obtain ⟨u39, hu39⟩ : ∃ u, u = a.tmps.getD 39 undef := ⟨_, rfl⟩
      obtain ⟨u40, hu40⟩ : ∃ u, u = a.tmps.getD 40 undef := ⟨_, rfl⟩
      obtain ⟨u41, hu41⟩ : ∃ u, u = a.tmps.getD 41 undef := ⟨_, rfl⟩
      obtain ⟨u42, hu42⟩ : ∃ u, u = a.tmps.getD 42 undef := ⟨_, rfl⟩
      obtain ⟨u43, hu43⟩ : ∃ u, u = a.tmps.getD 43 undef := ⟨_, rfl⟩
      obtain ⟨u44, hu44⟩ : ∃ u, u = a.tmps.getD 44 undef := ⟨_, rfl⟩
      have hal : AllAt a 0 [_, _, .bool true, _, _, _, _, _, _, _, _, _, _, _, _, _, _, _, _, _, _, _, u22, u23, u24, u25, u26, u27, u28, u29, u30, u31, u32, u33, u34, u35, u36, u37, u38, u39, u40, u41, u42, u43, u44] := ⟨hfree 0 rfl, hfree 1 rfl, hs 23 _ rfl, hfree 3 rfl, hfree 4 rfl, hfree 5 rfl, hfree 6 rfl, hfree 7 rfl, hfree 8 rfl, hfree 9 rfl, hfree 10 rfl, hfree 11 rfl, hfree 12 rfl, hfree 13 rfl, hfree 14 rfl, hfree 15 rfl, hfree 16 rfl, hfree 17 rfl, hfree 18 rfl, hfree 19 rfl, hfree 20 rfl, hfree 21 rfl, hu22.symm, hu23.symm, hu24.symm, hu25.symm, hu26.symm, hu27.symm, hu28.symm, hu29.symm, hu30.symm, hu31.symm, hu32.symm, hu33.symm, hu34.symm, hu35.symm, hu36.symm, hu37.symm, hu38.symm, hu39.symm, hu40.symm, hu41.symm, hu42.symm, hu43.symm, hu44.symm, trivial⟩
      have hlit := fun h => act_lit hd h hal
      rw [hlit hsz]
      simp only [Array.getD_eq_getD_getElem?, List.getElem?_toArray, List.getElem?_cons_zero, List.getElem?_cons_succ, Option.getD_some]
      clear hlit hal hd hsz hfree hs hu22 hu23 hu24 hu25 hu26 hu27 hu28 hu29 hu30 hu31 hu32 hu33 hu34 hu35 hu36 hu37 hu38 hu39 hu40 hu41 hu42 hu43 hu44
      have HLL := Lib.hid (Later.trans HEND.out hC)
      clear hC
      go_wp2
      go_ret
      exact ⟨rfl, HLL.out⟩
  · rw [decide_eq_false hf] at HB
    clear h hx hf
    go_enter Try.func3, Try.ntmps3
    go_wp2_with (first
      | (refine wpList_boxO rfl 40 (.tmp 0) rfl _ rfl ?_; intro w1 hb1 hl1 hs1; obtain ⟨ha1, hld1⟩ := HB.out w1 hb1 hl1; (have HL1 := Lib.hid hl1); (have HLD := Lib.hid hld1); (have HFW := Lib.hid ha1); clear hb1 hl1 hs1 ha1 hld1)
      | (go_at_call 7; (with_reducible refine (awake_v _).mono ?_); rintro e w2 ⟨rfl, hl2⟩; (have HL2 := Lib.hid hl2); clear hl2)
      | (refine wpList_loadRun rfl 40 (.tmp 1) rfl _ _ rfl (HLD.out _ HL2.out) ?_)
      | (go_at_call 8; (with_reducible refine (HFW.out _ HL2.out).mono ?_); rintro e w3 ⟨rfl, hl3⟩; (have HL3 := Lib.hid (HL2.out.trans hl3)); clear hl3))
    go_ret
    exact ⟨rfl, HL1.out.trans HL3.out⟩
end Ks
end Go.Proofs.Yteljmlodbnfhbaa
/- Fld -/
namespace Go.Proofs.Yteljmlodbnfhbaa
open Go.RowKit Go.ChangeShapes Go.WideShapes Go.ChangeAt Go.Deep
section
variable {H : Type} {enc : TypeId × Value → H} {P : Program} {w : World} {base : Nat} {spare : Nat → Bool} {held : Bool}
theorem open_fields {r : Reach} {b0 : Nat} {t : TypeId} {fs : Array Field} {v : Value} {d : DataW H} {p : List MemPlace} (hs : P.underlying t = some (.struct fs)) (hone : oneCellFields P fs = true) (hC : P.cellsOf t = fs.size)
    (hv : Value.okWide P w r b0 t v) (h : DataW.Trod enc P w base spare held t v d p) :
    ∃ cs : Array Value, v = .agg cs ∧ cs.size = fs.size ∧ ∃ fuel, ∀ (i : Nat) (f : Field) (u : Value), fs[i]? = some f → cs[i]? = some u → ∃ y, DataW.trod enc P w base spare held fuel f.type [u] = some y := by
  obtain ⟨cs, rfl, hsz⟩ := okWide_struct hs hv
  obtain ⟨fuel, hf⟩ := h
  obtain ⟨xs, n, _, _, _, hxl, hat⟩ := DataW.trod_struct hs hf
  rw [hC] at hsz
  refine ⟨cs, rfl, hsz, n, fun i f u hi hu => ?_⟩
  obtain ⟨ho, hk⟩ := hone_of hone i f hi
  have h1 := hat i f hi
  rw [ho, hk] at h1
  have hil : i < cs.toList.length := by have := (Array.getElem?_eq_some_iff.1 hu).1; simpa using this
  have hu' : cs.toList[i]'hil = u := by
    have := (Array.getElem?_eq_some_iff.1 hu).2
    simpa using this
  have e : ((Value.agg cs).cells.toList.drop i).take 1 = [u] := by
    show (cs.toList.drop i).take 1 = [u]
    rw [List.drop_eq_getElem_cons hil, List.take_succ_cons, List.take_zero, hu']
  have hix : i < xs.length := by rw [hxl]; exact (Array.getElem?_eq_some_iff.1 hi).1
  exact ⟨_, (by rw [← e]; exact h1.trans (List.getElem?_eq_getElem hix))⟩
theorem field_int {t : TypeId} {k : IntKind} {u : Value} {fuel : Nat} {y : DataW H × List MemPlace} (ht : P.underlying t = some (.int k)) (h : DataW.trod enc P w base spare held fuel t [u] = some y) : ∃ n, u = .int k n ∧ (Lit.int k n).wf = true := by
  obtain ⟨n, h1, _, h3⟩ := DataW.trod_int ht h
  exact ⟨n, by simpa using h1, h3⟩
theorem field_string {t : TypeId} {u : Value} {fuel : Nat} {y : DataW H × List MemPlace} (ht : P.underlying t = some .string) (h : DataW.trod enc P w base spare held fuel t [u] = some y) : ∃ s : ByteArray, u = .string s ∧ s.size ≤ maxLen := by
  obtain ⟨s, h1, _, h3⟩ := DataW.trod_string ht h
  exact ⟨s, by simpa using h1, h3⟩
theorem field_strings {t e : TypeId} {u : Value} {fuel : Nat} {y : DataW H × List MemPlace} (ht : P.underlying t = some (.slice e)) (he : P.underlying e = some .string) (hc : P.cellsOf e = 1) (h : DataW.trod enc P w base spare held fuel t [u] = some y) :
    ∃ (A : Option Addr) (n c : Nat) (l : List ByteArray), u = .slice A n c ∧ Rd w w.heap.size A n (l.map Value.string) ∧ (∀ s ∈ l, s.size ≤ maxLen) ∧ n ≤ c ∧ c ≤ maxLen := by
  have hu : ∃ A n c, u = .slice A n c := by
    rcases DataW.trod_slice ht h with ⟨h1, _⟩ | ⟨a, len, cap, _, _, _, _, h1, _⟩
    · exact ⟨none, 0, 0, by simpa using h1⟩
    · exact ⟨some a, len, cap, by simpa using h1⟩
  obtain ⟨A, n, c, rfl⟩ := hu
  obtain ⟨l, h1, h2, h3, h4⟩ := rd_strings (enc := enc) (d := y.1) (p := y.2) ht he hc ⟨fuel, h⟩
  exact ⟨A, n, c, l, rfl, h1, h2, h3, h4⟩
end
theorem array_5 {cs : Array Value} (h : cs.size = 5) : ∃ a b c d e, cs = #[a, b, c, d, e] := by
  obtain ⟨l⟩ := cs
  match l, h with
  | [a, b, c, d, e], _ => exact ⟨a, b, c, d, e, rfl⟩
theorem array_7 {cs : Array Value} (h : cs.size = 7) : ∃ a b c d e f g, cs = #[a, b, c, d, e, f, g] := by
  obtain ⟨l⟩ := cs
  match l, h with
  | [a, b, c, d, e, f, g], _ => exact ⟨a, b, c, d, e, f, g, rfl⟩
end Go.Proofs.Yteljmlodbnfhbaa
/- Ktk -/
namespace Go.Proofs.Yteljmlodbnfhbaa
open Go.RowKit Go.ChangeShapes Go.WideShapes Go.ChangeAt
namespace Ks
def r8 : Rp UInt8 where
  wd := 1
  C _ _ cs x := cs = [bv x]
  len h := by rw [h]; rfl
  keep h _ := h
  more h _ := h
def get8 : B → Except Nat (UInt8 × B)
  | [] => .error 10
  | x :: r => .ok (x, r)
def c8 : Cd UInt8 where
  put x := [x]
  get := get8
  ok _ := True
  back := by intro a r _; rfl
  own := by
    intro b r a h
    cases b with
    | nil => cases h
    | cons x t => cases h; exact ⟨rfl, trivial⟩
  cut := by
    intro a m _ hm
    have : m = 0 := by simpa using hm
    subst this
    rfl
  errs := by
    intro b e h
    cases b with
    | nil => cases h; exact .inl rfl
    | cons x t => cases h
section
variable {H : Type} {enc : TypeId × Value → H} {w : World} {base : Nat} {spare : Nat → Bool} {held : Bool} {P : Program}
theorem takes_u8 {t : TypeId} (ht : P.underlying t = some (.int .u8)) (hc : P.cellsOf t = 1) : Takes P t r8 c8 := by
  refine ⟨hc, fun h => ?_⟩
  obtain ⟨n, rfl, rfl, hw⟩ := DataW.trod_int ht h
  have hw2 := bounds_u8 hw
  obtain ⟨k, rfl⟩ := Int.eq_ofNat_of_zero_le hw2.1
  refine ⟨UInt8.ofNat k, ?_, by show ([_] : B).length ≤ _; simp [Rows.uptoBulk]⟩
  show _ = [bv (UInt8.ofNat k)]
  have hk : ((UInt8.ofNat k).toNat : Int) = (k : Int) := by
    rw [UInt8.toNat_ofNat']
    omega
  unfold bv
  rw [hk]
theorem rd_state {cs : Array Value} {d : DataW H} {p : List MemPlace} (h : DataW.Trod enc Try.prog w base spare held 40 (.agg cs) d p) : ∃ a, stR.C w w.heap.size cs.toList a ∧ (stC.put a).length ≤ 10 * Rows.uptoBulk d := by
  obtain ⟨fuel, hf⟩ := h
  obtain ⟨a, h1, h2⟩ := tk_state.2 hf
  exact ⟨a, by simpa [Value.cells] using h1, h2⟩
theorem flat8 : ∀ (xs : List (List Value)) (l : B), xs.length = l.length → (∀ (k : Nat) (x : List Value) (a : UInt8), xs[k]? = some x → l[k]? = some a → x = [bv a]) → xs.flatten = l.map bv
  | [], [], _, _ => rfl
  | [], _ :: _, h, _ => by simp at h
  | _ :: _, [], h, _ => by simp at h
  | x :: xs, a :: l, h, hk => by
    rw [List.flatten_cons, flat8 xs l (by simpa using h) (fun k y b hy hb => hk (k + 1) y b (by simpa using hy) (by simpa using hb)), hk 0 x a rfl rfl]
    rfl
theorem many8 : ∀ l : B, (manyP c8 l).length = l.length
  | [] => rfl
  | a :: l => by rw [manyP_cons, List.length_append, many8 l, List.length_cons]; show 1 + _ = _; omega
theorem rd_bytes_upto {a : Option Addr} {len cap : Nat} {d : DataW H} {p : List MemPlace} (h : DataW.Trod enc Try.prog w base spare held 43 (.slice a len cap) d p) : ∃ bs : List UInt8, Rd w w.heap.size a len (bs.map bv) ∧ len ≤ cap ∧ cap ≤ maxLen ∧ len ≤ 10 * Rows.uptoBulk d := by
  obtain ⟨fuel, hf⟩ := h
  have ht : Takes Try.prog 43 (rrow r8) (Ks.row c8) := takes_row Try.underlying43 (by kernel_rfl) (by decide) (takes_u8 Try.underlying5 (by kernel_rfl))
  obtain ⟨l, h1, h2⟩ := ht.2 hf
  obtain ⟨A, c, hc, h3, h4, xs, hx1, hx2, hx3⟩ := h1
  simp [Value.cells] at hc
  obtain ⟨rfl, rfl, rfl⟩ := hc
  have e : xs.flatten = l.map bv := flat8 xs l hx1 fun k x a hx ha => hx3 k x a hx ha
  rw [e] at hx2
  refine ⟨l, by simpa [r8] using hx2, h3, h4, ?_⟩
  have h5 : ((Ks.row c8).put l).length = (numP l.length).length + (manyP c8 l).length := List.length_append
  have h6 := many8 l
  have h7 : ((Ks.row c8).put l).length ≤ 10 * Rows.uptoBulk d := h2
  omega
end
end Ks
end Go.Proofs.Yteljmlodbnfhbaa
/- Kpk -/
namespace Go.Proofs.Yteljmlodbnfhbaa
open Go.RowKit Go.ChangeShapes Go.WideShapes
namespace statePacks
theorem walk (W : World) (s : Ks.St) (cs : Array Value) (h : Ks.stR.C W W.heap.size cs.toList s) (hx : (Ks.stC.put s).length ≤ 10 * 1048576) :
    Calls Try.prog 3 #[.agg cs] W fun e W' => e = .returned (.bool true) ∧ Below W.heap.size W W' :=
  Ks.packs_law s cs.toList W h (by omega)
end statePacks
end Go.Proofs.Yteljmlodbnfhbaa
