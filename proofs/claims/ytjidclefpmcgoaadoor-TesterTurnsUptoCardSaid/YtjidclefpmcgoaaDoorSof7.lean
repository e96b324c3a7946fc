/- A statement of open order in which several operations write: what the world is like goes by which of them are done. All others leave it as it is. No premises. -/
import Derived.Test.YtjidclefpmcgoaaDoorSof6
namespace Go.Proofs.YtjidclefpmcgoaaDoor
open Go.RowKit
section
variable {P : Program} {ops : Array Oper} {Q : Exit → Act → World → Prop} {a0 : Act} {C : List Bool → World → Prop} {R : Nat → Value → World → Prop}
def setAt (ps : List Nat) (i : Nat) (bits : List Bool) : List Bool := match idx ps i with
  | some k => bits.set k true
  | none => bits
def OwesB (P : Program) (ops : Array Oper) (Q : Exit → Act → World → Prop) (C : List Bool → World → Prop) (ps : List Nat) (R : Nat → Value → World → Prop) (a0 : Act) (i : Nat) (o : Oper) : Prop :=
  ∀ (a : Act) (w : World) (bits : List Bool), C bits w → (∀ (k p : Nat), ps[k]? = some p → depOn ops i p = true → bits[k]? = some true) → (∀ (k p : Nat), ps[k]? = some p → (p = i ∨ depOn ops p i = true) → bits[k]? = some false) → Sees ops a0 R o a w →
    Region.wanted o (yielded ops a.tmps) = true ∧ ∀ K : Act → World → Prop, (∀ v w', R i (if o.dst.isSome then v else undef) w' → C (setAt ps i bits) w' → K (a.put o.dst v) w') → Oper.wp P o a w K Q
theorem OwesB.q {ps : List Nat} {i : Nat} {o : Oper} (hi : idx ps i = none) (h : ∀ (a : Act) (w : World) (bits : List Bool), C bits w → (∀ (k p : Nat), ps[k]? = some p → depOn ops i p = true → bits[k]? = some true) → (∀ (k p : Nat), ps[k]? = some p → (p = i ∨ depOn ops p i = true) → bits[k]? = some false) → Sees ops a0 R o a w →
    Region.wanted o (yielded ops a.tmps) = true ∧ ValWp P o a.eval w fun v w' => R i (if o.dst.isSome then v else undef) w' ∧ w' = w) : OwesB P ops Q C ps R a0 i o := fun a w bits hC hd hu hs => by
  obtain ⟨h1, h2⟩ := h a w bits hC hd hu hs
  refine ⟨h1, fun K hK => wp_of_val (h2.mono fun v w' hk => hK v w' hk.1 ?_)⟩
  obtain ⟨_, rfl⟩ := hk
  unfold setAt
  rw [hi]
  exact hC
def OwesAllB (P : Program) (ops : Array Oper) (Q : Exit → Act → World → Prop) (C : List Bool → World → Prop) (ps : List Nat) (R : Nat → Value → World → Prop) (a0 : Act) : Nat → List Oper → Prop
  | _, [] => True
  | n, o :: l => OwesB P ops Q C ps R a0 n o ∧ OwesAllB P ops Q C ps R a0 (n + 1) l
theorem owesAllB_at {ps : List Nat} : ∀ (l : List Oper) (n i : Nat) (o : Oper), OwesAllB P ops Q C ps R a0 n l → l[i]? = some o → OwesB P ops Q C ps R a0 (n + i) o
  | [], _, i, o, _, h => by simp at h
  | x :: l, n, 0, o, h, ho => by simp at ho; subst ho; exact h.1
  | x :: l, n, i + 1, o, h, ho => by
    have := owesAllB_at l (n + 1) i o h.2 (by simpa using ho)
    rwa [show n + 1 + i = n + (i + 1) by omega] at this
structure PhaseB (ops : Array Oper) (ps : List Nat) (C : List Bool → World → Prop) (listed : Array Bool) (w : World) : Prop where
  c : C (ps.map fun p => listed.getD p false) w
  dep : ∀ p, listed.getD p false = true → ∀ i, depOn ops p i = true → listed.getD i false = true
theorem bits_set {ps : List Nat} (hnd : ps.Nodup) {listed : Array Bool} {i : Nat} (hi : i < listed.size) : (ps.map fun p => (listed.setIfInBounds i true).getD p false) = setAt ps i (ps.map fun p => listed.getD p false) := by
  unfold setAt
  cases e : idx ps i with
  | none =>
    refine List.map_congr_left fun p hp => ?_
    obtain ⟨k, hk⟩ := List.mem_iff_getElem?.1 hp
    exact getD_set_ne fun e2 => idx_none e k (by rw [hk, e2])
  | some k =>
    have h1 := idx_some e
    have hk := (List.getElem?_eq_some_iff.1 h1).1
    refine List.ext_getElem? fun j => ?_
    by_cases hj : j = k
    · subst hj
      rw [List.getElem?_map, h1, List.getElem?_set_self (by simpa using hk)]
      simp only [Option.map_some]
      rw [getD_set_same hi]
    · rw [List.getElem?_set_ne (fun e2 => hj e2.symm), List.getElem?_map, List.getElem?_map]
      cases e3 : ps[j]? with
      | none => rfl
      | some p =>
        simp only [Option.map_some]
        rw [getD_set_ne fun e2 => hj (nodup_at hnd e3 (by rw [← e2]; exact h1))]
/-- The region. -/
theorem wp_region_bits {id : Nat} {w : World} {l : List Oper} (hm : P.follows .mixedOrders = true) (ps : List Nat) (C : List Bool → World → Prop) (rv : List (Option Value)) (hps : ∀ p ∈ ps, p < l.length) (hnd : ps.Nodup) (hok : softB l.toArray a0.tmps.size = true)
    (hC : C (ps.map fun _ => false) w.drew) (hstep : OwesAllB P l.toArray Q C ps (RV rv) a0 0 l)
    (hQ : ∀ a w, C (ps.map fun _ => true) w → a.defers = a0.defers → a.tmps.size = a0.tmps.size → (∀ t, freeTmp l.toArray t = true → a.tmps.getD t undef = a0.tmps.getD t undef) → (∀ (i : Nat) o, l[i]? = some o → RV rv i (slotOf o.dst a) w) → Q .normal a w) :
    (Code.region id l.toArray true).wp P Q a0 w := by
  have hmono : ∀ i v w w', (fun _ _ => True : World → World → Prop) w w' → RV rv i v w → RV rv i v w' := fun i v w w' _ h => h
  have hso := SoftOk.of hok
  refine wp_region_any hm (wpAny_softA (C := fun listed _ w => PhaseB l.toArray ps C listed w) (R := RV rv) (G := fun _ _ => True) hso hmono (fun i o ho listed a w hsz hun hdeps hc hsize hsee K hK => ?_)
    (fun listed a w hall hc h => ?_) l.toArray.size (Array.replicate l.toArray.size false) a0 w.drew ?_ ?_ ⟨by simp, rfl, rfl, fun _ _ => rfl, fun i o ho hl => ?_⟩)
  · have hil : i < listed.size := by rw [hsz]; exact (Array.getElem?_eq_some_iff.1 ho).1
    have hf : listed.getD i false = false := by simp [hil] at hun ⊢; exact hun
    have hw := owesAllB_at l 0 i o hstep (by simpa using ho)
    rw [Nat.zero_add] at hw
    have hdl := fun d hd => deps_listed ho hdeps d hd
    obtain ⟨hw1, hw2⟩ := hw a w _ hc.c (fun k p hk hd => by rw [List.getElem?_map, hk]; simp only [Option.map_some]; rw [hdl p hd]) (fun k p hk hd => by
      rw [List.getElem?_map, hk]
      simp only [Option.map_some]
      rcases hd with rfl | hd
      · rw [hf]
      · cases e : listed.getD p false with
        | false => rfl
        | true => rw [hc.dep p e i hd] at hf; cases hf) hsee
    rw [if_pos hw1]
    refine hw2 K fun v w' hR hC' => hK v w' hR ⟨by rw [bits_set hnd hil]; exact hC', fun p hp d hd => ?_⟩ trivial
    by_cases hpi : i = p
    · subst hpi
      exact listed_more hil (hdl d hd)
    · rw [getD_set_ne hpi] at hp
      exact listed_more hil (hc.dep p hp d hd)
  · refine hQ a w ?_ h.defers h.size (fun t ht => h.outer t fun j oj' hj _ hd => ?_) fun i o ho => h.inner i o (by simpa using ho) (by have := (List.getElem?_eq_some_iff.1 ho).1; simp [this])
    · have := hc.c
      rwa [List.map_congr_left (g := fun _ => true) fun p hp => hall p (by simpa using hps p hp)] at this
    unfold freeTmp at ht
    rw [List.all_eq_true] at ht
    have := ht oj' (Array.mem_toList_iff.2 (Array.mem_of_getElem? hj))
    simp [hd] at this
  · unfold open_; exact Nat.le_trans List.countP_le_length (by simp)
  · have hz : ∀ p : Nat, (Array.replicate l.toArray.size false).getD p false = false := fun p => by by_cases hp : p < l.length <;> simp [hp]
    refine ⟨?_, fun p hp => by rw [hz] at hp; cases hp⟩
    rwa [List.map_congr_left (g := fun _ => false) fun p _ => hz p]
  · exfalso
    have hi := (Array.getElem?_eq_some_iff.1 ho).1
    rw [List.size_toArray] at hi
    simp [hi] at hl
end
end Go.Proofs.YtjidclefpmcgoaaDoor
