/- A statement of open order in which several operations write: what the world is like goes by which of them are done, and by what one slot holds. All others leave it as it is. No premises. -/
import Derived.Test.YtjidclefpmcgoaaDoorSof7
namespace Go.Proofs.YtjidclefpmcgoaaDoor
open Go.RowKit
section
variable {P : Program} {ops : Array Oper} {Q : Exit → Act → World → Prop} {a0 : Act} {C : List Bool → Value → World → Prop} {R : Nat → Value → World → Prop}
theorem put_at (a : Act) (d : Option Tmp) (v : Value) (t0 : Tmp) (h : ∀ t, d = some t → t < a.tmps.size) : (a.put d v).tmps.getD t0 undef = if d = some t0 then v else a.tmps.getD t0 undef := by
  by_cases e : d = some t0
  · rw [if_pos e]
    have h9 := slot_put_same (a := a) (d := d) (v := v) h
    rw [e] at h9 ⊢
    simpa [slotOf] using h9
  · rw [if_neg e]
    exact slot_put_other (a := a) (d := d) (e := some t0) (v := v) (fun t' ht' e2 => e (by rw [ht', e2]))
def OwesU (P : Program) (ops : Array Oper) (Q : Exit → Act → World → Prop) (C : List Bool → Value → World → Prop) (ps : List Nat) (t0 : Tmp) (R : Nat → Value → World → Prop) (a0 : Act) (i : Nat) (o : Oper) : Prop :=
  ∀ (a : Act) (w : World) (bits : List Bool), C bits (a.tmps.getD t0 undef) w → (∀ (k p : Nat), ps[k]? = some p → depOn ops i p = true → bits[k]? = some true) → (∀ (k p : Nat), ps[k]? = some p → (p = i ∨ depOn ops p i = true) → bits[k]? = some false) → Sees ops a0 R o a w →
    Region.wanted o (yielded ops a.tmps) = true ∧ ∀ K : Act → World → Prop, (∀ v w', R i (if o.dst.isSome then v else undef) w' → C (setAt ps i bits) (if o.dst = some t0 then v else a.tmps.getD t0 undef) w' → K (a.put o.dst v) w') → Oper.wp P o a w K Q
theorem OwesU.q {ps : List Nat} {t0 : Tmp} {i : Nat} {o : Oper} (hi : idx ps i = none) (hd0 : o.dst ≠ some t0) (h : ∀ (a : Act) (w : World) (bits : List Bool) (u : Value), C bits u w → Sees ops a0 R o a w →
    Region.wanted o (yielded ops a.tmps) = true ∧ ValWp P o a.eval w fun v w' => R i (if o.dst.isSome then v else undef) w' ∧ w' = w) : OwesU P ops Q C ps t0 R a0 i o := fun a w bits hC _ _ hs => by
  obtain ⟨h1, h2⟩ := h a w bits _ hC hs
  refine ⟨h1, fun K hK => wp_of_val (h2.mono fun v w' hk => hK v w' hk.1 ?_)⟩
  obtain ⟨_, rfl⟩ := hk
  unfold setAt
  rw [hi, if_neg hd0]
  exact hC
def OwesAllU (P : Program) (ops : Array Oper) (Q : Exit → Act → World → Prop) (C : List Bool → Value → World → Prop) (ps : List Nat) (t0 : Tmp) (R : Nat → Value → World → Prop) (a0 : Act) : Nat → List Oper → Prop
  | _, [] => True
  | n, o :: l => OwesU P ops Q C ps t0 R a0 n o ∧ OwesAllU P ops Q C ps t0 R a0 (n + 1) l
theorem owesAllU_at {ps : List Nat} {t0 : Tmp} : ∀ (l : List Oper) (n i : Nat) (o : Oper), OwesAllU P ops Q C ps t0 R a0 n l → l[i]? = some o → OwesU P ops Q C ps t0 R a0 (n + i) o
  | [], _, i, o, _, h => by simp at h
  | x :: l, n, 0, o, h, ho => by simp at ho; subst ho; exact h.1
  | x :: l, n, i + 1, o, h, ho => by
    have := owesAllU_at l (n + 1) i o h.2 (by simpa using ho)
    rwa [show n + 1 + i = n + (i + 1) by omega] at this
structure PhaseU (ops : Array Oper) (ps : List Nat) (t0 : Tmp) (C : List Bool → Value → World → Prop) (listed : Array Bool) (a : Act) (w : World) : Prop where
  c : C (ps.map fun p => listed.getD p false) (a.tmps.getD t0 undef) w
  dep : ∀ p, listed.getD p false = true → ∀ i, depOn ops p i = true → listed.getD i false = true
/-- The region. -/
theorem wp_region_slot {id : Nat} {w : World} {l : List Oper} (hm : P.follows .mixedOrders = true) (ps : List Nat) (t0 : Tmp) (C : List Bool → Value → World → Prop) (rv : List (Option Value)) (hps : ∀ p ∈ ps, p < l.length) (hnd : ps.Nodup) (hok : softB l.toArray a0.tmps.size = true)
    (hC : C (ps.map fun _ => false) (a0.tmps.getD t0 undef) w.drew) (hstep : OwesAllU P l.toArray Q C ps t0 (RV rv) a0 0 l)
    (hQ : ∀ a w, C (ps.map fun _ => true) (a.tmps.getD t0 undef) w → a.defers = a0.defers → a.tmps.size = a0.tmps.size → (∀ t, freeTmp l.toArray t = true → a.tmps.getD t undef = a0.tmps.getD t undef) → (∀ (i : Nat) o, l[i]? = some o → RV rv i (slotOf o.dst a) w) → Q .normal a w) :
    (Code.region id l.toArray true).wp P Q a0 w := by
  have hmono : ∀ i v w w', (fun _ _ => True : World → World → Prop) w w' → RV rv i v w → RV rv i v w' := fun i v w w' _ h => h
  have hso := SoftOk.of hok
  refine wp_region_any hm (wpAny_softA (C := fun listed a w => PhaseU l.toArray ps t0 C listed a w) (R := RV rv) (G := fun _ _ => True) hso hmono (fun i o ho listed a w hsz hun hdeps hc hsize hsee K hK => ?_)
    (fun listed a w hall hc h => ?_) l.toArray.size (Array.replicate l.toArray.size false) a0 w.drew ?_ ?_ ⟨by simp, rfl, rfl, fun _ _ => rfl, fun i o ho hl => ?_⟩)
  · have hil : i < listed.size := by rw [hsz]; exact (Array.getElem?_eq_some_iff.1 ho).1
    have hf : listed.getD i false = false := by simp [hil] at hun ⊢; exact hun
    have hw := owesAllU_at l 0 i o hstep (by simpa using ho)
    rw [Nat.zero_add] at hw
    have hdl := fun d hd => deps_listed ho hdeps d hd
    obtain ⟨hw1, hw2⟩ := hw a w _ hc.c (fun k p hk hd => by rw [List.getElem?_map, hk]; simp only [Option.map_some]; rw [hdl p hd]) (fun k p hk hd => by
      rw [List.getElem?_map, hk]
      simp only [Option.map_some]
      rcases hd with rfl | hd
      · rw [hf]
      · cases e : listed.getD p false with
        | false => rfl
        | true => rw [hc.dep p e i hd] at hf; cases hf) hsee
    rw [if_pos hw1]
    refine hw2 K fun v w' hR hC' => hK v w' hR ⟨by rw [bits_set hnd hil, put_at a o.dst v t0 (fun t' ht' => by rw [hsize]; exact hso.inn i o t' ho ht')]; exact hC', fun p hp d hd => ?_⟩ trivial
    by_cases hpi : i = p
    · subst hpi
      exact listed_more hil (hdl d hd)
    · rw [getD_set_ne hpi] at hp
      exact listed_more hil (hc.dep p hp d hd)
  · refine hQ a w ?_ h.defers h.size (fun t ht => h.outer t fun j oj' hj _ hd => ?_) fun i o ho => h.inner i o (by simpa using ho) (by have := (List.getElem?_eq_some_iff.1 ho).1; simp [this])
    · have := hc.c
      rwa [List.map_congr_left (g := fun _ => true) fun p hp => hall p (by simpa using hps p hp)] at this
    unfold freeTmp at ht
    rw [List.all_eq_true] at ht
    have := ht oj' (Array.mem_toList_iff.2 (Array.mem_of_getElem? hj))
    simp [hd] at this
  · unfold open_; exact Nat.le_trans List.countP_le_length (by simp)
  · have hz : ∀ p : Nat, (Array.replicate l.toArray.size false).getD p false = false := fun p => by by_cases hp : p < l.length <;> simp [hp]
    refine ⟨?_, fun p hp => by rw [hz] at hp; cases hp⟩
    rwa [List.map_congr_left (g := fun _ => false) fun p _ => hz p]
  · exfalso
    have hi := (Array.getElem?_eq_some_iff.1 ho).1
    rw [List.size_toArray] at hi
    simp [hi] at hl
end
end Go.Proofs.YtjidclefpmcgoaaDoor
