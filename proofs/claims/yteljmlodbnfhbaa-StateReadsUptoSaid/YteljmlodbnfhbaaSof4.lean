/- A statement of open order in which two operations write what was there: number p, and behind it number q, that waits for p: before p the world is as C0 says, between them as C1 says, behind q as C2 says; p may end the statement (a panic). All others only read, or make memory. No premises. -/
import Derived.Test.YteljmlodbnfhbaaSof3
namespace Go.Proofs.Yteljmlodbnfhbaa
open Go.RowKit
section
variable {P : Program} {ops : Array Oper} {Q : Exit → Act → World → Prop} {G : World → World → Prop} {R : Nat → Value → World → Prop} {a0 : Act}
theorem wpAny_softA {C : Array Bool → Act → World → Prop} (hok : SoftOk ops a0.tmps.size) (hmono : ∀ i v w w', G w w' → R i v w → R i v w')
    (hstep : ∀ (i : Nat) o, ops[i]? = some o → ∀ (listed : Array Bool) (a : Act) (w : World), listed.size = ops.size → listed.getD i true = false → (∀ e ∈ o.after, Region.binds .any e = true → listed.getD e.on false = true) → C listed a w → a.tmps.size = a0.tmps.size → Sees ops a0 R o a w → ∀ K : Act → World → Prop,
      (∀ v w', R i (if o.dst.isSome then v else undef) w' → C (listed.setIfInBounds i true) (a.put o.dst v) w' → G w w' → K (a.put o.dst v) w') →
      if Region.wanted o (yielded ops a.tmps) = true then Oper.wp P o a w K Q else K (a.put o.dst undef) w)
    (hQ : ∀ (listed : Array Bool) a w, (∀ i, i < ops.size → listed.getD i false = true) → C listed a w → Fits ops a0 R (Array.replicate ops.size true) a w → Q .normal a w) :
    ∀ (fuel : Nat) (listed : Array Bool) (a : Act) (w : World), open_ listed ≤ fuel → C listed a w → Fits ops a0 R listed a w → wpAny P .any ops Q fuel listed a w := by
  have hend : ∀ (listed : Array Bool) (a : Act) (w : World), C listed a w → Fits ops a0 R listed a w → Region.ready .any ops listed = [] → Q .normal a w := by
    intro listed a w hC h hr
    have hall := ready_nil h.lsize hok hr
    refine hQ listed a w hall hC ⟨by simp, h.defers, h.size, fun t ht => h.outer t fun i o ho hl => ht i o ho (by have := (Array.getElem?_eq_some_iff.1 ho).1; simp [this]), fun i o ho _ => h.inner i o ho (hall i (Array.getElem?_eq_some_iff.1 ho).1)⟩
  intro fuel
  induction fuel with
  | zero =>
    intro listed a w hf hC h
    have hz := open_zero (Nat.le_zero.1 hf)
    have hr : Region.ready .any ops listed = [] := by
      rw [List.eq_nil_iff_forall_not_mem]
      intro i hi
      have := (mem_ready.1 hi).1
      rw [hz i] at this
      cases this
    exact ⟨hr, hend listed a w hC h hr⟩
  | succ fuel ih =>
    intro listed a w hf hC h
    refine ⟨hend listed a w hC h, fun i hi => ?_⟩
    obtain ⟨hun, o, ho, hdeps⟩ := mem_ready.1 hi
    have hin : i < listed.size := by rw [h.lsize]; exact (Array.getElem?_eq_some_iff.1 ho).1
    have hst := hstep i o ho listed a w h.lsize hun hdeps hC h.size (h.sees hi ho) (wpAny P .any ops Q fuel (listed.setIfInBounds i true)) fun v w' hR hC' hG =>
      ih _ _ _ (by have := open_set hin hun; omega) hC' (h.step (C := fun _ => True) hok (fun i v w w' _ => hmono i v w w') ho trivial hG hR)
    unfold wpOp
    rw [ho]
    dsimp only
    split
    · rename_i hw; rw [if_pos hw] at hst; exact .inl hst
    · rename_i hw; rw [if_neg hw] at hst; exact hst
/-- What operation number i owes. -/
def OwesT (P : Program) (ops : Array Oper) (Q : Exit → Act → World → Prop) (C0 : World → Prop) (C1 : Value → World → Prop) (C2 : World → Prop) (G : World → World → Prop) (p q : Nat) (R : Nat → Value → World → Prop) (a0 : Act) (i : Nat) (o : Oper) : Prop :=
  if i = p then ∀ (a : Act) (w : World), C0 w → Sees ops a0 R o a w →
    (Region.wanted o (yielded ops a.tmps) = true ∧ ∀ K : Act → World → Prop, (∀ v w', R i v w' → C1 v w' → G w w' → K (a.put o.dst v) w') → Oper.wp P o a w K Q)
  else if i = q then ∀ (a : Act) (w : World) (u : Value), C1 u w → ((ops[p]?).bind (·.dst)).elim True (fun t => a.tmps.getD t undef = u) → Sees ops a0 R o a w →
    (Region.wanted o (yielded ops a.tmps) = true ∧ ValWp P o a.eval w fun v w' => R i (if o.dst.isSome then v else undef) w' ∧ C2 w' ∧ G w w')
  else ∀ (a : Act) (w : World), (depOn ops p i = true → C0 w) → (C0 w ∨ (∃ u, C1 u w) ∨ C2 w) → Sees ops a0 R o a w →
    (Region.wanted o (yielded ops a.tmps) = true ∧ ValWp P o a.eval w fun v w' => R i (if o.dst.isSome then v else undef) w' ∧ (C0 w' ∨ (∃ u, C1 u w') ∨ C2 w') ∧ Later w w')
def OwesAllT (P : Program) (ops : Array Oper) (Q : Exit → Act → World → Prop) (C0 : World → Prop) (C1 : Value → World → Prop) (C2 : World → Prop) (G : World → World → Prop) (p q : Nat) (R : Nat → Value → World → Prop) (a0 : Act) : Nat → List Oper → Prop
  | _, [] => True
  | n, o :: l => OwesT P ops Q C0 C1 C2 G p q R a0 n o ∧ OwesAllT P ops Q C0 C1 C2 G p q R a0 (n + 1) l
theorem owesAllT_at {C0 C2 : World → Prop} {C1 : Value → World → Prop} {p q : Nat} : ∀ (l : List Oper) (n i : Nat) (o : Oper), OwesAllT P ops Q C0 C1 C2 G p q R a0 n l → l[i]? = some o → OwesT P ops Q C0 C1 C2 G p q R a0 (n + i) o
  | [], _, i, o, _, h => by simp at h
  | x :: l, n, 0, o, h, ho => by simp at ho; subst ho; exact h.1
  | x :: l, n, i + 1, o, h, ho => by
    have := owesAllT_at l (n + 1) i o h.2 (by simpa using ho)
    rwa [show n + 1 + i = n + (i + 1) by omega] at this
/-- Those that i waits for have come up. -/
theorem deps_listed {i : Nat} {o : Oper} {listed : Array Bool} (ho : ops[i]? = some o) (hdeps : ∀ e ∈ o.after, Region.binds .any e = true → listed.getD e.on false = true) (j : Nat) (hj : depOn ops i j = true) : listed.getD j false = true := by
  unfold depOn at hj
  rw [ho] at hj
  obtain ⟨e, he, hb⟩ := List.any_eq_true.1 hj
  simp only [Bool.and_eq_true, beq_iff_eq] at hb
  rw [← hb.1]
  exact hdeps e (by simpa using he) hb.2
theorem listed_more {i j : Nat} {listed : Array Bool} (hi : i < listed.size) (h : listed.getD j false = true) : (listed.setIfInBounds i true).getD j false = true := by
  by_cases hji : i = j
  · subst hji; exact getD_set_same hi
  · rw [getD_set_ne hji]; exact h
/-- How far the two writers are. -/
def Phase (ops : Array Oper) (p q : Nat) (C0 : World → Prop) (C1 : Value → World → Prop) (C2 : World → Prop) (listed : Array Bool) (a : Act) (w : World) : Prop :=
  (listed.getD p false = false ∧ listed.getD q false = false ∧ C0 w) ∨
  (listed.getD p false = true ∧ listed.getD q false = false ∧ (∃ u, C1 u w ∧ ((ops[p]?).bind (·.dst)).elim True fun t => a.tmps.getD t undef = u) ∧ ∀ i, depOn ops p i = true → listed.getD i false = true) ∨
  (listed.getD p false = true ∧ listed.getD q false = true ∧ C2 w ∧ ∀ i, depOn ops p i = true → listed.getD i false = true)
/-- The region. -/
theorem wp_region_two {id : Nat} {w : World} {l : List Oper} (hm : P.follows .mixedOrders = true) (p q : Nat) (C0 : World → Prop) (C1 : Value → World → Prop) (C2 : World → Prop) (G : World → World → Prop) (sp : List (Sp G)) (hp : p < l.length) (hq : q < l.length) (hpq : p ≠ q) (hdq : depOn l.toArray q p = true) (hpd : ((l.toArray[p]?).bind (·.dst)).isSome = true) (hok : softB l.toArray a0.tmps.size = true)
    (hC : C0 w.drew) (h0 : ∀ w w', C0 w → Later w w' → C0 w') (h1 : ∀ u w w', C1 u w → Later w w' → C1 u w') (h2 : ∀ w w', C2 w → Later w w' → C2 w') (hL : ∀ w w', Later w w' → G w w')
    (hstep : OwesAllT P l.toArray Q C0 C1 C2 G p q (spAt sp) a0 0 l)
    (hQ : ∀ a w, C2 w → a.defers = a0.defers → a.tmps.size = a0.tmps.size → (∀ t, freeTmp l.toArray t = true → a.tmps.getD t undef = a0.tmps.getD t undef) → (∀ (i : Nat) o, l[i]? = some o → spAt sp i (slotOf o.dst a) w) → Q .normal a w) :
    (Code.region id l.toArray true).wp P Q a0 w := by
  have hmono : ∀ i v w w', G w w' → spAt sp i v w → spAt sp i v w' := fun i v w w' hg h => (sp.getD i Sp.any).lasts v w w' hg h
  have hso := SoftOk.of hok
  refine wp_region_any hm (wpAny_softA (C := Phase l.toArray p q C0 C1 C2) (R := spAt sp) hso hmono (fun i o ho listed a w hsz hun hdeps hc hsize hsee K hK => ?_)
    (fun listed a w hall hc h => ?_) l.toArray.size (Array.replicate l.toArray.size false) a0 w.drew ?_ ?_ ⟨by simp, rfl, rfl, fun _ _ => rfl, fun i o ho hl => ?_⟩)
  · have hil : i < listed.size := by rw [hsz]; exact (Array.getElem?_eq_some_iff.1 ho).1
    have hf : listed.getD i false = false := by simp [hil] at hun ⊢; exact hun
    have hw := owesAllT_at l 0 i o hstep (by simpa using ho)
    rw [Nat.zero_add] at hw
    unfold OwesT at hw
    by_cases hip : i = p
    · subst hip
      rw [if_pos rfl] at hw
      have hsm : o.dst.isSome = true := by rw [ho] at hpd; exact hpd
      obtain ⟨t, ht⟩ := Option.isSome_iff_exists.1 hsm
      rcases hc with ⟨_, c2, c3⟩ | ⟨c1, _⟩ | ⟨c1, _⟩
      · obtain ⟨hw1, hw2⟩ := hw a w c3 hsee
        rw [if_pos hw1]
        refine hw2 K fun v w' hR hC' hG => hK v w' (by rw [if_pos hsm]; exact hR) (.inr (.inl ⟨getD_set_same hil, by rw [getD_set_ne hpq]; exact c2, ⟨v, hC', ?_⟩, fun j hj => listed_more hil (deps_listed ho hdeps j hj)⟩)) hG
        rw [ho]
        simp only [Option.bind_some, ht, Option.elim_some]
        have h9 := slot_put_same (a := a) (d := o.dst) (v := v) (fun t' ht' => by rw [hsize]; exact hso.inn i o t' ho ht')
        rw [ht] at h9
        simpa [slotOf] using h9
      · rw [hf] at c1; cases c1
      · rw [hf] at c1; cases c1
    · rw [if_neg hip] at hw
      by_cases hiq : i = q
      · subst hiq
        rw [if_pos rfl] at hw
        have hpl := deps_listed ho hdeps p hdq
        rcases hc with ⟨c1, _⟩ | ⟨c1, _, ⟨u, c3, c5⟩, c4⟩ | ⟨_, c2, _⟩
        · rw [hpl] at c1; cases c1
        · obtain ⟨hw1, hw2⟩ := hw a w u c3 c5 hsee
          rw [if_pos hw1]
          refine wp_of_val (hw2.mono fun v w' hk => ?_)
          exact hK v w' hk.1 (.inr (.inr ⟨by rw [getD_set_ne (Ne.symm hpq)]; exact c1, getD_set_same hil, hk.2.1, fun j hj => listed_more hil (c4 j hj)⟩)) hk.2.2
        · rw [hf] at c2; cases c2
      · rw [if_neg hiq] at hw
        have hor : C0 w ∨ (∃ u, C1 u w) ∨ C2 w := by
          rcases hc with ⟨_, _, c⟩ | ⟨_, _, ⟨u, c, _⟩, _⟩ | ⟨_, _, c, _⟩
          · exact .inl c
          · exact .inr (.inl ⟨u, c⟩)
          · exact .inr (.inr c)
        have hd0 : depOn l.toArray p i = true → C0 w := fun hd => by
          rcases hc with ⟨_, _, c⟩ | ⟨_, _, _, c⟩ | ⟨_, _, _, c⟩
          · exact c
          · have := c i hd; rw [hf] at this; cases this
          · have := c i hd; rw [hf] at this; cases this
        obtain ⟨hw1, hw2⟩ := hw a w hd0 hor hsee
        rw [if_pos hw1]
        refine wp_of_val (hw2.mono fun v w' hk => hK v w' hk.1 ?_ (hL _ _ hk.2.2))
        rcases hc with ⟨c1, c2, c⟩ | ⟨c1, c2, ⟨u, c, c5⟩, c4⟩ | ⟨c1, c2, c, c4⟩
        · exact .inl ⟨by rw [getD_set_ne hip]; exact c1, by rw [getD_set_ne hiq]; exact c2, h0 _ _ c hk.2.2⟩
        · refine .inr (.inl ⟨by rw [getD_set_ne hip]; exact c1, by rw [getD_set_ne hiq]; exact c2, ⟨u, h1 _ _ _ c hk.2.2, ?_⟩, fun j hj => listed_more hil (c4 j hj)⟩)
          cases hpo : l.toArray[p]? with
          | none => simp
          | some op =>
            rw [hpo] at c5
            cases hpt : op.dst with
            | none => simp [hpt]
            | some t =>
              simp only [Option.bind_some, hpt, Option.elim_some] at c5 ⊢
              have h9 := slot_put_other (a := a) (d := o.dst) (e := some t) (v := v) (fun t' ht' e => hip (hso.one i p o op t' ho hpo ht' (by rw [hpt]; exact e)))
              exact (show (a.put o.dst v).tmps.getD t undef = a.tmps.getD t undef from h9).trans c5
        · exact .inr (.inr ⟨by rw [getD_set_ne hip]; exact c1, by rw [getD_set_ne hiq]; exact c2, h2 _ _ c hk.2.2, fun j hj => listed_more hil (c4 j hj)⟩)
  · have hql := hall q (by simpa using hq)
    have hc2 : C2 w := by
      rcases hc with ⟨_, c, _⟩ | ⟨_, c, _⟩ | ⟨_, _, c, _⟩
      · rw [hql] at c; cases c
      · rw [hql] at c; cases c
      · exact c
    refine hQ a w hc2 h.defers h.size (fun t ht => h.outer t fun j oj' hj _ hd => ?_) fun i o ho => h.inner i o (by simpa using ho) (by have := (List.getElem?_eq_some_iff.1 ho).1; simp [this])
    unfold freeTmp at ht
    rw [List.all_eq_true] at ht
    have := ht oj' (Array.mem_toList_iff.2 (Array.mem_of_getElem? hj))
    simp [hd] at this
  · unfold open_; exact Nat.le_trans List.countP_le_length (by simp)
  · exact .inl ⟨by simp [hp], by simp [hq], hC⟩
  · exfalso
    have hi := (Array.getElem?_eq_some_iff.1 ho).1
    rw [List.size_toArray] at hi
    simp [hi] at hl
end
end Go.Proofs.Yteljmlodbnfhbaa
