/- A statement of open order in which several operations write, the last one of them a temporary that others read ahead of it (x = append(x, ..)). No premises. -/
import Derived.Test.YteljmlodbnfhbaaSof5
namespace Go.Proofs.Yteljmlodbnfhbaa
open Go.RowKit
section
variable {P : Program} {ops : Array Oper} {Q : Exit → Act → World → Prop} {a0 : Act} {C : Nat → Value → World → Prop} {R : Nat → Value → World → Prop}
/-- Only the last writer writes the temporary t0. -/
def onlyB (ops : Array Oper) (ps : List Nat) (t0 : Tmp) : Bool := (List.range ops.size).all fun i => match ops[i]? with
  | some o => o.dst != some t0 || ps.getLast? == some i
  | none => true
theorem onlyB_at {ps : List Nat} {t0 : Tmp} (h : onlyB ops ps t0 = true) {i : Nat} {o : Oper} (ho : ops[i]? = some o) (hd : o.dst = some t0) : ps[ps.length - 1]? = some i := by
  unfold onlyB at h
  rw [List.all_eq_true] at h
  have := h i (List.mem_range.2 (Array.getElem?_eq_some_iff.1 ho).1)
  rw [ho] at this
  simp only [hd, bne_self_eq_false, Bool.false_or, beq_iff_eq] at this
  rw [← List.getLast?_eq_getElem?]
  exact this
def OwesQE (P : Program) (ops : Array Oper) (C : Nat → Value → World → Prop) (ps : List Nat) (R : Nat → Value → World → Prop) (a0 : Act) (t0 : Tmp) (i : Nat) (o : Oper) : Prop :=
  ∀ (a : Act) (w : World) (j : Nat) (u : Value), C j u w → (∀ k p, ps[k]? = some p → depOn ops p i = true → j ≤ k) → (j < ps.length → a.tmps.getD t0 undef = a0.tmps.getD t0 undef) → Sees ops a0 R o a w →
    Region.wanted o (yielded ops a.tmps) = true ∧ ValWp P o a.eval w fun v w' => R i (if o.dst.isSome then v else undef) w' ∧ w' = w
def OwesSE (P : Program) (ops : Array Oper) (Q : Exit → Act → World → Prop) (C : Nat → Value → World → Prop) (ps : List Nat) (R : Nat → Value → World → Prop) (a0 : Act) (t0 : Tmp) (i : Nat) (o : Oper) : Prop :=
  match idx ps i with
  | some j => OwesW P ops Q C ps R a0 i o j
  | none => OwesQE P ops C ps R a0 t0 i o
theorem OwesSE.w {ps : List Nat} {t0 : Tmp} {i j : Nat} {o : Oper} (h : idx ps i = some j) (hw : OwesW P ops Q C ps R a0 i o j) : OwesSE P ops Q C ps R a0 t0 i o := by unfold OwesSE; rw [h]; exact hw
theorem OwesSE.q {ps : List Nat} {t0 : Tmp} {i : Nat} {o : Oper} (h : idx ps i = none) (hw : OwesQE P ops C ps R a0 t0 i o) : OwesSE P ops Q C ps R a0 t0 i o := by unfold OwesSE; rw [h]; exact hw
def OwesAllSE (P : Program) (ops : Array Oper) (Q : Exit → Act → World → Prop) (C : Nat → Value → World → Prop) (ps : List Nat) (R : Nat → Value → World → Prop) (a0 : Act) (t0 : Tmp) : Nat → List Oper → Prop
  | _, [] => True
  | n, o :: l => OwesSE P ops Q C ps R a0 t0 n o ∧ OwesAllSE P ops Q C ps R a0 t0 (n + 1) l
theorem owesAllSE_at {ps : List Nat} {t0 : Tmp} : ∀ (l : List Oper) (n i : Nat) (o : Oper), OwesAllSE P ops Q C ps R a0 t0 n l → l[i]? = some o → OwesSE P ops Q C ps R a0 t0 (n + i) o
  | [], _, i, o, _, h => by simp at h
  | x :: l, n, 0, o, h, ho => by simp at ho; subst ho; exact h.1
  | x :: l, n, i + 1, o, h, ho => by
    have := owesAllSE_at l (n + 1) i o h.2 (by simpa using ho)
    rwa [show n + 1 + i = n + (i + 1) by omega] at this
/-- The region. -/
theorem wp_region_seqE {id : Nat} {w : World} {l : List Oper} (hm : P.follows .mixedOrders = true) (ps : List Nat) (C : Nat → Value → World → Prop) (rv : List (Option Value)) (hps : ∀ p ∈ ps, p < l.length) (hnd : ps.Nodup) (hch : chainB l.toArray ps = true) (hok : softB l.toArray a0.tmps.size = true) (t0 : Tmp) (hon : onlyB l.toArray ps t0 = true)
    (hC : C 0 undef w.drew) (hstep : OwesAllSE P l.toArray Q C ps (RV rv) a0 t0 0 l)
    (hQ : ∀ a w u, C ps.length u w → lastIs l.toArray ps ps.length a u → a.defers = a0.defers → a.tmps.size = a0.tmps.size → (∀ t, freeTmp l.toArray t = true → a.tmps.getD t undef = a0.tmps.getD t undef) → (∀ (i : Nat) o, l[i]? = some o → RV rv i (slotOf o.dst a) w) → Q .normal a w) :
    (Code.region id l.toArray true).wp P Q a0 w := by
  have hmono : ∀ i v w w', (fun _ _ => True : World → World → Prop) w w' → RV rv i v w → RV rv i v w' := fun i v w w' _ h => h
  have hso := SoftOk.of hok
  refine wp_region_any hm (wpAny_softA (C := fun listed a w => ∃ j u, PhaseS l.toArray ps C j u listed a w ∧ (j < ps.length → a.tmps.getD t0 undef = a0.tmps.getD t0 undef)) (R := RV rv) (G := fun _ _ => True) hso hmono (fun i o ho listed a w hsz hun hdeps hc hsize hsee K hK => ?_)
    (fun listed a w hall hc h => ?_) l.toArray.size (Array.replicate l.toArray.size false) a0 w.drew ?_ ?_ ⟨by simp, rfl, rfl, fun _ _ => rfl, fun i o ho hl => ?_⟩)
  · have hil : i < listed.size := by rw [hsz]; exact (Array.getElem?_eq_some_iff.1 ho).1
    have hf : listed.getD i false = false := by simp [hil] at hun ⊢; exact hun
    have hw := owesAllSE_at l 0 i o hstep (by simpa using ho)
    rw [Nat.zero_add] at hw
    unfold OwesSE at hw
    obtain ⟨j, u, hp, he⟩ := hc
    have hdl := fun d hd => deps_listed ho hdeps d hd
    cases hi : idx ps i with
    | some j0 =>
      rw [hi] at hw
      simp only at hw
      have hj0 := idx_some hi
      have h1 := hp.at_ j0 i hj0
      rw [hf] at h1
      have hle : j ≤ j0 := by simpa using h1.symm
      have hge : j0 ≤ j := by
        cases j0 with
        | zero => omega
        | succ k =>
          have hlt : k < ps.length := by have := (List.getElem?_eq_some_iff.1 hj0).1; omega
          have h2 : ps[k]? = some ps[k] := by simp [hlt]
          have h3 := hdl _ (chainB_at hch k ps[k] i h2 hj0)
          rw [hp.at_ k _ h2] at h3
          have := of_decide_eq_true h3
          omega
      have hje : j = j0 := by omega
      subst hje
      obtain ⟨hw1, hw2⟩ := hw a w u hp.c hp.last hsee
      rw [if_pos hw1]
      refine hw2 K fun v w' hR hC' => hK v w' hR ⟨j + 1, v, ⟨(List.getElem?_eq_some_iff.1 hj0).1, hC', ?_, fun k p hk => ?_, fun k p hk hkj d hd => ?_⟩, fun hjl => ?_⟩ trivial
      · show (match (ps[j]?).bind fun p => (l.toArray[p]?).bind (·.dst) with | some t => (a.put o.dst v).tmps.getD t undef = v | none => True)
        rw [hj0]
        simp only [Option.bind_some, ho]
        cases hdst : o.dst with
        | none => trivial
        | some t =>
          have h9 := slot_put_same (a := a) (d := o.dst) (v := v) (fun t' ht' => by rw [hsize]; exact hso.inn i o t' ho ht')
          rw [hdst] at h9
          simpa [slotOf] using h9
      · by_cases hpi : i = p
        · subst hpi
          rw [getD_set_same hil, nodup_at hnd hk hj0]
          simp
        · rw [getD_set_ne hpi, hp.at_ k p hk]
          have hkj : k ≠ j := fun e => hpi (by rw [e, hj0] at hk; exact Option.some.inj hk)
          simp only [decide_eq_decide]
          omega
      · by_cases hkj' : k = j
        · subst hkj'
          rw [hj0] at hk
          cases hk
          exact listed_more hil (hdl d hd)
        · exact listed_more hil (hp.dep k p hk (by omega) d hd)
      · rw [← he (by omega)]
        have h9 := slot_put_other (a := a) (d := o.dst) (e := some t0) (v := v) (fun t' ht' e => by
          injection e with e
          subst e
          have h8 := onlyB_at hon ho ht'
          have := nodup_at hnd hj0 h8
          omega)
        exact h9
    | none =>
      rw [hi] at hw
      simp only at hw
      have hni := idx_none hi
      have hb : ∀ k p, ps[k]? = some p → depOn l.toArray p i = true → j ≤ k := fun k p hk hd => by
        by_cases hkj : k < j
        · have := hp.dep k p hk hkj i hd
          rw [hf] at this
          cases this
        · omega
      obtain ⟨hw1, hw2⟩ := hw a w j u hp.c hb he hsee
      rw [if_pos hw1]
      refine wp_of_val (hw2.mono fun v w' hk => hK v w' hk.1 ?_ trivial)
      obtain ⟨_, rfl⟩ := hk
      refine ⟨j, u, ⟨hp.le, hp.c, ?_, fun k p hk => ?_, fun k p hk hkj d hd => listed_more hil (hp.dep k p hk hkj d hd)⟩, fun hjl => ?_⟩
      · cases j with
        | zero => trivial
        | succ j =>
          have h5 := hp.last
          unfold lastIs at h5 ⊢
          simp only at h5 ⊢
          cases hpj : ps[j]? with
          | none => trivial
          | some p =>
            rw [hpj] at h5
            simp only [Option.bind_some] at h5 ⊢
            cases hpo : l.toArray[p]? with
            | none => trivial
            | some op =>
              rw [hpo] at h5
              simp only [Option.bind_some] at h5 ⊢
              cases hpt : op.dst with
              | none => trivial
              | some t =>
                rw [hpt] at h5
                simp only at h5 ⊢
                have h9 := slot_put_other (a := a) (d := o.dst) (e := some t) (v := v) (fun t' ht' e => hni j (by rw [hpj, hso.one i p o op t' ho hpo ht' (by rw [hpt]; exact e)]))
                exact (show (a.put o.dst v).tmps.getD t undef = a.tmps.getD t undef from h9).trans h5
      · have hpi : i ≠ p := fun e => hni k (by rw [hk, e])
        rw [getD_set_ne hpi, hp.at_ k p hk]
      · rw [← he hjl]
        have h9 := slot_put_other (a := a) (d := o.dst) (e := some t0) (v := v) (fun t' ht' e => by
          injection e with e
          subst e
          exact hni _ (onlyB_at hon ho ht'))
        exact h9
  · obtain ⟨j, u, hp, he⟩ := hc
    have hje : j = ps.length := by
      by_cases hlt : j < ps.length
      · have h2 : ps[j]? = some ps[j] := by simp [hlt]
        have h3 := hp.at_ j _ h2
        rw [hall ps[j] (by simpa using hps _ (List.getElem_mem hlt))] at h3
        simp at h3
      · have := hp.le; omega
    subst hje
    refine hQ a w u hp.c hp.last h.defers h.size (fun t ht => h.outer t fun j oj' hj _ hd => ?_) fun i o ho => h.inner i o (by simpa using ho) (by have := (List.getElem?_eq_some_iff.1 ho).1; simp [this])
    unfold freeTmp at ht
    rw [List.all_eq_true] at ht
    have := ht oj' (Array.mem_toList_iff.2 (Array.mem_of_getElem? hj))
    simp [hd] at this
  · unfold open_; exact Nat.le_trans List.countP_le_length (by simp)
  · refine ⟨0, undef, ⟨Nat.zero_le _, hC, trivial, fun k p hk => ?_, fun k p _ hk => by omega⟩, fun _ => rfl⟩
    by_cases hp : p < l.length <;> simp [hp]
  · exfalso
    have hi := (Array.getElem?_eq_some_iff.1 ho).1
    rw [List.size_toArray] at hi
    simp [hi] at hl
end
end Go.Proofs.Yteljmlodbnfhbaa
