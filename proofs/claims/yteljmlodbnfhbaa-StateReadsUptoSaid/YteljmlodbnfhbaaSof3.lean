/- A statement of open order in which one operation (number p) writes what was there: before it the world is as C0 says, behind it as C1 says; all others only read, or make memory. No premises. -/
import Derived.Test.YteljmlodbnfhbaaSof2
namespace Go.Proofs.Yteljmlodbnfhbaa
open Go.RowKit
section
variable {P : Program} {ops : Array Oper} {Q : Exit → Act → World → Prop} {G : World → World → Prop} {R : Nat → Value → World → Prop} {a0 : Act}
theorem wpAny_softL {C : Array Bool → World → Prop} (hok : SoftOk ops a0.tmps.size) (hmono : ∀ i v w w', G w w' → R i v w → R i v w')
    (hstep : ∀ (i : Nat) o, ops[i]? = some o → ∀ (listed : Array Bool) (a : Act) (w : World), listed.size = ops.size → listed.getD i true = false → (∀ e ∈ o.after, Region.binds .any e = true → listed.getD e.on false = true) → C listed w → Sees ops a0 R o a w → ∀ K : Act → World → Prop,
      (∀ v w', R i (if o.dst.isSome then v else undef) w' → C (listed.setIfInBounds i true) w' → G w w' → K (a.put o.dst v) w') →
      if Region.wanted o (yielded ops a.tmps) = true then Oper.wp P o a w K Q else K (a.put o.dst undef) w)
    (hQ : ∀ (listed : Array Bool) a w, (∀ i, i < ops.size → listed.getD i false = true) → C listed w → Fits ops a0 R (Array.replicate ops.size true) a w → Q .normal a w) :
    ∀ (fuel : Nat) (listed : Array Bool) (a : Act) (w : World), open_ listed ≤ fuel → C listed w → Fits ops a0 R listed a w → wpAny P .any ops Q fuel listed a w := by
  have hend : ∀ (listed : Array Bool) (a : Act) (w : World), C listed w → Fits ops a0 R listed a w → Region.ready .any ops listed = [] → Q .normal a w := by
    intro listed a w hC h hr
    have hall := ready_nil h.lsize hok hr
    refine hQ listed a w hall hC ⟨by simp, h.defers, h.size, fun t ht => h.outer t fun i o ho hl => ht i o ho (by have := (Array.getElem?_eq_some_iff.1 ho).1; simp [this]), fun i o ho _ => h.inner i o ho (hall i (Array.getElem?_eq_some_iff.1 ho).1)⟩
  intro fuel
  induction fuel with
  | zero =>
    intro listed a w hf hC h
    have hz := open_zero (Nat.le_zero.1 hf)
    have hr : Region.ready .any ops listed = [] := by
      rw [List.eq_nil_iff_forall_not_mem]
      intro i hi
      have := (mem_ready.1 hi).1
      rw [hz i] at this
      cases this
    exact ⟨hr, hend listed a w hC h hr⟩
  | succ fuel ih =>
    intro listed a w hf hC h
    refine ⟨hend listed a w hC h, fun i hi => ?_⟩
    obtain ⟨hun, o, ho, hdeps⟩ := mem_ready.1 hi
    have hin : i < listed.size := by rw [h.lsize]; exact (Array.getElem?_eq_some_iff.1 ho).1
    have hst := hstep i o ho listed a w h.lsize hun hdeps hC (h.sees hi ho) (wpAny P .any ops Q fuel (listed.setIfInBounds i true)) fun v w' hR hC' hG =>
      ih _ _ _ (by have := open_set hin hun; omega) hC' (h.step (C := fun _ => True) hok (fun i v w w' _ => hmono i v w w') ho trivial hG hR)
    unfold wpOp
    rw [ho]
    dsimp only
    split
    · rename_i hw; rw [if_pos hw] at hst; exact .inl hst
    · rename_i hw; rw [if_neg hw] at hst; exact hst
theorem ValWp.mono {o : Oper} {ρ : Operand → Value} {w : World} {K K' : Value → World → Prop} (h : ValWp P o ρ w K) (hk : ∀ v w', K v w' → K' v w') : ValWp P o ρ w K' := by
  unfold ValWp at *
  generalize (execOp ρ o).run P w = r at *
  cases r with
  | ok n w' =>
    cases n <;> simp only at h ⊢
    case value v => exact hk _ _ h
    case skip => exact hk _ _ h
    case enter f args => exact Calls.mono h fun e w'' ⟨v, he, h2⟩ => ⟨v, he, hk _ _ h2⟩
  | halt x w' => simp at h
/-- Does operation p wait for operation i? -/
def depOn (ops : Array Oper) (p i : Nat) : Bool := match ops[p]? with | some o => o.after.toList.any (fun e => e.on == i && Region.binds .any e) | none => false
/-- What operation number i owes: p goes from C0 to C1, all others keep either; what p waits for sees C0. -/
def OwesP (P : Program) (ops : Array Oper) (C0 C1 : World → Prop) (G : World → World → Prop) (p : Nat) (R : Nat → Value → World → Prop) (a0 : Act) (i : Nat) (o : Oper) : Prop :=
  if i = p then ∀ (a : Act) (w : World), C0 w → Sees ops a0 R o a w →
    (Region.wanted o (yielded ops a.tmps) = true ∧ ValWp P o a.eval w fun v w' => R i (if o.dst.isSome then v else undef) w' ∧ C1 w' ∧ G w w')
  else ∀ (a : Act) (w : World), (depOn ops p i = true → C0 w) → (C0 w ∨ C1 w) → Sees ops a0 R o a w →
    (Region.wanted o (yielded ops a.tmps) = true ∧ ValWp P o a.eval w fun v w' => R i (if o.dst.isSome then v else undef) w' ∧ (C0 w' ∨ C1 w') ∧ Later w w') ∨
    (Region.wanted o (yielded ops a.tmps) = false ∧ R i undef w)
def OwesAllP (P : Program) (ops : Array Oper) (C0 C1 : World → Prop) (G : World → World → Prop) (p : Nat) (R : Nat → Value → World → Prop) (a0 : Act) : Nat → List Oper → Prop
  | _, [] => True
  | n, o :: l => OwesP P ops C0 C1 G p R a0 n o ∧ OwesAllP P ops C0 C1 G p R a0 (n + 1) l
theorem owesAllP_at {C0 C1 : World → Prop} {p : Nat} : ∀ (l : List Oper) (n i : Nat) (o : Oper), OwesAllP P ops C0 C1 G p R a0 n l → l[i]? = some o → OwesP P ops C0 C1 G p R a0 (n + i) o
  | [], _, i, o, _, h => by simp at h
  | x :: l, n, 0, o, h, ho => by simp at ho; subst ho; exact h.1
  | x :: l, n, i + 1, o, h, ho => by
    have := owesAllP_at l (n + 1) i o h.2 (by simpa using ho)
    rwa [show n + 1 + i = n + (i + 1) by omega] at this
theorem getD_set_same {l : Array Bool} {i : Nat} (h : i < l.size) : (l.setIfInBounds i true).getD i false = true := by simp [h]
theorem getD_set_ne {l : Array Bool} {i p : Nat} (h : i ≠ p) : (l.setIfInBounds i true).getD p false = l.getD p false := by
  by_cases hp : p < l.size
  · simp [hp, h]
  · simp [hp]
/-- The region. -/
theorem wp_region_writes {id : Nat} {w : World} {l : List Oper} (hm : P.follows .mixedOrders = true) (p : Nat) (C0 C1 : World → Prop) (G : World → World → Prop) (sp : List (Sp G)) (hp : p < l.length) (hok : softB l.toArray a0.tmps.size = true)
    (hC : C0 w.drew) (h0 : ∀ w w', C0 w → Later w w' → C0 w') (h1 : ∀ w w', C1 w → Later w w' → C1 w') (hL : ∀ w w', Later w w' → G w w')
    (hstep : OwesAllP P l.toArray C0 C1 G p (spAt sp) a0 0 l)
    (hQ : ∀ a w, C1 w → a.defers = a0.defers → a.tmps.size = a0.tmps.size → (∀ t, freeTmp l.toArray t = true → a.tmps.getD t undef = a0.tmps.getD t undef) → (∀ (i : Nat) o, l[i]? = some o → spAt sp i (slotOf o.dst a) w) → Q .normal a w) :
    (Code.region id l.toArray true).wp P Q a0 w := by
  have hmono : ∀ i v w w', G w w' → spAt sp i v w → spAt sp i v w' := fun i v w w' hg h => (sp.getD i Sp.any).lasts v w w' hg h
  refine wp_region_any hm (wpAny_softL (C := fun listed w => if listed.getD p false = true then C1 w ∧ (∀ i, depOn l.toArray p i = true → listed.getD i false = true) else C0 w) (R := spAt sp) (SoftOk.of hok) hmono (fun i o ho listed a w hsz hun hdeps hc hsee K hK => ?_)
    (fun listed a w hall hc h => ?_) l.toArray.size (Array.replicate l.toArray.size false) a0 w.drew ?_ ?_ ⟨by simp, rfl, rfl, fun _ _ => rfl, fun i o ho hl => ?_⟩)
  · have hil : i < listed.size := by rw [hsz]; exact (Array.getElem?_eq_some_iff.1 ho).1
    have hw := owesAllP_at l 0 i o hstep (by simpa using ho)
    rw [Nat.zero_add] at hw
    by_cases hip : i = p
    · subst hip
      have hf : listed.getD i false = false := by simp [hil] at hun ⊢; exact hun
      rw [hf] at hc
      simp only [Bool.false_eq_true, if_false] at hc
      unfold OwesP at hw
      rw [if_pos rfl] at hw
      obtain ⟨hw1, hw2⟩ := hw a w hc hsee
      rw [if_pos hw1]
      refine wp_of_val (hw2.mono fun v w' hk => ?_)
      refine hK v w' hk.1 ?_ hk.2.2
      rw [if_pos (getD_set_same hil)]
      refine ⟨hk.2.1, fun j hj => ?_⟩
      by_cases hji : i = j
      · subst hji; exact getD_set_same hil
      · rw [getD_set_ne hji]
        unfold depOn at hj
        rw [ho] at hj
        obtain ⟨e, he, hb⟩ := List.any_eq_true.1 hj
        simp only [Bool.and_eq_true, beq_iff_eq] at hb
        rw [← hb.1]
        exact hdeps e (by simpa using he) hb.2
    · unfold OwesP at hw
      rw [if_neg hip] at hw
      have hor : C0 w ∨ C1 w := by split at hc; exact .inr hc.1; exact .inl hc
      have hdep : depOn l.toArray p i = true → C0 w := fun hd => by
        split at hc
        · have h1 := hc.2 i hd
          simp [hil] at hun h1
          rw [hun] at h1; cases h1
        · exact hc
      have hkeep : ∀ w', Later w w' → (if (listed.setIfInBounds i true).getD p false = true then C1 w' ∧ (∀ j, depOn l.toArray p j = true → (listed.setIfInBounds i true).getD j false = true) else C0 w') := by
        intro w' hl
        rw [getD_set_ne hip]
        split
        · rename_i h; rw [if_pos h] at hc; refine ⟨h1 _ _ hc.1 hl, fun j hj => ?_⟩
          by_cases hji : i = j
          · subst hji; exact getD_set_same hil
          · rw [getD_set_ne hji]; exact hc.2 j hj
        · rename_i h; rw [if_neg h] at hc; exact h0 _ _ hc hl
      rcases hw a w hdep hor hsee with ⟨hw1, hw2⟩ | ⟨hw1, hw2⟩
      · rw [if_pos hw1]
        exact wp_of_val (hw2.mono fun v w' hk => hK v w' hk.1 (hkeep _ hk.2.2) (hL _ _ hk.2.2))
      · rw [hw1]
        simp only [Bool.false_eq_true, if_false]
        exact hK undef w (by simpa using hw2) (hkeep w (Later.refl w)) (hL _ _ (Later.refl w))
  · have hpl := hall p (by simpa using hp)
    rw [hpl] at hc
    simp only [if_true] at hc
    refine hQ a w hc.1 h.defers h.size (fun t ht => h.outer t fun j oj' hj _ hd => ?_) fun i o ho => h.inner i o (by simpa using ho) (by have := (List.getElem?_eq_some_iff.1 ho).1; simp [this])
    unfold freeTmp at ht
    rw [List.all_eq_true] at ht
    have := ht oj' (Array.mem_toList_iff.2 (Array.mem_of_getElem? hj))
    simp [hd] at this
  · unfold open_; exact Nat.le_trans List.countP_le_length (by simp)
  · simp [hp]; exact hC
  · exfalso
    have hi := (Array.getElem?_eq_some_iff.1 ho).1
    rw [List.size_toArray] at hi
    simp [hi] at hl
end
end Go.Proofs.Yteljmlodbnfhbaa
