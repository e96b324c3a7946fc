/- A region that draws its order, walked operation by operation, in whatever order they come up: each operation owes what it alone yields (a relation of its own, kept by all that may come between), out of what those it waits for have yielded. So n operations are n steps, however many orders there are. No premises. -/
import Derived.Tactics
import Derived.Orders
namespace Go.Proofs.Yteljmlodbnfhbaa
/-- The value in an operation's temporary. -/
def slotOf (d : Option Tmp) (a : Act) : Value := match d with | some t => a.tmps.getD t undef | none => undef
/-- Nobody in the region writes this temporary. -/
def freeTmp (ops : Array Oper) (t : Tmp) : Bool := ops.toList.all fun o => o.dst != some t
/-- Each temporary is written once, and lies in the frame; whoever is waited for stands ahead. -/
def softB (ops : Array Oper) (n : Nat) : Bool :=
  (List.range ops.size).all fun i => match ops[i]? with
    | some o => (match o.dst with | some d => decide (d < n) && ((List.range i).all fun j => ((ops[j]?).bind (·.dst)) != some d) | none => true) && o.after.toList.all fun e => !Region.binds .any e || decide (e.on < i)
    | none => true
structure SoftOk (ops : Array Oper) (n : Nat) : Prop where
  inn : ∀ (i : Nat) o d, ops[i]? = some o → o.dst = some d → d < n
  one : ∀ (i j : Nat) oi oj d, ops[i]? = some oi → ops[j]? = some oj → oi.dst = some d → oj.dst = some d → i = j
  early : ∀ (i : Nat) o, ops[i]? = some o → ∀ e ∈ o.after, Region.binds .any e = true → e.on < i
theorem SoftOk.of {ops : Array Oper} {n : Nat} (h : softB ops n = true) : SoftOk ops n := by
  unfold softB at h
  rw [List.all_eq_true] at h
  have key : ∀ (i : Nat) o, ops[i]? = some o → ((match o.dst with | some d => decide (d < n) && ((List.range i).all fun j => ((ops[j]?).bind (·.dst)) != some d) | none => true) = true ∧ (o.after.toList.all fun e => !Region.binds .any e || decide (e.on < i)) = true) := by
    intro i o ho
    have hi : i < ops.size := (Array.getElem?_eq_some_iff.1 ho).1
    have := h i (List.mem_range.2 hi)
    rw [ho] at this
    simpa using this
  have lt : ∀ (i j : Nat) oi oj d, ops[i]? = some oi → ops[j]? = some oj → oi.dst = some d → oj.dst = some d → ¬ j < i := by
    intro i j oi oj d hi hj hdi hdj hji
    have := (key i oi hi).1
    rw [hdi] at this
    simp only [Bool.and_eq_true, List.all_eq_true] at this
    have h2 := this.2 j (List.mem_range.2 hji)
    rw [hj] at h2
    simp [hdj] at h2
  refine ⟨fun i o d ho hd => ?_, fun i j oi oj d hi hj hdi hdj => ?_, fun i o ho e he hb => ?_⟩
  · have := (key i o ho).1
    rw [hd] at this
    simp only [Bool.and_eq_true, decide_eq_true_eq] at this
    exact this.1
  · have h1 := lt i j oi oj d hi hj hdi hdj
    have h2 := lt j i oj oi d hj hi hdj hdi
    omega
  · have := (key i o ho).2
    rw [List.all_eq_true] at this
    have h2 := this e (by simpa using he)
    rw [hb] at h2
    exact of_decide_eq_true (by simpa using h2)
section
variable {P : Program} {ops : Array Oper} {Q : Exit → Act → World → Prop} {C : World → Prop} {G : World → World → Prop} {R : Nat → Value → World → Prop} {a0 : Act}
structure Fits (ops : Array Oper) (a0 : Act) (R : Nat → Value → World → Prop) (listed : Array Bool) (a : Act) (w : World) : Prop where
  lsize : listed.size = ops.size
  defers : a.defers = a0.defers
  size : a.tmps.size = a0.tmps.size
  outer : ∀ t, (∀ (i : Nat) o, ops[i]? = some o → listed.getD i false = true → o.dst ≠ some t) → a.tmps.getD t undef = a0.tmps.getD t undef
  inner : ∀ (i : Nat) o, ops[i]? = some o → listed.getD i false = true → R i (slotOf o.dst a) w
/-- What an operation sees of the frame: those it waits for, and what nobody writes. -/
structure Sees (ops : Array Oper) (a0 : Act) (R : Nat → Value → World → Prop) (o : Oper) (a : Act) (w : World) : Prop where
  defers : a.defers = a0.defers
  size : a.tmps.size = a0.tmps.size
  free : ∀ t, freeTmp ops t = true → a.tmps.getD t undef = a0.tmps.getD t undef
  dep : ∀ (d : Nat) od, (o.after.toList.any fun e => e.on == d && Region.binds .any e) = true → ops[d]? = some od → R d (slotOf od.dst a) w
/-- What operation number i owes. -/
def StepOk (P : Program) (ops : Array Oper) (Q : Exit → Act → World → Prop) (C : World → Prop) (G : World → World → Prop) (R : Nat → Value → World → Prop) (a0 : Act) (i : Nat) (o : Oper) : Prop :=
  ∀ (a : Act) (w : World), C w → Sees ops a0 R o a w → ∀ K : Act → World → Prop,
    (∀ v w', R i (if o.dst.isSome then v else undef) w' → C w' → G w w' → K (a.put o.dst v) w') →
    if Region.wanted o (yielded ops a.tmps) = true then Oper.wp P o a w K Q else K (a.put o.dst undef) w
theorem slot_put_same {a : Act} {d : Option Tmp} {v : Value} (h : ∀ t, d = some t → t < a.tmps.size) : slotOf d (a.put d v) = if d.isSome then v else undef := by
  cases d with
  | none => rfl
  | some t => have := h t rfl; simp [slotOf, Act.put, this]
theorem slot_put_other {a : Act} {d e : Option Tmp} {v : Value} (h : ∀ t, d = some t → e ≠ some t) : slotOf e (a.put d v) = slotOf e a := by
  cases d with
  | none => rfl
  | some t =>
    cases e with
    | none => rfl
    | some u =>
      have hne : t ≠ u := fun he => h t rfl (by rw [he])
      simp [slotOf, Act.put, hne]
theorem getD_put {a : Act} {d : Option Tmp} {v : Value} {t : Tmp} (h : d ≠ some t) : (a.put d v).tmps.getD t undef = a.tmps.getD t undef := by
  cases d with
  | none => rfl
  | some u =>
    have hne : u ≠ t := fun he => h (by rw [he])
    simp [Act.put, hne]
theorem put_size (a : Act) (d : Option Tmp) (v : Value) : (a.put d v).tmps.size = a.tmps.size := by cases d <;> simp [Act.put]
theorem put_defers' (a : Act) (d : Option Tmp) (v : Value) : (a.put d v).defers = a.defers := by cases d <;> rfl
theorem getD_set_listed {listed : Array Bool} {i j : Nat} (h : (listed.setIfInBounds i true).getD j false = true) : j = i ∨ listed.getD j false = true := by
  by_cases e : i = j
  · exact .inl e.symm
  · right
    simpa [Array.getElem?_setIfInBounds, e] using h
theorem Fits.step {listed : Array Bool} {a : Act} {w w' : World} {i : Nat} {o : Oper} {v : Value} (hok : SoftOk ops a0.tmps.size) (hmono : ∀ i v w w', C w → G w w' → R i v w → R i v w')
    (h : Fits ops a0 R listed a w) (ho : ops[i]? = some o) (hC : C w) (hG : G w w') (hR : R i (if o.dst.isSome then v else undef) w') : Fits ops a0 R (listed.setIfInBounds i true) (a.put o.dst v) w' := by
  have hin : i < listed.size := by rw [h.lsize]; exact (Array.getElem?_eq_some_iff.1 ho).1
  refine ⟨by simpa using h.lsize, (put_defers' _ _ _).trans h.defers, (put_size _ _ _).trans h.size, fun t ht => ?_, fun j oj hj hl => ?_⟩
  · have h1 := ht i o ho (by simp [hin])
    rw [getD_put h1]
    refine h.outer t fun j oj hj hl => ht j oj hj ?_
    by_cases e : i = j
    · subst e; simp [hin]
    · simpa [Array.getElem?_setIfInBounds, e] using hl
  · by_cases e : j = i
    · subst e
      have : oj = o := Option.some.inj (hj.symm.trans ho)
      subst this
      rw [slot_put_same (fun t ht => by rw [h.size]; exact hok.inn j oj t ho ht)]
      exact hR
    · have hl' := (getD_set_listed hl).resolve_left e
      rw [slot_put_other (fun t ht hjt => e (hok.one j i oj o t hj ho hjt ht))]
      exact hmono _ _ _ _ hC hG (h.inner j oj hj hl')
theorem Fits.sees {listed : Array Bool} {a : Act} {w : World} {i : Nat} {o : Oper} (h : Fits ops a0 R listed a w) (hi : i ∈ Region.ready .any ops listed) (ho : ops[i]? = some o) : Sees ops a0 R o a w := by
  obtain ⟨_, oj, hoj, hall⟩ := mem_ready.1 hi
  have : oj = o := Option.some.inj (hoj.symm.trans ho)
  subst this
  refine ⟨h.defers, h.size, fun t ht => h.outer t fun j oj' hj _ hd => ?_, fun d od hd hod => ?_⟩
  · unfold freeTmp at ht
    rw [List.all_eq_true] at ht
    have := ht oj' (Array.mem_toList_iff.2 (Array.mem_of_getElem? hj))
    simp [hd] at this
  · obtain ⟨e, he, hb⟩ := List.any_eq_true.1 hd
    simp only [Bool.and_eq_true, beq_iff_eq] at hb
    rw [← hb.1] at hod ⊢
    exact h.inner e.on od hod (hall e (by simpa using he) hb.2)
/-- How many have not come up. -/
def open_ (listed : Array Bool) : Nat := listed.toList.countP fun b => !b
theorem open_set {listed : Array Bool} {i : Nat} (hi : i < listed.size) (h : listed.getD i true = false) : open_ (listed.setIfInBounds i true) + 1 = open_ listed := by
  unfold open_
  have hl : listed.toList[i]'(by simpa using hi) = false := by
    simp [hi] at h
    simpa using h
  have e : (listed.setIfInBounds i true).toList = listed.toList.set i true := by simp
  rw [e]
  have h1 : ∀ (l : List Bool) (i : Nat) (hi : i < l.length), l[i] = false → (l.set i true).countP (fun b => !b) + 1 = l.countP fun b => !b := by
    intro l
    induction l with
    | nil => intro i hi; simp at hi
    | cons b l ih =>
      intro i hi hb
      cases i with
      | zero => simp at hb; subst hb; simp
      | succ i =>
        have := ih i (by simpa using hi) (by simpa using hb)
        simp only [List.set_cons_succ, List.countP_cons]
        omega
  exact h1 _ _ (by simpa using hi) hl
theorem open_zero {listed : Array Bool} (h : open_ listed = 0) : ∀ i, listed.getD i true = true := by
  intro i
  unfold open_ at h
  rw [List.countP_eq_zero] at h
  by_cases hi : i < listed.size
  · have := h (listed[i]) (by simp)
    simp at this
    simp [hi, this]
  · simp [hi]
theorem ready_nil {listed : Array Bool} (hs : listed.size = ops.size) (hok : SoftOk ops a0.tmps.size) (h : Region.ready .any ops listed = []) : ∀ i, i < ops.size → listed.getD i false = true := by
  intro i
  induction i using Nat.strongRecOn with
  | _ i ih =>
    intro hi
    have ho : ops[i]? = some ops[i] := by simp [hi]
    by_cases hl : listed.getD i true = true
    · have hi' : i < listed.size := by omega
      simp [hi'] at hl ⊢
      exact hl
    · exfalso
      have hm : i ∈ Region.ready .any ops listed := mem_ready.2 ⟨by simpa using hl, ops[i], ho, fun e he hb => ih e.on (hok.early i _ ho e he hb) (by have := hok.early i _ ho e he hb; omega)⟩
      rw [h] at hm
      cases hm
theorem wpAny_soft (hok : SoftOk ops a0.tmps.size) (hmono : ∀ i v w w', C w → G w w' → R i v w → R i v w')
    (hstep : ∀ (i : Nat) o, ops[i]? = some o → StepOk P ops Q C G R a0 i o)
    (hQ : ∀ a w, C w → Fits ops a0 R (Array.replicate ops.size true) a w → Q .normal a w) :
    ∀ (fuel : Nat) (listed : Array Bool) (a : Act) (w : World), open_ listed ≤ fuel → C w → Fits ops a0 R listed a w → wpAny P .any ops Q fuel listed a w := by
  have hend : ∀ (listed : Array Bool) (a : Act) (w : World), C w → Fits ops a0 R listed a w → Region.ready .any ops listed = [] → Q .normal a w := by
    intro listed a w hC h hr
    have hall := ready_nil h.lsize hok hr
    refine hQ a w hC ⟨by simp, h.defers, h.size, fun t ht => h.outer t fun i o ho hl => ht i o ho (by have := (Array.getElem?_eq_some_iff.1 ho).1; simp [this]), fun i o ho _ => h.inner i o ho (hall i (Array.getElem?_eq_some_iff.1 ho).1)⟩
  intro fuel
  induction fuel with
  | zero =>
    intro listed a w hf hC h
    have hz := open_zero (Nat.le_zero.1 hf)
    have hr : Region.ready .any ops listed = [] := by
      rw [List.eq_nil_iff_forall_not_mem]
      intro i hi
      have := (mem_ready.1 hi).1
      rw [hz i] at this
      cases this
    exact ⟨hr, hend listed a w hC h hr⟩
  | succ fuel ih =>
    intro listed a w hf hC h
    refine ⟨hend listed a w hC h, fun i hi => ?_⟩
    obtain ⟨hun, o, ho, _⟩ := mem_ready.1 hi
    have hin : i < listed.size := by rw [h.lsize]; exact (Array.getElem?_eq_some_iff.1 ho).1
    have hst := hstep i o ho a w hC (h.sees hi ho) (wpAny P .any ops Q fuel (listed.setIfInBounds i true)) fun v w' hR hC' hG =>
      ih _ _ _ (by have := open_set hin hun; omega) hC' (h.step hok hmono ho hC hG hR)
    unfold wpOp
    rw [ho]
    dsimp only
    split
    · rename_i hw; rw [if_pos hw] at hst; exact .inl hst
    · rename_i hw; rw [if_neg hw] at hst; exact hst
/-- The region. -/
theorem wp_region_soft {id : Nat} {w : World} (hm : P.follows .mixedOrders = true) (C : World → Prop) (G : World → World → Prop) (R : Nat → Value → World → Prop) (hok : softB ops a0.tmps.size = true)
    (hC : C w.drew) (hmono : ∀ i v w w', C w → G w w' → R i v w → R i v w')
    (hstep : ∀ (i : Nat) o, ops[i]? = some o → StepOk P ops Q C G R a0 i o)
    (hQ : ∀ a w, C w → a.defers = a0.defers → a.tmps.size = a0.tmps.size → (∀ t, freeTmp ops t = true → a.tmps.getD t undef = a0.tmps.getD t undef) → (∀ (i : Nat) o, ops[i]? = some o → R i (slotOf o.dst a) w) → Q .normal a w) :
    (Code.region id ops true).wp P Q a0 w := by
  refine wp_region_any hm (wpAny_soft (SoftOk.of hok) hmono hstep (fun a w hC h => hQ a w hC h.defers h.size (fun t ht => h.outer t fun j oj' hj _ hd => ?_) fun i o ho => h.inner i o ho (by have := (Array.getElem?_eq_some_iff.1 ho).1; simp [this])) ops.size (Array.replicate ops.size false) a0 w.drew ?_ hC ⟨by simp, rfl, rfl, fun _ _ => rfl, fun i o ho hl => ?_⟩)
  · unfold freeTmp at ht
    rw [List.all_eq_true] at ht
    have := ht oj' (Array.mem_toList_iff.2 (Array.mem_of_getElem? hj))
    simp [hd] at this
  · unfold open_; exact Nat.le_trans List.countP_le_length (by simp)
  · exfalso
    by_cases hi : i < ops.size <;> simp [hi] at hl
/-- What an operation comes to, its operands' values given. -/
def ValWp (P : Program) (o : Oper) (ρ : Operand → Value) (w : World) (K : Value → World → Prop) : Prop :=
  match (execOp ρ o).run P w with
  | .ok (.value v) w' => K v w'
  | .ok .skip w' => K undef w'
  | .ok (.enter f args) w' => Calls P f args w' fun e w'' => ∃ v, e = .returned v ∧ K v w''
  | _ => False
theorem wp_of_val {o : Oper} {a : Act} {w : World} {K : Act → World → Prop} (h : ValWp P o a.eval w fun v w' => K (a.put o.dst v) w') : Oper.wp P o a w K Q := by
  unfold ValWp at h
  unfold Oper.wp
  generalize (execOp a.eval o).run P w = r at *
  cases r with
  | ok n w' =>
    cases n <;> simp only [Oper.upon] at h ⊢
    case value v => exact h
    case skip => exact h
    case enter f args => exact h.mono fun e w'' ⟨v, he, hk⟩ => by subst he; exact hk
  | halt x w' => simp at h
theorem ValWp.congr {o : Oper} {ρ ρ' : Operand → Value} {w : World} {K : Value → World → Prop} (hs : ∀ cs b, o.op ≠ .select cs b) (h : ∀ x ∈ o.op.operands, ρ x = ρ' x) (hv : ValWp P o ρ' w K) : ValWp P o ρ w K := by
  unfold ValWp at *
  rw [execOp_congr o hs h]
  exact hv
/-- A relation that lasts. -/
structure Sp (G : World → World → Prop) where
  p : Value → World → Prop
  lasts : ∀ v w w', G w w' → p v w → p v w'
def Sp.val {G : World → World → Prop} (v : Value) : Sp G := ⟨fun u _ => u = v, fun _ _ _ _ h => h⟩
def Sp.any {G : World → World → Prop} : Sp G := ⟨fun _ _ => True, fun _ _ _ _ h => h⟩
def spAt {G : World → World → Prop} (l : List (Sp G)) (i : Nat) (v : Value) (w : World) : Prop := (l.getD i Sp.any).p v w
/-- What operation number i owes, its guard apart. -/
def Owes (P : Program) (ops : Array Oper) (C : World → Prop) (G : World → World → Prop) (R : Nat → Value → World → Prop) (a0 : Act) (i : Nat) (o : Oper) : Prop :=
  ∀ (a : Act) (w : World), C w → Sees ops a0 R o a w →
    (Region.wanted o (yielded ops a.tmps) = true ∧ ValWp P o a.eval w fun v w' => R i (if o.dst.isSome then v else undef) w' ∧ C w' ∧ G w w') ∨
    (Region.wanted o (yielded ops a.tmps) = false ∧ R i undef w)
def OwesAll (P : Program) (ops : Array Oper) (C : World → Prop) (G : World → World → Prop) (R : Nat → Value → World → Prop) (a0 : Act) : Nat → List Oper → Prop
  | _, [] => True
  | n, o :: l => Owes P ops C G R a0 n o ∧ OwesAll P ops C G R a0 (n + 1) l
theorem owesAll_at : ∀ (l : List Oper) (n i : Nat) (o : Oper), OwesAll P ops C G R a0 n l → l[i]? = some o → Owes P ops C G R a0 (n + i) o
  | [], _, i, o, _, h => by simp at h
  | x :: l, n, 0, o, h, ho => by simp at ho; subst ho; exact h.1
  | x :: l, n, i + 1, o, h, ho => by
    have := owesAll_at l (n + 1) i o h.2 (by simpa using ho)
    rwa [show n + 1 + i = n + (i + 1) by omega] at this
/-- The region, by a list of what each operation owes. -/
theorem wp_region_owes {id : Nat} {w : World} {l : List Oper} (hm : P.follows .mixedOrders = true) (C : World → Prop) (G : World → World → Prop) (hG : ∀ w, G w w) (sp : List (Sp G)) (hok : softB l.toArray a0.tmps.size = true)
    (hC : C w.drew) (hstep : OwesAll P l.toArray C G (spAt sp) a0 0 l)
    (hQ : ∀ a w, C w → a.defers = a0.defers → a.tmps.size = a0.tmps.size → (∀ t, freeTmp l.toArray t = true → a.tmps.getD t undef = a0.tmps.getD t undef) → (∀ (i : Nat) o, l[i]? = some o → spAt sp i (slotOf o.dst a) w) → Q .normal a w) :
    (Code.region id l.toArray true).wp P Q a0 w := by
  refine wp_region_soft hm C G (spAt sp) hok hC (fun i v w w' _ hg h => (sp.getD i Sp.any).lasts v w w' hg h) (fun i o ho => ?_) (fun a w hc hd hs hf hr => hQ a w hc hd hs hf fun i o ho => hr i o (by simpa using ho))
  have hw := owesAll_at l 0 i o hstep (by simpa using ho)
  rw [Nat.zero_add] at hw
  intro a w hc hsee K hK
  rcases hw a w hc hsee with ⟨h1, h2⟩ | ⟨h1, h2⟩
  · rw [if_pos h1]
    refine wp_of_val ?_
    unfold ValWp at h2 ⊢
    generalize (execOp a.eval o).run P w = r at *
    cases r with
    | ok n w' =>
      cases n <;> simp only at h2 ⊢
      case value v => exact hK v w' h2.1 h2.2.1 h2.2.2
      case skip => exact hK undef w' h2.1 h2.2.1 h2.2.2
      case enter f args => exact h2.mono fun e w'' ⟨v, he, hk⟩ => ⟨v, he, hK v w'' hk.1 hk.2.1 hk.2.2⟩
    | halt x w' => simp at h2
  · rw [h1]
    simp only [Bool.false_eq_true, if_false]
    exact hK undef w (by simpa using h2) hc (hG w)
theorem yielded_bool {a : Act} {j : Nat} {d : Tmp} {b : Bool} (h : (ops[j]?).bind (·.dst) = some d) (hv : a.tmps.getD d undef = .bool b) : yielded ops a.tmps j = some b := by
  unfold yielded
  rw [h]
  by_cases hd : d < a.tmps.size
  · simp [hd] at hv ⊢
    rw [hv]
  · simp [hd, undef] at hv
theorem ValWp.pure {o : Oper} {ρ : Operand → Value} {w w' : World} {K : Value → World → Prop} {v : Value} (h : ∀ K' : Value → World → Prop, K' v w' → ValWp P o ρ w K') (hk : K v w') : ValWp P o ρ w K := h K hk
theorem run_enter {f : FuncId} {fn : Func} {c : Code} (hf : P.funcs[f]? = some fn) (hname : (fn.name == "runtime.NumGoroutine") = false) (hb : fn.body = some c) (args : Array Value) (w : World) : (callFunc f args).run P w = .ok (.enter f args) w := by
  have hn : ¬ fn.name = "runtime.NumGoroutine" := by simpa using hname
  unfold callFunc
  simp [hf, hn, hb]
/-- A call of a function that the text names. -/
theorem ValWp.call {o : Oper} {f : FuncId} {xs : Array Operand} {ats : Array TypeId} {ρ : Operand → Value} {w : World} {K : Value → World → Prop} {fn : Func} {c : Code} (vals : Array Value)
    (hop : o.op = .call { callee := .value (.func f), args := xs, argTypes := ats }) (hρ : ρ (.func f) = .func (.func f) #[] #[]) (hf : P.funcs[f]? = some fn) (hname : (fn.name == "runtime.NumGoroutine") = false) (hb : fn.body = some c)
    (hv : xs.map ρ = vals) (h : Calls P f vals w fun e w'' => ∃ v, e = .returned v ∧ K v w'') : ValWp P o ρ w K := by
  have e1 : execOp ρ o = callFunc f vals := by
    subst hv
    unfold execOp
    simp [hop, resolve, Deferred.ofValue, invoke, hρ]
  unfold ValWp
  rw [e1, run_enter hf hname hb]
  exact h
end
end Go.Proofs.Yteljmlodbnfhbaa
