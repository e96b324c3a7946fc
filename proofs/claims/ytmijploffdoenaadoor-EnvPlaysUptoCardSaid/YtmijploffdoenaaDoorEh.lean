/- Envs in variables of a law's; what a row of sets comes to; words. No premises. -/
import Derived.Test.YtmijploffdoenaaDoorNwv
import Derived.Test.YtmijploffdoenaaDoorNf
namespace Go.Proofs.YtmijploffdoenaaDoor
open Go.RowKit Go.Maps
namespace En
/-- A variable that holds an Env. -/
abbrev Hold (w : World) (b : Nat) (c0 c1 c2 c3 : Value) (e : E) : Prop := w.heap[b]? = some (.cells #[c0, c1, c2, c3] 28 (0, 0)) ∧ RdE w (.agg #[c0, c1, c2, c3]) e
theorem Hold.later {w w' : World} {b : Nat} {c0 c1 c2 c3 : Value} {e : E} (h : Hold w b c0 c1 c2 c3 e) (hl : Later w w') : Hold w' b c0 c1 c2 c3 e := ⟨later_cells hl h.1, h.2.later hl⟩
theorem Hold.c {w : World} {b : Nat} {c0 c1 c2 c3 : Value} {e : E} (h : Hold w b c0 c1 c2 c3 e) : w.cell? ⟨b, 0, none⟩ = some c0 ∧ w.cell? ⟨b, 1, none⟩ = some c1 ∧ w.cell? ⟨b, 2, none⟩ = some c2 ∧ w.cell? ⟨b, 3, none⟩ = some c3 := ⟨(cell_row h.1 0).1, (cell_row h.1 1).1, (cell_row h.1 2).1, (cell_row h.1 3).1⟩
theorem Hold.z {w : World} {b : Nat} {c0 c1 c2 c3 : Value} {e : E} (h : Hold w b c0 c1 c2 c3 e) : ∀ i, w.frozen? ⟨b, i, none⟩ = false := fun i => (cell_row h.1 i).2
theorem Hold.lt {w : World} {b : Nat} {c0 c1 c2 c3 : Value} {e : E} (h : Hold w b c0 c1 c2 c3 e) : b < w.heap.size := lt_of_block h.1
/-- An Env's value, written out. -/
theorem RdE.shape {w : World} {v : Value} {e : E} (h : RdE w v e) : ∃ A5 c5 A4 c4, v = .agg #[.slice A5 e.vars.length c5, .slice A4 e.args.length c4, .int .i64 (e.status : Int), .string (mkS e.flags)] := by
  obtain ⟨v0, A4, n4, c4, rfl, hv, hr, _⟩ := h
  obtain ⟨A5, c5, rfl, _⟩ := hv.le
  have hn : n4 = e.args.length := len_of hr
  subst hn
  exact ⟨A5, c5, A4, c4, rfl⟩
/-- A new variable. -/
theorem Hold.new {w : World} {c0 c1 c2 c3 : Value} {e : E} (h : RdE w (.agg #[c0, c1, c2, c3]) e) : Hold (w.alloc (.cells #[c0, c1, c2, c3] 28)) w.heap.size c0 c1 c2 c3 e := ⟨heap_alloc_new w _, h.later (Later.alloc _ _)⟩
/-- A variable that is written over. -/
theorem Hold.put {w : World} {b base : Nat} {c0 c1 c2 c3 d0 d1 d2 d3 : Value} {e e' : E} (h : Hold w b c0 c1 c2 c3 e) (hf : FrE base w (.agg #[d0, d1, d2, d3]) e') (hb : b < base) :
    ∃ w', w' = (((w.setCell ⟨b, 0, none⟩ d0).setCell ⟨b, 1, none⟩ d1).setCell ⟨b, 2, none⟩ d2).setCell ⟨b, 3, none⟩ d3 ∧ Hold w' b d0 d1 d2 d3 e' ∧ w.grownBy w' (some b) := by
  have g1 := set_only w b 0 d0
  have g2 := set_only (w.setCell ⟨b, 0, none⟩ d0) b 1 d1
  have g3 := set_only ((w.setCell ⟨b, 0, none⟩ d0).setCell ⟨b, 1, none⟩ d1) b 2 d2
  have g4 := set_only (((w.setCell ⟨b, 0, none⟩ d0).setCell ⟨b, 1, none⟩ d1).setCell ⟨b, 2, none⟩ d2) b 3 d3
  have s1 := g1.size
  have s2 := g2.size
  have s3 := g3.size
  refine ⟨_, rfl, ⟨set_row (set_row (set_row (set_row h.1 0 d0) 1 d1) 2 d2) 3 d3, ((((hf.set g1 hb).set g2 hb).set g3 hb).set g4 hb).rd⟩, ⟨g4.os.trans (g3.os.trans (g2.os.trans g1.os)), g4.tape.trans (g3.tape.trans (g2.tape.trans g1.tape)), g4.output.trans (g3.output.trans (g2.output.trans g1.output)), Nat.le_trans s1 (Nat.le_trans s2 (Nat.le_trans s3 g4.size)), fun k hk hne => ?_⟩⟩
  exact (g4.block k (by omega) hne).trans ((g3.block k (by omega) hne).trans ((g2.block k (by omega) hne).trans (g1.block k hk hne)))
def eZ : E := ⟨[], [], 0, []⟩
/-- What a row of sets comes to. -/
def sets (l : List Doing) : E := l.foldl (fun e a => set nm e a.name a.value) eZ
theorem sets_snoc (l : List Doing) (a : Doing) : sets (l ++ [a]) = set nm (sets l) a.name a.value := by unfold sets; rw [List.foldl_append]; rfl
theorem set_status (e : E) (s y : B) : (set nm e s y).status = e.status ∧ (set nm e s y).flags = e.flags := by unfold set; split <;> exact ⟨rfl, rfl⟩
theorem sets_ok (l : List Doing) : Rises (sets l).vars ∧ (sets l).vars.length ≤ l.length ∧ (sets l).args = [] ∧ (sets l).status = 0 ∧ (sets l).flags = [] := by
  suffices ∀ n (l : List Doing), l.length = n → Rises (sets l).vars ∧ (sets l).vars.length ≤ l.length ∧ (sets l).args = [] ∧ (sets l).status = 0 ∧ (sets l).flags = [] from this _ l rfl
  intro n
  induction n with
  | zero => intro l hl; rw [List.length_eq_zero_iff.1 hl]; exact ⟨Rises.nil, by decide, rfl, rfl, rfl⟩
  | succ n ih =>
    intro l hl
    obtain ⟨d, c, rfl⟩ := snoc_of l (by intro e; rw [e] at hl; cases hl)
    have hd : d.length = n := by rw [List.length_append] at hl; simpa using hl
    obtain ⟨h1, h2, h3, h4, h5⟩ := ih d hd
    rw [sets_snoc]
    refine ⟨set_rises h1 _ _, ?_, by rw [set_args]; exact h3, by rw [(set_status _ _ _).1]; exact h4, by rw [(set_status _ _ _).2]; exact h5⟩
    have := set_len_le (sets d) c.name c.value
    rw [List.length_append, List.length_singleton]
    omega
/-- Values are no longer than those that were set. -/
theorem mem_setV {l : Vs} {n v : B} {q : B × B} (h : q ∈ setV l n v) : q = (n, v) ∨ q ∈ l := by
  rcases mem_put.1 h with h | h
  · exact .inl h
  · exact .inr (mem_unset.1 h).1
theorem var_mem {l : Vs} {n v : B} (h : var l n = some v) : (n, v) ∈ l := by
  induction l with
  | nil => cases h
  | cons p l ih =>
    unfold var at h
    split at h
    · rename_i e; injection h with h; rw [← h, ← e]; exact List.mem_cons_self ..
    · exact List.mem_cons_of_mem _ (ih h)
/-- Values up to so many bytes. -/
def Vle (l : Vs) (k : Nat) : Prop := ∀ q ∈ l, q.2.length ≤ k
theorem Vle.set {e : E} {k : Nat} (h : Vle e.vars k) {s y : B} (hy : y.length ≤ k) : Vle (set nm e s y).vars k := by
  unfold En.set
  split
  · intro q hq
    rcases mem_setV hq with rfl | hq
    · exact hy
    · exact h q hq
  · exact h
theorem Vle.unset {e : E} {k : Nat} (h : Vle e.vars k) (s : B) : Vle (unsetE e s).vars k := fun q hq => h q (mem_unset.1 hq).1
theorem Vle.ifs {l : Vs} {k : Nat} (h : Vle l k) : (ifs l).length ≤ max k 3 := by
  unfold En.ifs
  cases e : var l IFS with
  | none => show 3 ≤ _; omega
  | some v => have h1 : v.length ≤ k := h _ (var_mem e); show v.length ≤ _; omega
theorem sets_vle (l : List Doing) {k : Nat} (h : ∀ x ∈ l, x.value.length ≤ k) : Vle (sets l).vars k := by
  suffices ∀ n (l : List Doing), l.length = n → (∀ x ∈ l, x.value.length ≤ k) → Vle (sets l).vars k from this _ l rfl h
  intro n
  induction n with
  | zero => intro l hl _; rw [List.length_eq_zero_iff.1 hl]; intro q hq; cases hq
  | succ n ih =>
    intro l hl h
    obtain ⟨d, c, rfl⟩ := snoc_of l (by intro e; rw [e] at hl; cases hl)
    have hd : d.length = n := by rw [List.length_append] at hl; simpa using hl
    rw [sets_snoc]
    exact (ih d hd fun x hx => h x (by simp [hx])).set (h c (by simp))
/-- A byte within a word. -/
def okB (i : Nat) (c : UInt8) : Bool := Ar.letB c || (decide (0 < i) && Ar.dig c)
def wordTo (s : B) (i : Nat) : Bool := (List.range i).all fun j => okB j (s.getD j 0)
theorem wordTo_succ (s : B) (i : Nat) (h : i < s.length) : wordTo s (i + 1) = (wordTo s i && okB i s[i]) := by
  unfold wordTo
  rw [List.range_succ, List.all_append]
  simp [List.getD_eq_getElem?_getD, h]
theorem let_not_dig {c : UInt8} (h : Ar.letB c = true) : Ar.dig c = false := by
  revert h
  have : ∀ i : Fin 256, Ar.letB (UInt8.ofNat i.val) = true → Ar.dig (UInt8.ofNat i.val) = false := by decide +kernel
  have h2 := this ⟨c.toNat, UInt8.toNat_lt c⟩
  rw [show UInt8.ofNat c.toNat = c from UInt8.ofNat_toNat] at h2
  exact h2
theorem word_name {s : B} : Ar.nameB s = (!decide (s = []) && wordTo s s.length) := by
  cases s with
  | nil => rfl
  | cons c s =>
    have e1 : (!decide (c :: s = [])) = true := by simp
    rw [e1, Bool.true_and]
    show (!Ar.dig c && (c :: s).all fun c => Ar.letB c || Ar.dig c) = _
    rw [Bool.eq_iff_iff, Bool.and_eq_true, wordTo, List.all_eq_true, List.all_eq_true, Bool.not_eq_true']
    constructor
    · rintro ⟨h1, h2⟩ j hj
      rw [List.mem_range] at hj
      have h3 := h2 _ (List.getElem_mem hj)
      rw [List.getD_eq_getElem?_getD, List.getElem?_eq_getElem hj, Option.getD_some]
      unfold okB
      cases j with
      | zero =>
        rw [List.getElem_cons_zero] at h3 ⊢
        rw [h1, Bool.or_false] at h3
        rw [h3]; rfl
      | succ j => simpa using h3
    · intro h
      refine ⟨?_, ?_⟩
      · have := h 0 (by simp)
        simp only [List.getD_cons_zero] at this
        unfold okB at this
        simp at this
        exact let_not_dig this
      · intro x hx
        obtain ⟨j, hj, rfl⟩ := List.mem_iff_getElem.1 hx
        have := h j (List.mem_range.2 hj)
        rw [List.getD_eq_getElem?_getD, List.getElem?_eq_getElem hj, Option.getD_some] at this
        unfold okB at this
        rw [Bool.or_eq_true] at this ⊢
        rcases this with h1 | h1
        · exact .inl h1
        · rw [Bool.and_eq_true] at h1; exact .inr h1.2
end En
end Go.Proofs.YtmijploffdoenaaDoor
/- Calls of an Env's methods as laws use them. Behind Vd. -/
namespace Go.Proofs.YtmijploffdoenaaDoor
open Go.RowKit Go.Maps
namespace En
/-- Get, of one Env and one name. -/
abbrev GetOk (e : E) (s t : B) (b : Bool) : Prop := ∀ w v, RdE w v e → Vd w → Calls Tryd.prog 20 #[v, .string (mkS s)] w fun x w' => x = .returned (.tuple #[.string (mkS t), .bool b]) ∧ Later w w'
/-- An Env whose texts fit. -/
structure Small (e : E) : Prop where
  args : e.args.length ≤ 1000
  each : ∀ x ∈ e.args, x.length ≤ 2000000
  status : e.status ≤ 1000000
  ifs : (ifs e.vars).length ≤ 9223372036854775807
theorem Small.join {e : E} (h : Small e) : (joined ((En.ifs e.vars).take 1) e.args).length ≤ 20000000000000 := by
  have h1 := joined_len ((En.ifs e.vars).take 1) 2000000 e.args h.each
  have h2 : ((En.ifs e.vars).take 1).length ≤ 1 := by rw [List.length_take]; omega
  have h3 : e.args.length * (2000000 + ((En.ifs e.vars).take 1).length) ≤ 1000 * 2000001 := Nat.mul_le_mul h.args (by omega)
  omega
theorem getOk {e : E} (h : Small e) {s : B} (hs : s.length ≤ 2000000) : ∃ t b, GetOk e s t b ∧ get nm e s = (t, b) :=
  ⟨_, _, fun w v hr hd => get_v v e s w hr hd hs (by have := h.args; omega) h.status h.ifs h.join, rfl⟩
theorem GetOk.of {e : E} {s t : B} {b : Bool} (h : Small e) (hs : s.length ≤ 2000000) (hg : get nm e s = (t, b)) : GetOk e s t b := fun w v hr hd => by
  have := get_v v e s w hr hd hs (by have := h.args; omega) h.status h.ifs h.join
  rw [hg] at this
  exact this
theorem okB_iff (i : Nat) (c : UInt8) : okB i c = true ↔ (97 ≤ c.toNat ∧ c.toNat ≤ 122) ∨ (65 ≤ c.toNat ∧ c.toNat ≤ 90) ∨ c.toNat = 95 ∨ (0 < i ∧ 48 ≤ c.toNat ∧ c.toNat ≤ 57) := by
  have h95 : (c == 95) = true ↔ c.toNat = 95 := by
    rw [beq_iff_eq]
    exact ⟨fun h => by rw [h]; rfl, fun h => UInt8.toNat_inj.1 h⟩
  unfold okB Ar.letB Ar.dig
  simp only [Bool.or_eq_true, Bool.and_eq_true, decide_eq_true_eq, UInt8.le_iff_toNat_le, h95]
  have e1 : UInt8.toNat 97 = 97 := rfl
  have e2 : UInt8.toNat 122 = 122 := rfl
  have e3 : UInt8.toNat 65 = 65 := rfl
  have e4 : UInt8.toNat 90 = 90 := rfl
  have e5 : UInt8.toNat 48 = 48 := rfl
  have e6 : UInt8.toNat 57 = 57 := rfl
  omega
/-- A new variable for what was told. -/
theorem told_new {W w : World} {e : E} {v : Value} (hf : FrE W.heap.size w v e) : ∃ A5 c5 A4 c4, v = .agg #[.slice A5 e.vars.length c5, .slice A4 e.args.length c4, .int .i64 (e.status : Int), .string (mkS e.flags)] ∧ ∃ w3, w3 = w.alloc (.cells #[.slice A5 e.vars.length c5, .slice A4 e.args.length c4, .int .i64 (e.status : Int), .string (mkS e.flags)] 28) ∧ Hold w3 w.heap.size (.slice A5 e.vars.length c5) (.slice A4 e.args.length c4) (.int .i64 (e.status : Int)) (.string (mkS e.flags)) e ∧ Later w w3 := by
  obtain ⟨A5, c5, A4, c4, rfl⟩ := hf.rd.shape
  exact ⟨_, _, _, _, rfl, _, rfl, Hold.new hf.rd, Later.alloc _ _⟩
end En
end Go.Proofs.YtmijploffdoenaaDoor
