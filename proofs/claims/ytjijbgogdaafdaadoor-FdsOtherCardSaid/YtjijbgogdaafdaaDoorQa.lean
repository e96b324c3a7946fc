/- WHICH FILE STANDS FOR WHICH NUMBER, by the chapter: pairs that rise; what is put, taken away, got, shown. No premises. -/
import Derived.Lib.ItoaNum
import Derived.Lib.Join
namespace Go.Proofs.YtjijbgogdaafdaaDoor
namespace Fd
abbrev B := List UInt8
abbrev Ps := List (Int × Int)
def Rises (l : Ps) : Prop := l.Pairwise fun a b => a.1 < b.1
def In (x : Int) : Prop := -9223372036854775808 ≤ x ∧ x ≤ 9223372036854775807
def Ok (l : Ps) : Prop := ∀ p ∈ l, In p.1 ∧ In p.2
def get : Ps → Int → Int × Bool
  | [], _ => (0, false)
  | p :: l, x => if p.1 = x then (p.2, true) else get l x
def wo (l : Ps) (x : Int) : Ps := l.filter fun p => !decide (p.1 = x)
def lo (l : Ps) (x : Int) : Ps := l.filter fun p => decide (p.1 < x)
def hi (l : Ps) (x : Int) : Ps := l.filter fun p => decide (x < p.1)
def wi (l : Ps) (x k : Int) : Ps := lo l x ++ (x, k) :: hi l x
def one (p : Int × Int) : B := Lib.itoa p.1 ++ 61 :: Lib.itoa p.2
def text (l : Ps) : B := Lib.join (l.map one) [32]
def first : Ps := [(0, 0), (1, 1), (2, 2)]
theorem rises_first : Rises first := by unfold Rises first; simp
theorem ok_first : Ok first := by intro p hp; simp [first] at hp; rcases hp with rfl | rfl | rfl <;> (unfold In; omega)
theorem Rises.filter {l : Ps} (h : Rises l) (f : Int × Int → Bool) : Rises (l.filter f) := List.Pairwise.filter _ h
theorem rises_wo {l : Ps} (h : Rises l) (x : Int) : Rises (wo l x) := h.filter _
theorem ok_wo {l : Ps} (h : Ok l) (x : Int) : Ok (wo l x) := fun p hp => h p (List.mem_filter.1 hp).1
theorem len_wo (l : Ps) (x : Int) : (wo l x).length ≤ l.length := List.length_filter_le _ _
theorem mem_lo {l : Ps} {x : Int} {p : Int × Int} : p ∈ lo l x ↔ p ∈ l ∧ p.1 < x := by unfold lo; rw [List.mem_filter]; simp
theorem mem_hi {l : Ps} {x : Int} {p : Int × Int} : p ∈ hi l x ↔ p ∈ l ∧ x < p.1 := by unfold hi; rw [List.mem_filter]; simp
theorem rises_wi {l : Ps} (h : Rises l) (x k : Int) : Rises (wi l x k) := by
  unfold wi Rises
  rw [List.pairwise_append, List.pairwise_cons]
  refine ⟨h.filter _, ⟨fun p hp => (mem_hi.1 hp).2, h.filter _⟩, fun a ha b hb => ?_⟩
  have h1 := (mem_lo.1 ha).2
  rcases List.mem_cons.1 hb with rfl | hb
  · exact h1
  · have := (mem_hi.1 hb).2; omega
theorem ok_wi {l : Ps} (h : Ok l) {x k : Int} (hx : In x) (hk : In k) : Ok (wi l x k) := by
  intro p hp
  unfold wi at hp
  rcases List.mem_append.1 hp with hp | hp
  · exact h p (mem_lo.1 hp).1
  · rcases List.mem_cons.1 hp with rfl | hp
    · exact ⟨hx, hk⟩
    · exact h p (mem_hi.1 hp).1
theorem len_lohi (x : Int) : ∀ l : Ps, (lo l x).length + (hi l x).length ≤ l.length
  | [] => by simp [lo, hi]
  | p :: l => by
    have ih := len_lohi x l
    unfold lo hi at ih ⊢
    rw [List.filter_cons, List.filter_cons]
    by_cases h1 : p.1 < x
    · have h2 : ¬ x < p.1 := by omega
      simp only [h1, h2, decide_true, decide_false, if_true, List.length_cons]
      simp only [Bool.false_eq_true, if_false]
      omega
    · by_cases h2 : x < p.1
      · simp only [h1, h2, decide_true, decide_false, if_true, List.length_cons]
        simp only [Bool.false_eq_true, if_false]
        omega
      · simp only [h1, h2, decide_false, Bool.false_eq_true, if_false, List.length_cons]
        omega
theorem len_wi (l : Ps) (x k : Int) : (wi l x k).length ≤ l.length + 1 := by
  have := len_lohi x l
  unfold wi
  rw [List.length_append, List.length_cons]
  omega
/-! ### what is got -/
theorem get_none {l : Ps} {x : Int} (h : ∀ p ∈ l, p.1 ≠ x) : get l x = (0, false) := by
  induction l with
  | nil => rfl
  | cons p l ih => rw [get, if_neg (h p (by simp)), ih fun q hq => h q (by simp [hq])]
theorem get_app {a b : Ps} {x : Int} (h : ∀ p ∈ a, p.1 ≠ x) : get (a ++ b) x = get b x := by
  induction a with
  | nil => rfl
  | cons p a ih => rw [List.cons_append, get, if_neg (h p (by simp)), ih fun q hq => h q (by simp [hq])]
theorem get_put (l : Ps) (x k : Int) : get (wi l x k) x = (k, true) := by
  unfold wi
  rw [get_app fun p hp => by have := (mem_lo.1 hp).2; omega, get, if_pos rfl]
theorem get_filter {l : Ps} {y : Int} {f : Int × Int → Bool} (h : ∀ p ∈ l, p.1 = y → f p = true) : get (l.filter f) y = get l y := by
  induction l with
  | nil => rfl
  | cons p l ih =>
    have ih := ih fun q hq => h q (by simp [hq])
    rw [List.filter_cons]
    by_cases hy : p.1 = y
    · rw [if_pos (h p (by simp) hy), get, if_pos hy, get, if_pos hy]
    · rw [get, if_neg hy]
      by_cases hf : f p = true
      · rw [if_pos hf, get, if_neg hy, ih]
      · rw [if_neg hf, ih]
theorem get_other (l : Ps) (x k : Int) {y : Int} (hy : y ≠ x) : get (wi l x k) y = get l y := by
  unfold wi
  rcases Int.lt_or_lt_of_ne hy with h | h
  · by_cases hm : ∃ p ∈ lo l x, p.1 = y
    · have : ∀ (a b : Ps), (∃ p ∈ a, p.1 = y) → get (a ++ b) y = get a y := by
        intro a b
        induction a with
        | nil => rintro ⟨_, hp, _⟩; cases hp
        | cons q a ih =>
          rintro ⟨p, hp, e⟩
          rw [List.cons_append, get, get]
          by_cases hq : q.1 = y
          · rw [if_pos hq, if_pos hq]
          · rw [if_neg hq, if_neg hq]
            rcases List.mem_cons.1 hp with rfl | hp
            · exact absurd e hq
            · exact ih ⟨p, hp, e⟩
      rw [this _ _ hm]
      exact get_filter fun p _ e => by simp; omega
    · have hn : ∀ p ∈ lo l x, p.1 ≠ y := fun p hp e => hm ⟨p, hp, e⟩
      rw [get_app hn, get, if_neg (fun e => hy e.symm), get_none fun p hp => by have := (mem_hi.1 hp).2; omega]
      exact (get_none fun p hp e => hn p (mem_lo.2 ⟨hp, by omega⟩) e).symm
  · rw [get_app fun p hp => by have := (mem_lo.1 hp).2; omega, get, if_neg (fun e => hy e.symm)]
    exact get_filter fun p _ e => by simp; omega
theorem get_gone (l : Ps) (x : Int) : (get (wo l x) x).2 = false := by
  rw [get_none fun p hp e => by
    have := (List.mem_filter.1 hp).2
    simp at this
    exact this e]
theorem lo_filter (l : Ps) (x : Int) : (lo l x).filter (fun p => !decide (p.1 = x)) = lo l x := by
  rw [List.filter_eq_self]
  intro p hp
  have := (mem_lo.1 hp).2
  simp; omega
theorem hi_filter (l : Ps) (x : Int) : (hi l x).filter (fun p => !decide (p.1 = x)) = hi l x := by
  rw [List.filter_eq_self]
  intro p hp
  have := (mem_hi.1 hp).2
  simp; omega
theorem wo_lohi {l : Ps} (h : Rises l) (x : Int) : wo l x = lo l x ++ hi l x := by
  induction l with
  | nil => rfl
  | cons p l ih =>
    have h1 := List.pairwise_cons.1 h
    have ih := ih h1.2
    unfold wo lo hi at ih ⊢
    rw [List.filter_cons, List.filter_cons, List.filter_cons, ih]
    rcases Int.lt_trichotomy p.1 x with hx | hx | hx
    · have e1 : ¬ p.1 = x := by omega
      have e2 : ¬ x < p.1 := by omega
      simp [hx, e1, e2]
    · have e2 : ¬ x < p.1 := by omega
      have e1 : ¬ p.1 < x := by omega
      simp [hx]
    · have e1 : ¬ p.1 = x := by omega
      have e2 : ¬ p.1 < x := by omega
      have e3 : l.filter (fun p => decide (p.1 < x)) = [] := by
        rw [List.filter_eq_nil_iff]
        intro q hq
        have := h1.1 q hq
        simp; omega
      simp [hx, e1, e2, e3]
theorem wo_wi {l : Ps} (h : Rises l) (x k : Int) : wo (wi l x k) x = wo l x := by
  rw [wo_lohi h]
  unfold wi wo
  rw [List.filter_append, List.filter_cons, lo_filter, hi_filter]
  simp
theorem lo_lo (l : Ps) (x : Int) : lo (lo l x) x = lo l x := by
  show (lo l x).filter _ = _
  rw [List.filter_eq_self]
  intro p hp
  simp [(mem_lo.1 hp).2]
theorem wi_wi (l : Ps) (x k m : Int) : wi (wi l x k) x m = wi l x m := by
  have h1 : lo (wi l x k) x = lo l x := by
    show (lo l x ++ (x, k) :: hi l x).filter _ = _
    rw [List.filter_append, List.filter_cons]
    have e : (hi l x).filter (fun p => decide (p.1 < x)) = [] := by
      rw [List.filter_eq_nil_iff]
      intro p hp
      have := (mem_hi.1 hp).2
      simp; omega
    rw [e, show (lo l x).filter (fun p => decide (p.1 < x)) = lo l x from lo_lo l x]
    simp
  have h2 : hi (wi l x k) x = hi l x := by
    show (lo l x ++ (x, k) :: hi l x).filter _ = _
    rw [List.filter_append, List.filter_cons]
    have e : (lo l x).filter (fun p => decide (x < p.1)) = [] := by
      rw [List.filter_eq_nil_iff]
      intro p hp
      have := (mem_lo.1 hp).2
      simp; omega
    have e2 : (hi l x).filter (fun p => decide (x < p.1)) = hi l x := by
      rw [List.filter_eq_self]
      intro p hp
      simp [(mem_hi.1 hp).2]
    rw [e, e2]
    simp
  unfold wi
  rw [show lo (lo l x ++ (x, k) :: hi l x) x = lo l x from h1, show hi (lo l x ++ (x, k) :: hi l x) x = hi l x from h2]
/-! ### places -/
def Place (l : Ps) (x : Int) (k : Nat) (b : Bool) : Prop := k ≤ l.length ∧ (∀ j (h : j < l.length), j < k → l[j].1 < x) ∧ (∀ j (h : j < l.length), k ≤ j → x ≤ l[j].1) ∧ (b = true ↔ ∃ h : k < l.length, l[k].1 = x)
theorem rises_at {l : Ps} (hr : Rises l) {i j : Nat} (hi : i < l.length) (hj : j < l.length) (hij : i < j) : l[i].1 < l[j].1 := by
  have := List.pairwise_iff_getElem.1 hr i j (by simpa using hi) (by simpa using hj) hij
  simpa using this
theorem place_lo {l : Ps} {x : Int} {k : Nat} {b : Bool} (h : Place l x k b) : lo l x = l.take k := by
  have e := (List.take_append_drop k l).symm
  rw [e]
  unfold lo
  rw [List.filter_append]
  have h1 : (l.take k).filter (fun p => decide (p.1 < x)) = l.take k := by
    rw [List.filter_eq_self]
    intro p hp
    obtain ⟨j, hj, rfl⟩ := List.mem_iff_getElem.1 hp
    rw [List.length_take] at hj
    rw [List.getElem_take]
    simpa using h.2.1 j (by omega) (by omega)
  have h2 : (l.drop k).filter (fun p => decide (p.1 < x)) = [] := by
    rw [List.filter_eq_nil_iff]
    intro p hp
    obtain ⟨j, hj, rfl⟩ := List.mem_iff_getElem.1 hp
    rw [List.length_drop] at hj
    rw [List.getElem_drop]
    simpa using h.2.2.1 (k + j) (by omega) (by omega)
  rw [h1, h2, List.append_nil]
  rw [← e]
theorem drop_hi {l : Ps} {x : Int} {m : Nat} (hall : ∀ j (hj : j < l.length), m ≤ j → x < l[j].1) (hnot : ∀ j (hj : j < l.length), j < m → ¬ x < l[j].1) : hi l x = l.drop m := by
  have e := (List.take_append_drop m l).symm
  rw [e]
  unfold hi
  rw [List.filter_append]
  have h1 : (l.take m).filter (fun p => decide (x < p.1)) = [] := by
    rw [List.filter_eq_nil_iff]
    intro p hp
    obtain ⟨j, hj, rfl⟩ := List.mem_iff_getElem.1 hp
    rw [List.length_take] at hj
    rw [List.getElem_take]
    simpa using hnot j (by omega) (by omega)
  have h2 : (l.drop m).filter (fun p => decide (x < p.1)) = l.drop m := by
    rw [List.filter_eq_self]
    intro p hp
    obtain ⟨j, hj, rfl⟩ := List.mem_iff_getElem.1 hp
    rw [List.length_drop] at hj
    rw [List.getElem_drop]
    simpa using hall (m + j) (by omega) (by omega)
  rw [h1, h2, List.nil_append]
  rw [← e]
theorem hi_new {l : Ps} {x : Int} {k : Nat} (h : Place l x k false) (hr : Rises l) : hi l x = l.drop k := by
  refine drop_hi (fun j hj hkj => ?_) (fun j hj hjk => by have := h.2.1 j hj hjk; omega)
  have h1 := h.2.2.1 j hj hkj
  have h2 : l[j].1 ≠ x := fun e => by
    rcases Nat.lt_or_ge k j with h3 | h3
    · have h4 := rises_at hr (by omega) hj h3
      have h5 := h.2.2.1 k (by omega) (Nat.le_refl _)
      omega
    · have e2 : j = k := by omega
      subst e2
      have := h.2.2.2.2 ⟨hj, e⟩
      cases this
  omega
theorem hi_old {l : Ps} {x : Int} {k : Nat} (h : Place l x k true) (hr : Rises l) : ∃ hk : k < l.length, l[k].1 = x ∧ hi l x = l.drop (k + 1) := by
  obtain ⟨hk, e⟩ := h.2.2.2.1 rfl
  refine ⟨hk, e, drop_hi (fun j hj hkj => ?_) (fun j hj hjk => ?_)⟩
  · have := rises_at hr hk hj (by omega)
    omega
  · rcases Nat.lt_or_ge j k with h3 | h3
    · have := h.2.1 j hj h3; omega
    · have e2 : j = k := by omega
      subst e2
      omega
/-- Put in where there is none. -/
theorem place_new {l : Ps} {x : Int} {k : Nat} (h : Place l x k false) (hr : Rises l) (y : Int) : wi l x y = l.take k ++ (x, y) :: l.drop k := by
  unfold wi
  rw [place_lo h, hi_new h hr]
/-- Written over where there is one. -/
theorem place_old {l : Ps} {x : Int} {k : Nat} (h : Place l x k true) (hr : Rises l) (y : Int) : ∃ hk : k < l.length, l[k].1 = x ∧ wi l x y = l.take k ++ (l[k].1, y) :: l.drop (k + 1) := by
  obtain ⟨hk, e, h2⟩ := hi_old h hr
  refine ⟨hk, e, ?_⟩
  unfold wi
  rw [place_lo h, h2, e]
theorem get_place {l : Ps} {x : Int} {k : Nat} {b : Bool} (h : Place l x k b) (hr : Rises l) : get l x = if hk : b = true ∧ k < l.length then (l[k].2, true) else (0, false) := by
  cases b with
  | true =>
    obtain ⟨hk, e, _⟩ := hi_old h hr
    rw [dif_pos ⟨rfl, hk⟩]
    have e1 : l = l.take k ++ l[k] :: l.drop (k + 1) := by rw [← List.drop_eq_getElem_cons hk, List.take_append_drop]
    have e2 : get (l.take k ++ l[k] :: l.drop (k + 1)) x = (l[k].2, true) := by
      rw [get_app fun p hp => ?_, get, if_pos e]
      obtain ⟨j, hj, rfl⟩ := List.mem_iff_getElem.1 hp
      rw [List.length_take] at hj
      rw [List.getElem_take]
      have := h.2.1 j (by omega) (by omega)
      omega
    rw [← e1] at e2
    exact e2
  | false =>
    rw [dif_neg (by simp)]
    refine get_none fun p hp e => ?_
    obtain ⟨j, hj, rfl⟩ := List.mem_iff_getElem.1 hp
    rcases Nat.lt_or_ge j k with h3 | h3
    · have := h.2.1 j hj h3; omega
    · have h4 := hi_new h hr
      have : l[j] ∈ l.drop k := by rw [List.mem_drop_iff_getElem]; exact ⟨j - k, by omega, by congr 1; omega⟩
      rw [← h4] at this
      have := (mem_hi.1 this).2
      omega
/-! ### the document's ways: one by one -/
def anyGe (l : Ps) (x : Int) : Bool := l.any fun p => decide (x ≤ p.1)
def now (l : Ps) (x k : Int) : Ps := if anyGe l x = true then wi l x k else l
theorem anyGe_snoc (l : Ps) (p : Int × Int) (x : Int) : anyGe (l ++ [p]) x = (anyGe l x || decide (x ≤ p.1)) := by unfold anyGe; rw [List.any_append]; simp
theorem all_lt {l : Ps} {x : Int} (h : anyGe l x = false) : ∀ p ∈ l, p.1 < x := by
  intro p hp
  unfold anyGe at h
  rw [List.any_eq_false] at h
  have := h p hp
  simp at this
  omega
theorem lo_all {l : Ps} {x : Int} (h : ∀ p ∈ l, p.1 < x) : lo l x = l ∧ hi l x = [] := by
  refine ⟨?_, ?_⟩
  · show l.filter _ = _
    rw [List.filter_eq_self]
    intro p hp; simp [h p hp]
  · show l.filter _ = _
    rw [List.filter_eq_nil_iff]
    intro p hp
    have := h p hp
    simp; omega
theorem now_end (l : Ps) (x k : Int) : (if anyGe l x = true then now l x k else now l x k ++ [(x, k)]) = wi l x k := by
  unfold now
  cases h : anyGe l x with
  | true => simp
  | false =>
    obtain ⟨h1, h2⟩ := lo_all (all_lt h)
    unfold wi
    rw [h1, h2]
    simp
/-- One step of the document's way to put. -/
theorem now_step {l : Ps} {p : Int × Int} (hr : Rises (l ++ [p])) (x k : Int) : now (l ++ [p]) x k = (if anyGe l x = false ∧ x ≤ p.1 then now l x k ++ [(x, k)] else now l x k) ++ (if p.1 = x then [] else [p]) := by
  have hlt : ∀ q ∈ l, q.1 < p.1 := fun q hq => (List.pairwise_append.1 hr).2.2 q hq p (by simp)
  unfold now
  rw [anyGe_snoc]
  cases h : anyGe l x with
  | true =>
    have hx : x < p.1 := by
      unfold anyGe at h
      rw [List.any_eq_true] at h
      obtain ⟨q, hq, h⟩ := h
      have := hlt q hq
      simp at h
      omega
    have e1 : ¬ p.1 = x := by omega
    have e2 : ¬ p.1 < x := by omega
    simp only [Bool.true_or, if_true, Bool.true_eq_false, false_and, if_false, e1]
    unfold wi lo hi
    rw [List.filter_append, List.filter_append]
    simp [e2, hx]
  | false =>
    obtain ⟨h1, h2⟩ := lo_all (all_lt h)
    by_cases hx : x ≤ p.1
    · simp only [hx, decide_true, Bool.false_or, if_true, true_and, Bool.false_eq_true, if_false]
      have e2 : ¬ p.1 < x := by omega
      unfold wi lo hi
      rw [List.filter_append, List.filter_append]
      rw [show l.filter (fun p => decide (p.1 < x)) = l from h1, show l.filter (fun p => decide (x < p.1)) = [] from h2]
      by_cases e1 : p.1 = x
      · have e3 : ¬ x < p.1 := by omega
        simp [e1]
      · have e3 : x < p.1 := by omega
        simp [e1, e2, e3]
    · have e1 : ¬ p.1 = x := by omega
      simp [hx, e1]
theorem wo_step (l : Ps) (p : Int × Int) (x : Int) : wo (l ++ [p]) x = wo l x ++ (if p.1 = x then [] else [p]) := by
  unfold wo
  rw [List.filter_append]
  by_cases h : p.1 = x <;> simp [h]
theorem get_miss {l : Ps} {x : Int} {i : Nat} (hi : i < l.length) (hn : ∀ p ∈ l.take i, p.1 ≠ x) (he : l[i].1 = x) : get l x = (l[i].2, true) := by
  have e1 : l = l.take i ++ l[i] :: l.drop (i + 1) := by rw [← List.drop_eq_getElem_cons hi, List.take_append_drop]
  have e2 : get (l.take i ++ l[i] :: l.drop (i + 1)) x = (l[i].2, true) := by rw [get_app hn, get, if_pos he]
  rw [← e1] at e2
  exact e2
/-! ### texts -/
theorem text_nil : text [] = [] := rfl
theorem text_snoc (l : Ps) (p : Int × Int) : text (l ++ [p]) = if l = [] then one p else text l ++ 32 :: one p := by
  cases l with
  | nil => exact Lib.join_one _ _
  | cons q l =>
    rw [if_neg (by simp)]
    unfold text
    rw [List.cons_append, List.map_cons, List.map_cons, Lib.join_cons, Lib.join_cons]
    unfold Lib.joinTail
    simp
theorem dec_len : ∀ (k n : Nat), n < 10 ^ (k + 1) → (Lib.decDigits n).length ≤ k + 1
  | 0, n, h => by rw [Lib.decDigits, dif_pos (by omega)]; simp
  | k + 1, n, h => by
    by_cases h10 : n < 10
    · rw [Lib.decDigits, dif_pos h10]; simp
    · rw [Lib.decDigits, dif_neg h10]
      have := dec_len k (n / 10) (by rw [Nat.pow_succ] at h; omega)
      simp
      omega
theorem itoa_len {x : Int} (h : In x) : (Lib.itoa x).length ≤ 20 := by
  unfold In at h
  unfold Lib.itoa
  split
  · have := dec_len 18 x.natAbs (by omega)
    simp; omega
  · have := dec_len 18 x.toNat (by omega)
    omega
theorem one_len {p : Int × Int} (h : In p.1 ∧ In p.2) : (one p).length ≤ 41 := by
  have h1 := itoa_len h.1
  have h2 := itoa_len h.2
  unfold one
  simp; omega
theorem text_len {l : Ps} (h : Ok l) : (text l).length ≤ 42 * l.length := by
  have : ∀ m (l : Ps), l.length = m → Ok l → (text l).length ≤ 42 * m := by
    intro m
    induction m with
    | zero => intro l hl _; rw [List.length_eq_zero_iff.1 hl]; simp [text_nil]
    | succ m ih =>
      intro l hl h
      have hne : l ≠ [] := by intro e; rw [e] at hl; cases hl
      have e := (List.dropLast_concat_getLast hne).symm
      rw [e, text_snoc]
      have h1 := one_len (h _ (List.getLast_mem hne))
      have h2 := ih l.dropLast (by rw [List.length_dropLast]; omega) (fun p hp => h p (List.dropLast_subset _ hp))
      split
      · omega
      · rw [List.length_append, List.length_cons]; omega
  exact this _ l rfl h
end Fd
end Go.Proofs.YtjijbgogdaafdaaDoor
