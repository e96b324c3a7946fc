/- What is read of bytes: numbers, texts, rows of texts: as plain mathematics. No premises. -/
import Derived.Test.YteljmlodbnfhbaaVm
namespace Go.Proofs.Yteljmlodbnfhbaa
/-- The bytes of numbers. -/
def putL (l : List Nat) : List UInt8 := l.flatMap numL
/-- The bytes of a text: how many, and these. -/
def textL (s : ByteArray) : List UInt8 := numL s.size ++ s.data.toList
def textsL (l : List ByteArray) : List UInt8 := l.flatMap textL
/-- What Num tells, and what it leaves. -/
def numR (bs : List UInt8) (e : Nat) : Nat × List UInt8 × Nat := if e ≠ 0 then (0, bs, e) else ((takeM bs).1, bs.drop (takeM bs).2.1, (takeM bs).2.2)
/-- What Text tells, and what it leaves. -/
def textR (bs : List UInt8) (e : Nat) : List UInt8 × List UInt8 × Nat :=
  let r := numR bs e
  if r.2.2 ≠ 0 then ([], r.2.1, r.2.2) else if r.2.1.length < r.1 then ([], r.2.1, 10) else (r.2.1.take r.1, r.2.1.drop r.1, 0)
theorem num_all {x : Nat} (hx : x < 18446744073709551616) (r : List UInt8) : numR (numL x ++ r) 0 = (x, r, 0) := by
  have h := takeM_numL hx r
  simp [numR, h]
theorem text_all {s : ByteArray} (hs : s.size < 18446744073709551616) (r : List UInt8) : textR (textL s ++ r) 0 = (s.data.toList, r, 0) := by
  have h : numR (textL s ++ r) 0 = (s.size, s.data.toList ++ r, 0) := by
    rw [textL, List.append_assoc]; exact num_all hs _
  have hl : s.data.toList.length = s.size := rfl
  simp only [textR, h]
  simp only [ne_eq, not_true_eq_false, if_false, List.length_append, hl]
  rw [if_neg (by omega)]
  rw [← hl, List.take_left, List.drop_left]
theorem num_cut {x m : Nat} (hx : x < 18446744073709551616) (r : List UInt8) (h : m < (numL x ++ r).length) :
    (∃ b, numR ((numL x ++ r).take m) 0 = (0, b, 10)) ∨ (∃ k, k < r.length ∧ numR ((numL x ++ r).take m) 0 = (x, r.take k, 0)) := by
  rcases Nat.lt_or_ge m (numL x).length with hm | hm
  · left
    have e : (numL x ++ r).take m = (numL x).take m := List.take_append_of_le_length (by omega)
    rw [e]
    exact ⟨_, by simp only [numR, take_short hx hm]; rfl⟩
  · right
    have e : (numL x ++ r).take m = numL x ++ r.take (m - (numL x).length) := by
      rw [List.take_append, List.take_of_length_le hm]
    rw [List.length_append] at h
    exact ⟨m - (numL x).length, by omega, by rw [e]; exact num_all hx _⟩
theorem text_cut {s : ByteArray} {m : Nat} (hs : s.size < 18446744073709551616) (r : List UInt8) (h : m < (textL s ++ r).length) :
    (∃ t b, textR ((textL s ++ r).take m) 0 = (t, b, 10)) ∨ (∃ t k, k < r.length ∧ textR ((textL s ++ r).take m) 0 = (t, r.take k, 0)) := by
  have hl : s.data.toList.length = s.size := rfl
  have e : textL s ++ r = numL s.size ++ (s.data.toList ++ r) := by rw [textL, List.append_assoc]
  rw [e] at h ⊢
  rcases num_cut hs (s.data.toList ++ r) h with ⟨b, hb⟩ | ⟨k, hk, hb⟩
  · left
    exact ⟨[], b, by simp [textR, hb]⟩
  · rcases Nat.lt_or_ge k s.size with hks | hks
    · left
      refine ⟨[], (s.data.toList ++ r).take k, ?_⟩
      simp only [textR, hb]
      rw [if_neg (by simp), if_pos (by rw [List.length_take]; omega)]
    · right
      rw [List.length_append, hl] at hk
      refine ⟨s.data.toList, k - s.size, by omega, ?_⟩
      have e2 : (s.data.toList ++ r).take k = s.data.toList ++ r.take (k - s.size) := by
        rw [List.take_append, List.take_of_length_le (by omega), hl]
      simp only [textR, hb]
      rw [e2, if_neg (by simp), if_neg (by rw [List.length_append]; omega), ← hl, List.take_left, List.drop_left]
theorem num_stop (b : List UInt8) : numR b 10 = (0, b, 10) := rfl
theorem text_stop (b : List UInt8) : textR b 10 = ([], b, 10) := rfl
/-- The bytes of a text, told as a list. -/
def textB (t : List UInt8) : List UInt8 := numL t.length ++ t
theorem textL_B (s : ByteArray) : textL s = textB s.data.toList := rfl
def textsB (l : List (List UInt8)) : List UInt8 := l.flatMap textB
theorem textsB_cons (t : List UInt8) (l : List (List UInt8)) : textsB (t :: l) = textB t ++ textsB l := by simp [textsB]
theorem triple {α β : Type} {x : α × β × Nat} (h : x.2.2 = 0) : x = (x.1, x.2.1, 0) := by
  obtain ⟨a, b, c⟩ := x
  simp at h
  rw [h]
/-- A number that was read stood there. -/
theorem num_eats {bs rest : List UInt8} {x : Nat} (h : numR bs 0 = (x, rest, 0)) : bs = numL x ++ rest ∧ x < 18446744073709551616 := by
  simp only [numR, ne_eq, not_true_eq_false, if_false, Prod.mk.injEq] at h
  obtain ⟨h1, h2, h3⟩ := h
  have h4 := numL_takeM h3
  rw [h1] at h4
  refine ⟨by rw [h4, ← h2, List.take_append_drop], ?_⟩
  rcases takeM_cases bs with h5 | h5
  · rw [← h1]; exact h5.2.2.2.2.2.1
  · omega
/-- A text that was read stood there. -/
theorem text_eats {bs rest t : List UInt8} (h : textR bs 0 = (t, rest, 0)) : bs = textB t ++ rest ∧ t.length < 18446744073709551616 := by
  obtain ⟨x, b1, e1⟩ : ∃ x, ∃ b1, numR bs 0 = x ∧ b1 = x.2.1 := ⟨_, _, rfl, rfl⟩
  obtain ⟨e1, rfl⟩ := e1
  simp only [textR, e1] at h
  by_cases h0 : x.2.2 = 0
  · rw [if_neg (by simpa using h0)] at h
    by_cases hl : x.2.1.length < x.1
    · rw [if_pos hl] at h
      simp only [Prod.mk.injEq] at h
      omega
    · rw [if_neg hl] at h
      simp only [Prod.mk.injEq] at h
      obtain ⟨h1, h2, _⟩ := h
      have hx : numR bs 0 = (x.1, x.2.1, 0) := by rw [e1, ← h0]
      obtain ⟨h3, h4⟩ := num_eats hx
      have hlt : t.length = x.1 := by rw [← h1, List.length_take]; omega
      refine ⟨?_, by omega⟩
      rw [h3, textB, hlt, List.append_assoc, ← h1, ← h2, List.take_append_drop]
  · rw [if_pos (by simpa using h0)] at h
    simp only [Prod.mk.injEq] at h
    exact absurd h.2.2 h0
theorem text_all' {t : List UInt8} (h : t.length < 18446744073709551616) (r : List UInt8) : textR (textB t ++ r) 0 = (t, r, 0) := by
  have e : numR (textB t ++ r) 0 = (t.length, t ++ r, 0) := by rw [textB, List.append_assoc]; exact num_all h _
  simp only [textR, e]
  rw [if_neg (by simp), if_neg (by rw [List.length_append]; omega), List.take_left, List.drop_left]
theorem num_err (b : List UInt8) {e : Nat} (h : e ≠ 0) : numR b e = (0, b, e) := by simp [numR, h]
theorem text_err (b : List UInt8) {e : Nat} (h : e ≠ 0) : textR b e = ([], b, e) := by simp [textR, numR, h]
/-- What so many texts, one behind the other, tell, and leave. -/
def rowR : Nat → List UInt8 → Nat → List (List UInt8) × List UInt8 × Nat
  | 0, b, e => ([], b, e)
  | k + 1, b, e => ((textR b e).1 :: (rowR k (textR b e).2.1 (textR b e).2.2).1, (rowR k (textR b e).2.1 (textR b e).2.2).2.1, (rowR k (textR b e).2.1 (textR b e).2.2).2.2)
theorem rowR_snoc : ∀ (k : Nat) (b : List UInt8) (e : Nat), rowR (k + 1) b e = ((rowR k b e).1 ++ [(textR (rowR k b e).2.1 (rowR k b e).2.2).1], (textR (rowR k b e).2.1 (rowR k b e).2.2).2.1, (textR (rowR k b e).2.1 (rowR k b e).2.2).2.2)
  | 0, _, _ => rfl
  | k + 1, b, e => by
    have ih := rowR_snoc k (textR b e).2.1 (textR b e).2.2
    rw [rowR, ih]
    rfl
theorem rowR_len : ∀ (k : Nat) (b : List UInt8) (e : Nat), (rowR k b e).1.length = k
  | 0, _, _ => rfl
  | k + 1, b, e => by rw [rowR]; simp [rowR_len k]
theorem row_err : ∀ (k : Nat) (b : List UInt8) {e : Nat}, e ≠ 0 → rowR k b e = (List.replicate k [], b, e)
  | 0, _, _, _ => rfl
  | k + 1, b, e, h => by rw [rowR, text_err b h]; dsimp only; rw [row_err k b h]; rfl
/-- An error of a row is that of its first text that isn't whole: none ahead of it. -/
theorem row_eats : ∀ (k : Nat) {bs rest : List UInt8} {l : List (List UInt8)}, rowR k bs 0 = (l, rest, 0) → bs = textsB l ++ rest ∧ (∀ t ∈ l, t.length < 18446744073709551616) ∧ l.length = k
  | 0, bs, rest, l, h => by
    simp only [rowR, Prod.mk.injEq] at h
    obtain ⟨rfl, rfl, _⟩ := h
    simp [textsB]
  | k + 1, bs, rest, l, h => by
    rw [rowR] at h
    simp only [Prod.mk.injEq] at h
    obtain ⟨h1, h2, h3⟩ := h
    by_cases h0 : (textR bs 0).2.2 = 0
    · have ht := triple h0
      obtain ⟨h4, h5⟩ := text_eats ht
      rw [h0] at h1 h2 h3
      have hq := triple h3
      rw [h2] at hq
      obtain ⟨h6, h7, h8⟩ := row_eats k hq
      subst h1
      refine ⟨?_, ?_, by simp [h8]⟩
      · rw [textsB_cons, List.append_assoc, ← h6]; exact h4
      · intro t ht
        rcases List.mem_cons.1 ht with rfl | ht
        · exact h5
        · exact h7 t ht
    · rw [row_err k _ h0] at h3
      exact absurd h3 h0
theorem row_all : ∀ (l : List (List UInt8)) (r : List UInt8), (∀ t ∈ l, t.length < 18446744073709551616) → rowR l.length (textsB l ++ r) 0 = (l, r, 0)
  | [], r, _ => by simp [rowR, textsB]
  | t :: l, r, h => by
    rw [List.length_cons, rowR, textsB_cons, List.append_assoc, text_all' (h t (List.mem_cons_self ..))]
    dsimp only
    rw [row_all l r fun x hx => h x (List.mem_cons_of_mem _ hx)]
/-- Cut within a text, or behind it. -/
theorem text_cut' {t : List UInt8} {m : Nat} (ht : t.length < 18446744073709551616) (r : List UInt8) (h : m < (textB t ++ r).length) :
    (∃ u b, textR ((textB t ++ r).take m) 0 = (u, b, 10)) ∨ (∃ k, k < r.length ∧ (textB t ++ r).take m = textB t ++ r.take k) := by
  by_cases hm : m < (textB t).length
  · left
    rw [List.take_append_of_le_length (by omega)]
    have hB : (textB t).length = (numL t.length).length + t.length := by simp [textB]
    by_cases h7 : m < (numL t.length).length
    · have h8 : numR ((textB t).take m) 0 = (0, (textB t).take m, 10) := by
        rw [textB, List.take_append_of_le_length (by omega)]
        simp only [numR, take_short ht h7]; rfl
      exact ⟨[], _, by simp only [textR, h8]; rfl⟩
    · have h8 : numR ((textB t).take m) 0 = (t.length, t.take (m - (numL t.length).length), 0) := by
        rw [textB, List.take_append, List.take_of_length_le (by omega)]
        exact num_all ht _
      refine ⟨[], t.take (m - (numL t.length).length), ?_⟩
      simp only [textR, h8]
      rw [if_neg (by simp), if_pos (by rw [List.length_take]; omega)]
  · right
    refine ⟨m - (textB t).length, by rw [List.length_append] at h; omega, ?_⟩
    rw [List.take_append, List.take_of_length_le (by omega)]
theorem num_cut' {x m : Nat} (hx : x < 18446744073709551616) (r : List UInt8) (h : m < (numL x ++ r).length) :
    (∃ b, numR ((numL x ++ r).take m) 0 = (0, b, 10)) ∨ (∃ k, k < r.length ∧ (numL x ++ r).take m = numL x ++ r.take k) := by
  by_cases hm : m < (numL x).length
  · left
    rw [List.take_append_of_le_length (by omega)]
    exact ⟨_, by simp only [numR, take_short hx hm]; rfl⟩
  · right
    refine ⟨m - (numL x).length, by rw [List.length_append] at h; omega, ?_⟩
    rw [List.take_append, List.take_of_length_le (by omega)]
theorem row_cut : ∀ (l : List (List UInt8)) (r : List UInt8) (m : Nat), (∀ t ∈ l, t.length < 18446744073709551616) → m < (textsB l ++ r).length →
    (∃ u b, rowR l.length ((textsB l ++ r).take m) 0 = (u, b, 10)) ∨ (∃ k, k < r.length ∧ (textsB l ++ r).take m = textsB l ++ r.take k)
  | [], r, m, _, h => .inr ⟨m, by simpa [textsB] using h, by simp [textsB]⟩
  | t :: l, r, m, hl, h => by
    rw [textsB_cons, List.append_assoc] at h ⊢
    rcases text_cut' (hl t (List.mem_cons_self ..)) (textsB l ++ r) h with ⟨u, b, hu⟩ | ⟨k, hk, e⟩
    · left
      rw [List.length_cons, rowR, hu]
      dsimp only
      rw [row_err _ _ (by omega)]
      exact ⟨_, _, rfl⟩
    · rcases row_cut l r k (fun x hx => hl x (List.mem_cons_of_mem _ hx)) hk with ⟨u, b, hu⟩ | ⟨k', hk', e'⟩
      · left
        rw [e, List.length_cons, rowR, text_all' (hl t (List.mem_cons_self ..))]
        dsimp only
        rw [hu]
        exact ⟨_, _, rfl⟩
      · right
        exact ⟨k', hk', by rw [e, e', List.append_assoc]⟩
end Go.Proofs.Yteljmlodbnfhbaa
