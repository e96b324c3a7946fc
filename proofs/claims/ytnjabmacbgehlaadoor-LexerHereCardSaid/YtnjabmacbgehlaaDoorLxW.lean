/- The lexer as plain mathematics: words, and their texts read again. No premises. -/
import Derived.Test.YtnjabmacbgehlaaDoorLxA
namespace Go.Proofs.YtnjabmacbgehlaaDoor
namespace Lx
/-- A byte that ends a word: a blank, a newline, a byte of signs. -/
def stop (c : UInt8) : Bool := c == 32 || c == 9 || c == 10 || c == 59 || c == 38 || c == 124 || c == 40 || c == 41 || c == 60 || c == 62
/-- Does a word end here? -/
def ends : L → Bool
  | [] => true
  | c :: _ => stop c
def wordF : Nat → L → R
  | 0, _ => .error 20
  | n + 1, l =>
    if ends l = true then .ok ([], l)
    else match part 0 l with
      | .error e => .error e
      | .ok (t, r) => pre t (wordF n r)
/-- A word's rest. -/
def word (l : L) : R := wordF (l.length + 1) l
theorem wordF_len (n : Nat) {l t r : L} (h : wordF n l = .ok (t, r)) : r.length ≤ l.length := by
  induction n generalizing l t r with
  | zero => cases h
  | succ n ih =>
    unfold wordF at h
    split at h
    · cases h; omega
    · cases e : part 0 l with
      | error e' => rw [e] at h; cases h
      | ok x =>
        obtain ⟨t1, r1⟩ := x
        rw [e] at h
        obtain ⟨v, h1, _⟩ := pre_inv h
        have h2 := ih h1
        have h3 := part_len 0 _ _ _ e
        omega
theorem wordF_stable (n m : Nat) (l : L) (h1 : l.length < n) (h2 : l.length < m) : wordF n l = wordF m l := by
  induction n generalizing m l with
  | zero => omega
  | succ n ih =>
    cases m with
    | zero => omega
    | succ m =>
      unfold wordF
      split
      · rfl
      · cases e : part 0 l with
        | error e' => rfl
        | ok x =>
          obtain ⟨t1, r1⟩ := x
          have h3 := part_len 0 _ _ _ e
          simp only
          rw [ih m r1 (by omega) (by omega)]
theorem word_at (l : L) : word l =
    if ends l = true then .ok ([], l)
    else match part 0 l with
      | .error e => .error e
      | .ok (t, r) => pre t (word r) := by
  unfold word
  rw [wordF]
  split
  · rfl
  · cases e : part 0 l with
    | error e' => rfl
    | ok x =>
      obtain ⟨t1, r1⟩ := x
      have h3 := part_len 0 _ _ _ e
      simp only
      rw [wordF_stable _ (r1.length + 1) r1 (by omega) (by omega)]
theorem word_le {l t r : L} (h : word l = .ok (t, r)) : r.length ≤ l.length := wordF_len _ h
theorem word_lt {l t r : L} (h : word l = .ok (t, r)) (he : ends l = false) : r.length < l.length := by
  rw [word_at, he] at h
  simp only [Bool.false_eq_true, if_false] at h
  cases e : part 0 l with
  | error e' => rw [e] at h; cases h
  | ok x =>
    obtain ⟨t1, r1⟩ := x
    rw [e] at h
    obtain ⟨v, h1, _⟩ := pre_inv h
    have h2 := word_le h1
    have h3 := part_len 0 _ _ _ e
    omega
theorem word_ends {l t r : L} (h : word l = .ok (t, r)) : ends r = true := by
  generalize hn : l.length + 1 = n at *
  unfold word at h
  rw [hn] at h
  clear hn
  induction n generalizing l t r with
  | zero => cases h
  | succ n ih =>
    unfold wordF at h
    split at h
    · cases h; assumption
    · cases e : part 0 l with
      | error e' => rw [e] at h; cases h
      | ok x =>
        obtain ⟨t1, r1⟩ := x
        rw [e] at h
        obtain ⟨v, h1, _⟩ := pre_inv h
        exact ih h1
/-- What may stand behind a word that is read again: nothing, a blank, a newline. -/
def Gap (l : L) : Prop := l = [] ∨ l.head? = some 32 ∨ l.head? = some 9 ∨ l.head? = some 10
theorem Gap.ends {l : L} (h : Gap l) : ends l = true := by
  cases l with
  | nil => rfl
  | cons c r => rcases h with h | h | h | h <;> first | (cases h; done) | (simp only [List.head?_cons, Option.some.injEq] at h; subst h; rfl)
theorem Gap.good {l : L} (h : Gap l) : ¬ Bad l := by
  rcases h with rfl | h | h | h <;> simp_all [Bad]
theorem word_again {l t r : L} (h : word l = .ok (t, r)) (r' : L) (hr : Gap r') : word (t ++ r') = .ok (t, r') ∧ (¬ Bad l → ¬ Bad (t ++ r')) := by
  generalize hn : l.length + 1 = n
  unfold word at h
  rw [hn] at h
  clear hn
  induction n generalizing l t r with
  | zero => cases h
  | succ n ih =>
    unfold wordF at h
    split at h
    · cases h
      refine ⟨?_, fun _ => hr.good⟩
      rw [List.nil_append, word_at, hr.ends, if_pos rfl]
    · rename_i he
      cases e : part 0 l with
      | error e' => rw [e] at h; cases h
      | ok x =>
        obtain ⟨t1, r1⟩ := x
        rw [e] at h
        obtain ⟨v, h1, rfl⟩ := pre_inv h
        obtain ⟨h2, h3⟩ := ih h1
        rw [List.append_assoc]
        by_cases ht : t1 = []
        · subst ht
          refine ⟨h2, fun hb => ?_⟩
          rcases part_head e with ⟨_, rfl⟩ | ⟨b, _, _, h7⟩ | ⟨c, l', t', _, _, h7⟩
          · exact absurd (.inr (.inr ⟨rfl, rfl⟩)) hb
          · cases h7
          · cases h7
        · have h5 := part_again e ht (v ++ r') (fun ht => by subst ht; exact h3 (part_dollar e))
          refine ⟨?_, fun hb => part_good e hb _⟩
          have h6 : ends (t1 ++ (v ++ r')) = ends l := by
            rcases part_head e with ⟨h7, _⟩ | ⟨b, _, rfl, rfl⟩ | ⟨c, l', t', _, rfl, rfl⟩
            · exact absurd h7 ht
            · rfl
            · rfl
          rw [word_at, h6, if_neg he, h5]
          simp only [h2, pre_ok]
/-- The text of a word begins as the script does there. -/
theorem word_head {l t r : L} (h : word l = .ok (t, r)) (he : ends l = false) (hj : ¬ (l.head? = some 92 ∧ l.tail.head? = some 10)) : t ≠ [] ∧ t.head? = l.head? ∧ (t.head? = some 92 → t.tail.head? ≠ some 10 ∧ t.tail ≠ []) := by
  rw [word_at, he] at h
  simp only [Bool.false_eq_true, if_false] at h
  cases e : part 0 l with
  | error e' => rw [e] at h; cases h
  | ok x =>
    obtain ⟨t1, r1⟩ := x
    rw [e] at h
    obtain ⟨v, h1, rfl⟩ := pre_inv h
    rcases part_head e with ⟨rfl, rfl⟩ | ⟨b, hb, rfl, rfl⟩ | ⟨c, l', t', hc, rfl, rfl⟩
    · exact absurd ⟨rfl, rfl⟩ hj
    · simp [hb]
    · simp [hc]
/-- A plain byte: one that is a part of a word by itself. -/
def plain (c : UInt8) : Bool := !(stop c) && !(c == 92 || c == 39 || c == 34 || c == 36 || c == 96)
theorem word_plain (x : L) (hx : ∀ c ∈ x, plain c = true) (l : L) : word (x ++ l) = pre x (word l) := by
  induction x with
  | nil => cases e : word l with
    | error e' => rw [List.nil_append, e]; rfl
    | ok p => rw [List.nil_append, e]; rfl
  | cons c x ih =>
    have h1 := hx c (by simp)
    simp only [plain, Bool.and_eq_true, Bool.not_eq_true', Bool.or_eq_false_iff, beq_eq_false_iff_ne, ne_eq] at h1
    obtain ⟨h0, ⟨⟨⟨h1, h2⟩, h3⟩, h4⟩, h5⟩ := h1
    rw [word_at]
    have h6 : ends (c :: x ++ l) = false := h0
    rw [h6]
    simp only [Bool.false_eq_true, if_false, List.cons_append]
    rw [part_at]
    simp only [oneF, if_neg h1, if_neg h2, if_neg h3, if_neg h4, if_neg h5, ih (fun c hc => hx c (by simp [hc]))]
    cases e : word l with
    | error e' => rfl
    | ok p => rfl
theorem word_join (l : L) : word (92 :: 10 :: l) = word l := by
  rw [word_at, part_at]
  have h6 : ends (92 :: 10 :: l) = false := rfl
  rw [h6]
  simp only [oneF, if_true, Bool.false_eq_true, if_false]
  cases e : word l with
  | error e' => rfl
  | ok p => rfl
theorem sq_of (x : L) (hx : ∀ c ∈ x, c ≠ 39) (l : L) : sq (x ++ 39 :: l) = some (x ++ [39], l) := by
  induction x with
  | nil => simp [sq]
  | cons c x ih => simp [sq, hx c (by simp), ih (fun c hc => hx c (by simp [hc]))]
/-- What stands in single quotes is one word. -/
theorem word_quotes (x : L) (hx : ∀ c ∈ x, c ≠ 39) (l : L) (hl : ends l = true) : word (39 :: x ++ 39 :: l) = .ok (39 :: x ++ [39], l) := by
  rw [word_at, part_at]
  have h6 : ends (39 :: x ++ 39 :: l) = false := rfl
  have h7 : word l = .ok ([], l) := by rw [word_at, hl, if_pos rfl]
  rw [h6]
  simp [oneF, sq_of x hx, h7]
end Lx
end Go.Proofs.YtnjabmacbgehlaaDoor
