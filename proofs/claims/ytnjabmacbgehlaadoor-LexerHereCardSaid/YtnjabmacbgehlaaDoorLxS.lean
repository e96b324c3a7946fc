/- The lexer as plain mathematics: tokens and their texts are no longer than the script. No premises. -/
import Derived.Test.YtnjabmacbgehlaaDoorLxB
namespace Go.Proofs.YtnjabmacbgehlaaDoor
namespace Lx
theorem sq_sum {l t r : L} (h : sq l = some (t, r)) : t.length + r.length ≤ l.length := by
  induction l generalizing t r with
  | nil => cases h
  | cons c l ih =>
    unfold sq at h
    split at h
    · cases h; simp; omega
    · cases e : sq l with
      | none => rw [e] at h; cases h
      | some p => rw [e] at h; cases h; have := ih e; simp only [List.length_cons]; omega
theorem ar_sum {o : Nat} {l t r : L} (h : ar o l = some (t, r)) : t.length + r.length ≤ l.length := by
  induction l generalizing o t r with
  | nil => cases h
  | cons c l ih =>
    unfold ar at h
    split at h
    · cases o with
      | zero =>
        cases l with
        | nil => cases h
        | cons b q => simp only at h; split at h <;> cases h; simp only [List.length_cons, List.length_nil]; omega
      | succ o =>
        simp only at h
        cases e : ar o l with
        | none => rw [e] at h; cases h
        | some p => rw [e] at h; cases h; have := ih e; simp only [List.length_cons]; omega
    · cases e : ar (if c = 40 then o + 1 else o) l with
      | none => rw [e] at h; cases h
      | some p => rw [e] at h; cases h; have := ih e; simp only [List.length_cons]; omega
/-- What a reader read and what it leaves is no longer than what it met. -/
def Sum (p : L → R) : Prop := ∀ l t r, p l = .ok (t, r) → t.length + r.length ≤ l.length
theorem upF_sum {p : L → R} (hp : Sum p) (z : UInt8) (q : Bool) (n : Nat) : Sum (upF p z q n) := by
  induction n with
  | zero => exact fun l t r h => by cases h
  | succ n ih =>
    intro l t r h
    rw [upF] at h
    split at h
    · rename_i e
      cases h
      cases l with
      | nil => cases e
      | cons c l => simp; omega
    · split at h
      · rename_i e
        obtain ⟨v, h1, h2⟩ := pre_inv h
        have := ih _ _ _ h1
        cases l with
        | nil => cases e.2
        | cons c l => rw [h2]; simp only [List.length_append, List.length_cons, List.length_nil, List.tail_cons] at this ⊢; omega
      · cases e : p l with
        | error e' => rw [e] at h; cases h
        | ok x =>
          obtain ⟨t1, r1⟩ := x
          rw [e] at h
          obtain ⟨v, h1, h2⟩ := pre_inv h
          have h3 := ih _ _ _ h1
          have h4 := hp _ _ _ e
          rw [h2, List.length_append]; omega
theorem dolF_sum {b : L → R} (hb : Sum b) (deep : Bool) (l t r : L) (h : dolF b deep l = .ok (t, r)) : t.length + r.length ≤ l.length + 1 := by
  unfold dolF at h
  cases l with
  | nil => cases h; simp
  | cons x q =>
    simp only at h
    split at h
    · split at h
      · cases h
      · obtain ⟨v, h1, h2⟩ := pre_inv h
        have := hb _ _ _ h1
        rw [h2]; simp only [List.length_append, List.length_cons, List.length_nil]; omega
    · split at h
      · cases q with
        | nil => cases h
        | cons y q' =>
          simp only at h
          split at h
          · cases e : ar 0 q' with
            | none => rw [e] at h; cases h
            | some x => rw [e] at h; cases h; have := ar_sum e; simp only [List.length_cons]; omega
          · cases h
      · split at h
        · cases h
        · cases h; simp only [List.length_cons, List.length_nil]; omega
theorem oneF_sum {dq br : L → R} (h1 : Sum dq) (h2 : Sum br) (deep : Bool) : Sum (oneF dq br deep) := by
  intro l t r h
  unfold oneF at h
  cases l with
  | nil => cases h
  | cons c l =>
    simp only at h
    split at h
    · cases l with
      | nil => cases h
      | cons b q => cases h; split <;> simp only [List.length_cons, List.length_nil] <;> omega
    · split at h
      · cases e : sq l with
        | none => rw [e] at h; cases h
        | some x => rw [e] at h; cases h; have := sq_sum e; simp only [List.length_cons]; omega
      · split at h
        · obtain ⟨v, h3, h4⟩ := pre_inv h
          have := h1 _ _ _ h3
          rw [h4]; simp only [List.length_append, List.length_cons, List.length_nil]; omega
        · split at h
          · have := dolF_sum h2 deep l t r h
            rw [List.length_cons]; omega
          · split at h
            · cases h
            · cases h; simp only [List.length_cons, List.length_nil]; omega
theorem partF_sum (n d : Nat) : Sum (partF n d) := by
  induction n generalizing d with
  | zero => exact fun l t r h => by cases h
  | succ n ih => exact oneF_sum (upF_sum (ih d) _ _ _) (upF_sum (ih (d + 1)) _ _ _) _
theorem part_sum (d : Nat) : Sum (part d) := fun l => partF_sum (l.length + 1) d l
theorem wordF_sum (n : Nat) : Sum (wordF n) := by
  induction n with
  | zero => exact fun l t r h => by cases h
  | succ n ih =>
    intro l t r h
    rw [wordF] at h
    split at h
    · cases h; simp
    · cases e : part 0 l with
      | error e' => rw [e] at h; cases h
      | ok x =>
        obtain ⟨t1, r1⟩ := x
        rw [e] at h
        obtain ⟨v, h1, h2⟩ := pre_inv h
        have h3 := ih _ _ _ h1
        have h4 := part_sum 0 _ _ _ e
        rw [h2, List.length_append]; omega
theorem word_sum : Sum word := fun l => wordF_sum (l.length + 1) l
/-- Few tokens, and short ones. -/
def Small (S : L) (l : L) (out : List Tok) : Prop := out.length + l.length ≤ S.length ∧ ∀ t ∈ out, t.text.length ≤ S.length + 2
theorem signs_two {t : L} (h : t ∈ signs) : t.length ≤ 2 := by
  have : ∀ t ∈ signs, t.length ≤ 2 := by decide
  exact this t h
theorem lay_texts {n : Nat} {out : List Tok} (h : ∀ t ∈ out, t.text.length ≤ n) (k : Nat) (b : L) : ∀ t ∈ lay k b out, t.text.length ≤ n := by
  intro t ht
  obtain ⟨i, hi⟩ := List.getElem?_of_mem ht
  rw [lay_at] at hi
  cases e : out[i]? with
  | none => rw [e] at hi; cases hi
  | some u =>
    rw [e] at hi
    simp only [Option.map_some, Option.some.injEq] at hi
    have h1 := h u (List.mem_of_getElem? e)
    split at hi
    · subst hi; exact h1
    · subst hi; exact h1
theorem bodies_small {n : Nat} {ks : List Nat} {out o : List Tok} {l r : L} (h : ∀ t ∈ out, t.text.length ≤ n) (e : bodies ks out l = some (o, r)) : o.length = out.length ∧ ∀ t ∈ o, t.text.length ≤ n := by
  induction ks generalizing out l with
  | nil => cases e; exact ⟨rfl, h⟩
  | cons k ks ih =>
    unfold bodies at e
    cases e1 : doc (bare ((out[k]?.map Tok.text).getD [])) l with
    | none => rw [e1] at e; cases e
    | some x => rw [e1] at e; obtain ⟨h1, h2⟩ := ih (lay_texts h k x.1) e; exact ⟨by rw [h1]; unfold lay; simp, h2⟩
theorem small_step {S l l' : L} {out out' : List Tok} {here here' : List Nat} (h : Small S l out) (e : step l out here = .more l' out' here') : Small S l' out' := by
  obtain ⟨hr, ht⟩ := h
  have rest : ∀ l', l'.length ≤ l.length → Small S l' out := fun l' hl => ⟨by omega, ht⟩
  have snoc : ∀ u l', l'.length < l.length → u.text.length ≤ S.length + 2 → Small S l' (out ++ [u]) := fun u l' hl hu => ⟨by rw [List.length_append, List.length_singleton]; omega, fun t hm => by
    rcases List.mem_append.1 hm with hm | hm
    · exact ht t hm
    · simp only [List.mem_singleton] at hm; subst hm; exact hu⟩
  unfold step at e
  cases l with
  | nil => simp only at e; split at e <;> cases e
  | cons c r =>
    simp only at e
    split at e
    · cases e; exact rest _ (by simp)
    · rename_i hbl
      split at e
      · cases e; exact rest _ (by simp; omega)
      · rename_i hj
        split at e
        · cases e; exact rest _ (by have := skip_le r; rw [List.length_cons]; omega)
        · rename_i h35
          split at e
          · cases e1 : bodies here (out ++ [⟨3, [], [], nl (c :: r)⟩]) r with
            | none => rw [e1] at e; cases e
            | some x =>
              rw [e1] at e
              cases e
              obtain ⟨o, r'⟩ := x
              have hs := snoc ⟨3, [], [], nl (c :: r)⟩ r (by simp) (by simp)
              obtain ⟨h1, h2⟩ := bodies_small hs.2 e1
              have h3 := bodies_le _ e1
              exact ⟨by have := hs.1; simp only at this ⊢; omega, h2⟩
          · rename_i h10
            cases e1 : sign (c :: r) with
            | some x =>
              obtain ⟨t, r'⟩ := x
              rw [e1] at e
              cases e
              exact snoc _ _ (sign_lt e1) (by have := signs_two (sign_in e1); simp only; omega)
            | none =>
              rw [e1] at e
              simp only at e
              split at e
              · cases e
              · rename_i h38
                cases e2 : word (c :: r) with
                | error x => rw [e2] at e; cases e
                | ok x =>
                  obtain ⟨t, r'⟩ := x
                  rw [e2] at e
                  simp only at e
                  have he := sign_none e1 hbl h10 h38
                  have h1 := word_lt e2 he
                  have h2 := word_sum _ _ _ e2
                  split at e
                  · cases e; exact snoc _ _ h1 (by simp only; omega)
                  · cases e; exact snoc _ _ h1 (by simp only; omega)
theorem all_small {s : L} {o : List Tok} (h : all s = .ok o) : o.length ≤ s.length + 1 ∧ ∀ t ∈ o, t.text.length ≤ s.length + 2 := by
  obtain ⟨h1, h2⟩ := run_ind (fun l out _ => Small s l out) (fun l out here l' out' here' h e => small_step h e) s [] [] ⟨by simp, nofun⟩
  obtain ⟨l', o', hh, ⟨h3, h5⟩, h4⟩ := h2 o h
  unfold step at h4
  cases l' with
  | nil =>
    simp only at h4
    split at h4
    · have := Step.done.inj h4
      subst this
      refine ⟨by rw [List.length_append, List.length_singleton]; simp at h3; omega, fun t ht => ?_⟩
      rcases List.mem_append.1 ht with ht | ht
      · exact h5 t ht
      · simp only [List.mem_singleton] at ht; subst ht; simp
    · cases h4
  | cons c r =>
    exfalso
    simp only at h4
    split at h4
    · cases h4
    · split at h4
      · cases h4
      · split at h4
        · cases h4
        · split at h4
          · cases e1 : bodies hh (o' ++ [⟨3, [], [], nl (c :: r)⟩]) r with
            | none => rw [e1] at h4; cases h4
            | some x => rw [e1] at h4; cases h4
          · cases e1 : sign (c :: r) with
            | some x => rw [e1] at h4; cases h4
            | none =>
              rw [e1] at h4
              simp only at h4
              split at h4
              · cases h4
              · cases e2 : word (c :: r) with
                | error x => rw [e2] at h4; cases h4
                | ok x => rw [e2] at h4; simp only at h4; split at h4 <;> cases h4
end Lx
end Go.Proofs.YtnjabmacbgehlaaDoor
