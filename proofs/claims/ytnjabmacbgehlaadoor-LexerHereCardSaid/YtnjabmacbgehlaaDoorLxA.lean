/- The lexer as plain mathematics: what was read, read again, reads as itself. No premises. -/
import Derived.Test.YtnjabmacbgehlaaDoorLx
namespace Go.Proofs.YtnjabmacbgehlaaDoor
namespace Lx
/-- What must not stand behind a dollar. -/
def Bad (l : L) : Prop := l.head? = some 123 ∨ l.head? = some 40 ∨ (l.head? = some 92 ∧ l.tail.head? = some 10)
theorem sq_again {l t r : L} (h : sq l = some (t, r)) (r' : L) : sq (t ++ r') = some (t, r') := by
  induction l generalizing t r with
  | nil => cases h
  | cons c l ih =>
    unfold sq at h
    split at h
    · cases h; simp [sq]
    · rename_i hc
      cases e : sq l with
      | none => rw [e] at h; cases h
      | some p => rw [e] at h; cases h; simp [sq, hc, ih e]
theorem ar_again {o : Nat} {l t r : L} (h : ar o l = some (t, r)) (r' : L) : ar o (t ++ r') = some (t, r') := by
  induction l generalizing o t r with
  | nil => cases h
  | cons c l ih =>
    unfold ar at h
    split at h
    · rename_i hc
      subst hc
      cases o with
      | zero =>
        cases l with
        | nil => cases h
        | cons b q => simp only at h; split at h <;> cases h; simp [ar]
      | succ o =>
        simp only at h
        cases e : ar o l with
        | none => rw [e] at h; cases h
        | some p => rw [e] at h; cases h; simp [ar, ih e]
    · rename_i hc
      cases e : ar (if c = 40 then o + 1 else o) l with
      | none => rw [e] at h; cases h
      | some p => rw [e] at h; cases h; simp [ar, hc, ih e]
/-- What a part's text begins with. -/
theorem part_head {d : Nat} {l t r : L} (h : part d l = .ok (t, r)) : (t = [] ∧ l = 92 :: 10 :: r) ∨ (∃ b, b ≠ 10 ∧ l = 92 :: b :: r ∧ t = [92, b]) ∨ (∃ c l' t', c ≠ 92 ∧ l = c :: l' ∧ t = c :: t') := by
  rw [part_at] at h
  unfold oneF at h
  cases l with
  | nil => cases h
  | cons c l =>
    simp only at h
    split at h
    · rename_i hc
      subst hc
      cases l with
      | nil => cases h
      | cons b q =>
        by_cases hb : b = 10
        · subst hb; cases h; exact .inl ⟨rfl, rfl⟩
        · simp only [if_neg hb] at h; cases h; exact .inr (.inl ⟨b, hb, rfl, rfl⟩)
    · rename_i hc
      refine .inr (.inr ⟨c, l, ?_⟩)
      split at h
      · cases e : sq l with
        | none => rw [e] at h; cases h
        | some x => rw [e] at h; cases h; rename_i h39; subst h39; exact ⟨_, hc, rfl, rfl⟩
      · split at h
        · rename_i h34; subst h34; obtain ⟨v, _, rfl⟩ := pre_inv h; exact ⟨v, hc, rfl, rfl⟩
        · split at h
          · rename_i h36
            subst h36
            unfold dolF at h
            cases l with
            | nil => cases h; exact ⟨_, hc, rfl, rfl⟩
            | cons x q =>
              simp only at h
              split at h
              · split at h
                · cases h
                · obtain ⟨v, _, rfl⟩ := pre_inv h; exact ⟨_, hc, rfl, rfl⟩
              · split at h
                · cases q with
                  | nil => cases h
                  | cons y q' =>
                    simp only at h
                    split at h
                    · cases e : ar 0 q' with
                      | none => rw [e] at h; cases h
                      | some x => rw [e] at h; cases h; exact ⟨_, hc, rfl, rfl⟩
                    · cases h
                · split at h
                  · cases h
                  · cases h; exact ⟨_, hc, rfl, rfl⟩
          · split at h
            · cases h
            · cases h; exact ⟨_, hc, rfl, rfl⟩
theorem part_good {d : Nat} {l t r : L} (h : part d l = .ok (t, r)) (hb : ¬ Bad l) (r' : L) : ¬ Bad (t ++ r') := by
  rcases part_head h with ⟨rfl, rfl⟩ | ⟨b, hb', rfl, rfl⟩ | ⟨c, l', t', hc, rfl, rfl⟩
  · exact absurd (.inr (.inr ⟨rfl, rfl⟩)) hb
  · simp [Bad, hb']
  · simp only [Bad, List.head?_cons, Option.some.injEq, not_or, List.cons_append, hc, false_and, not_false_eq_true, and_true] at hb ⊢
    exact hb
theorem part_dollar {d : Nat} {l r : L} (h : part d l = .ok ([36], r)) : ¬ Bad r := by
  rcases part_head h with ⟨h1, _⟩ | ⟨b, _, _, h1⟩ | ⟨c, l', t', hc, rfl, h1⟩
  · cases h1
  · cases h1
  · cases h1
    rw [part_at] at h
    unfold oneF dolF at h
    cases l' with
    | nil => cases h; simp [Bad]
    | cons x q =>
      simp only [show ¬ ((36 : UInt8) = 92) by decide, show ¬ ((36 : UInt8) = 39) by decide, show ¬ ((36 : UInt8) = 34) by decide, if_false, if_true] at h
      split at h
      · split at h
        · cases h
        · obtain ⟨v, _, h1⟩ := pre_inv h; cases h1
      · split at h
        · cases q with
          | nil => cases h
          | cons y q' =>
            simp only at h
            split at h
            · cases e : ar 0 q' with
              | none => rw [e] at h; cases h
              | some x => rw [e] at h; cases h
            · cases h
        · split at h
          · cases h
          · rename_i h1 h2 h3
            cases h
            simp only [Bad, List.head?_cons, Option.some.injEq, List.tail_cons]
            rintro (h4 | h4 | h4)
            · exact h1 h4
            · exact h2 h4
            · exact h3 h4
theorem up_good (d : Nat) {z : UInt8} (q : Bool) (hz : z = 34 ∨ z = 125) {l t r : L} (h : up d z q l = .ok (t, r)) (hb : ¬ Bad l) (r' : L) : ¬ Bad (t ++ r') := by
  rw [up_at] at h
  split at h
  · cases h
    rcases hz with rfl | rfl <;> simp [Bad]
  · split at h
    · obtain ⟨v, _, rfl⟩ := pre_inv h
      simp [Bad]
    · cases e : part d l with
      | error e' => rw [e] at h; cases h
      | ok x =>
        obtain ⟨t1, r1⟩ := x
        rw [e] at h
        obtain ⟨v, _, rfl⟩ := pre_inv h
        rw [List.append_assoc]
        exact part_good e hb _
theorem part_again_of {d : Nat} {l t r : L} (h : part d l = .ok (t, r)) (ht : t ≠ []) (hup : ∀ (d : Nat) (z : UInt8) (q : Bool), (z = 34 ∨ z = 125) → ∀ l' : L, l'.length < l.length → ∀ t r : L, up d z q l' = .ok (t, r) → ∀ r' : L, up d z q (t ++ r') = .ok (t, r')) (r' : L) (hr : t = [36] → ¬ Bad r') : part d (t ++ r') = .ok (t, r') := by
  rw [part_at] at h ⊢
  unfold oneF at h
  cases l with
  | nil => cases h
  | cons c l =>
    simp only at h
    split at h
    · rename_i hc
      subst hc
      cases l with
      | nil => cases h
      | cons b q =>
        by_cases hb : b = 10
        · subst hb; cases h; exact absurd rfl ht
        · simp only [if_neg hb] at h; cases h; simp [oneF, hb]
    · rename_i hc
      split at h
      · rename_i h39
        subst h39
        cases e : sq l with
        | none => rw [e] at h; cases h
        | some x => rw [e] at h; cases h; simp [oneF, sq_again e]
      · split at h
        · rename_i h34
          subst h34
          obtain ⟨v, h1, rfl⟩ := pre_inv h
          simp [oneF, hup d 34 true (.inl rfl) l (by simp) _ _ h1 r']
        · split at h
          · rename_i h36
            subst h36
            unfold dolF at h
            cases l with
            | nil =>
              cases h
              have h1 := hr rfl
              cases r' with
              | nil => simp [oneF, dolF]
              | cons x q =>
                simp only [Bad, List.head?_cons, Option.some.injEq, List.tail_cons, not_or] at h1
                simp only [oneF, dolF, List.cons_append, List.nil_append, if_neg h1.1, if_neg h1.2.1, if_neg h1.2.2]
                simp
            | cons x q =>
              simp only at h
              split at h
              · rename_i hx
                subst hx
                split at h
                · cases h
                · rename_i hd
                  obtain ⟨v, h1, rfl⟩ := pre_inv h
                  have h2 := hup (d + 1) 125 false (.inr rfl) q (by simp only [List.length_cons]; omega) _ _ h1 r'
                  simp only [oneF, dolF, List.cons_append, List.nil_append, if_neg hd, h2, pre_ok]
                  simp
              · rename_i hx
                split at h
                · rename_i hx4
                  subst hx4
                  cases q with
                  | nil => cases h
                  | cons y q' =>
                    simp only at h
                    split at h
                    · rename_i hy
                      subst hy
                      cases e : ar 0 q' with
                      | none => rw [e] at h; cases h
                      | some x => rw [e] at h; cases h; simp [oneF, dolF, ar_again e]
                    · cases h
                · split at h
                  · cases h
                  · cases h
                    have h1 := hr rfl
                    cases r' with
                    | nil => simp [oneF, dolF]
                    | cons x q =>
                      simp only [Bad, List.head?_cons, Option.some.injEq, List.tail_cons, not_or] at h1
                      simp only [oneF, dolF, List.cons_append, List.nil_append, if_neg h1.1, if_neg h1.2.1, if_neg h1.2.2]
                      simp
          · split at h
            · cases h
            · rename_i h39 h34 h36 h96
              cases h
              simp [oneF, hc, h39, h34, h36, h96]
theorem up_again_all (n : Nat) : ∀ (d : Nat) (z : UInt8) (q : Bool), (z = 34 ∨ z = 125) → ∀ l : L, l.length < n → ∀ t r : L, up d z q l = .ok (t, r) → ∀ r' : L, up d z q (t ++ r') = .ok (t, r') := by
  induction n with
  | zero => intro d z q hz l hl; omega
  | succ n ih =>
    intro d z q hz l hl t r h r'
    rw [up_at] at h
    split at h
    · cases h
      rw [up_at]
      simp
    · rename_i hhz
      have hz39 : z ≠ 39 := by rcases hz with rfl | rfl <;> decide
      split at h
      · rename_i e
        obtain ⟨v, h1, rfl⟩ := pre_inv h
        have h3 := congrArg List.length (head_cons e.2)
        simp only [List.length_cons] at h3
        rw [up_at]
        simp [hz39.symm, e.1, ih d z true hz l.tail (by omega) _ _ (e.1 ▸ h1) r']
      · rename_i e39
        cases e : part d l with
        | error e' => rw [e] at h; cases h
        | ok x =>
          obtain ⟨t1, r1⟩ := x
          rw [e] at h
          obtain ⟨v, h1, rfl⟩ := pre_inv h
          have h3 := part_len d _ _ _ e
          have h4 := ih d z q hz r1 (by omega) _ _ h1 r'
          by_cases ht : t1 = []
          · subst ht; exact h4
          · have h5 := part_again_of e ht (fun d z q hz l' hl' => ih d z q hz l' (by omega)) (v ++ r') (fun ht => by subst ht; exact up_good d q hz h1 (part_dollar e) r')
            have h6 : (t1 ++ v ++ r').head? = l.head? := by
              rcases part_head e with ⟨h7, _⟩ | ⟨b, _, rfl, rfl⟩ | ⟨c, l', t', _, rfl, rfl⟩
              · exact absurd h7 ht
              · rfl
              · rfl
            rw [up_at, h6, if_neg hhz, if_neg e39, List.append_assoc, h5]
            simp only [h4, pre_ok]
theorem up_again (d : Nat) {z : UInt8} (q : Bool) (hz : z = 34 ∨ z = 125) {l t r : L} (h : up d z q l = .ok (t, r)) (r' : L) : up d z q (t ++ r') = .ok (t, r') := up_again_all (l.length + 1) d z q hz l (by omega) t r h r'
/-- A part's text, read again, is that part. -/
theorem part_again {d : Nat} {l t r : L} (h : part d l = .ok (t, r)) (ht : t ≠ []) (r' : L) (hr : t = [36] → ¬ Bad r') : part d (t ++ r') = .ok (t, r') :=
  part_again_of h ht (fun _ _ q hz _ _ _ _ h r' => up_again _ q hz h r') r' hr
end Lx
end Go.Proofs.YtnjabmacbgehlaaDoor
