/- The lexer, with more behind a script that ends with a newline: its tokens stay, and the others' follow. No premises. -/
import Derived.Test.YtipojbknkfkgoaaGreatDoorNk
namespace Go.Proofs.YtipojbknkfkgoaaGreatDoor
namespace Lx
/-- It ends with a newline. -/
def En (l : L) : Prop := l.getLast? = some 10
theorem En.ne {l : L} (h : En l) : l ≠ [] := by rintro rfl; cases h
theorem En.tail {c : UInt8} {r : L} (h : En (c :: r)) (hr : r ≠ []) : En r := by
  unfold En at *
  rw [List.getLast?_cons] at h
  cases e : r.getLast? with
  | none => exact absurd (List.getLast?_eq_none_iff.1 e) hr
  | some x => rw [e] at h; simpa using h
theorem En.cons {c : UInt8} {r : L} (h : En (c :: r)) (hc : c ≠ 10) : En r := h.tail (by rintro rfl; cases h; exact hc rfl)
theorem En.suf {l r : L} (h : En l) (hs : r <:+ l) (hr : r ≠ []) : En r := by
  obtain ⟨m, rfl⟩ := hs
  induction m with
  | nil => exact h
  | cons c m ih => exact ih (h.tail (by simp [hr]))
theorem En.mem {l : L} (h : En l) : (10 : UInt8) ∈ l := List.mem_of_getLast? h
theorem sq_more {l t r : L} (h : sq l = some (t, r)) (b : L) : sq (l ++ b) = some (t, r ++ b) := by
  induction l generalizing t with
  | nil => cases h
  | cons c l ih =>
    unfold sq at h
    rw [List.cons_append, sq]
    split at h
    · rename_i e; rw [if_pos e]; cases h; rfl
    · rename_i e
      rw [if_neg e]
      cases e2 : sq l with
      | none => rw [e2] at h; cases h
      | some x => rw [e2] at h; cases h; rw [ih e2]; rfl
theorem sq_end {l t r : L} (h : sq l = some (t, r)) (hl : En l) : En r := by
  induction l generalizing t with
  | nil => cases h
  | cons c l ih =>
    unfold sq at h
    split at h
    · rename_i e; cases h; exact hl.cons (by rw [e]; decide)
    · cases e2 : sq l with
      | none => rw [e2] at h; cases h
      | some x => rw [e2] at h; cases h; exact ih e2 (hl.tail (by rintro rfl; cases e2))
theorem ar_more {o : Nat} {l t r : L} (h : ar o l = some (t, r)) (hl : En l) : En r ∧ ∀ b, ar o (l ++ b) = some (t, r ++ b) := by
  induction l generalizing o t with
  | nil => cases h
  | cons c l ih =>
    unfold ar at h
    by_cases e : c = 41
    · rw [if_pos e] at h
      cases o with
      | zero =>
        cases l with
        | nil => cases h
        | cons d q =>
          simp only at h
          by_cases e2 : d = 41
          · rw [if_pos e2] at h
            cases h
            refine ⟨(hl.cons (by rw [e]; decide)).cons (by rw [e2]; decide), fun b => ?_⟩
            rw [List.cons_append, List.cons_append, ar, if_pos e]
            simp only [if_pos e2]
          · rw [if_neg e2] at h; cases h
      | succ o =>
        simp only at h
        cases e2 : ar o l with
        | none => rw [e2] at h; cases h
        | some x =>
          rw [e2] at h
          cases h
          obtain ⟨h1, h2⟩ := ih e2 (hl.cons (by rw [e]; decide))
          refine ⟨h1, fun b => ?_⟩
          rw [List.cons_append, ar, if_pos e]
          simp only [h2 b]
          rfl
    · rw [if_neg e] at h
      cases e2 : ar (if c = 40 then o + 1 else o) l with
      | none => rw [e2] at h; cases h
      | some x =>
        rw [e2] at h
        cases h
        obtain ⟨h1, h2⟩ := ih e2 (hl.tail (by rintro rfl; cases e2))
        refine ⟨h1, fun b => ?_⟩
        show ar o (c :: (l ++ b)) = _
        unfold ar
        rw [if_neg e, h2 b]
        rfl
theorem head_more {l : L} (h : l ≠ []) (b : L) : (l ++ b).head? = l.head? ∧ (l ++ b).tail = l.tail ++ b := by
  cases l with
  | nil => exact absurd rfl h
  | cons c l => exact ⟨rfl, rfl⟩
theorem pre_more {t u r : L} {x : R} {y : L → R} (h : pre t x = .ok (u, r)) (hx : ∀ v, x = .ok (v, r) → En r ∧ ∀ b, y b = .ok (v, r ++ b)) : En r ∧ ∀ b, pre t (y b) = .ok (u, r ++ b) := by
  obtain ⟨v, h1, h2⟩ := pre_inv h
  obtain ⟨h3, h4⟩ := hx v h1
  exact ⟨h3, fun b => by rw [h4 b, pre_ok, h2]⟩
/-- A part, and parts up to a byte, with more behind. -/
theorem more_all (n : Nat) : (∀ (d : Nat) (l t r : L), l.length < n → En l → part d l = .ok (t, r) → (r = [] ∧ (l = [10] ∨ l = [92, 10])) ∨ (En r ∧ ∀ b, part d (l ++ b) = .ok (t, r ++ b))) ∧
    (∀ (d : Nat) (z : UInt8) (q : Bool) (l t r : L), (z = 34 ∨ z = 125) → l.length < n → En l → up d z q l = .ok (t, r) → En r ∧ ∀ b, up d z q (l ++ b) = .ok (t, r ++ b)) := by
  induction n with
  | zero => exact ⟨fun d l t r h => absurd h (by omega), fun d z q l t r _ h => absurd h (by omega)⟩
  | succ n ih =>
    have hpart : ∀ (d : Nat) (l t r : L), l.length < n + 1 → En l → part d l = .ok (t, r) → (r = [] ∧ (l = [10] ∨ l = [92, 10])) ∨ (En r ∧ ∀ b, part d (l ++ b) = .ok (t, r ++ b)) := by
      intro d l t r hn hl h
      rw [part_at] at h
      cases l with
      | nil => cases h
      | cons c k =>
        simp only [List.length_cons] at hn
        unfold oneF at h
        simp only at h
        have hb : ∀ b, part d (c :: k ++ b) = oneF (up d 34 true) (up (d + 1) 125 false) (d == 8) (c :: (k ++ b)) := fun b => part_at d _
        by_cases c1 : c = 92
        · rw [if_pos c1] at h
          cases k with
          | nil => cases h
          | cons x q =>
            cases h
            by_cases hq : r = []
            · subst hq
              have : x = 10 := by have := hl.cons (by rw [c1]; decide); cases this; rfl
              exact .inl ⟨rfl, .inr (by rw [c1, this])⟩
            · refine .inr ⟨(hl.cons (by rw [c1]; decide)).tail hq, fun b => ?_⟩
              rw [hb]
              unfold oneF
              simp only [if_pos c1]
              rfl
        rw [if_neg c1] at h
        by_cases c2 : c = 39
        · rw [if_pos c2] at h
          cases e : sq k with
          | none => rw [e] at h; cases h
          | some x =>
            obtain ⟨t1, r1⟩ := x
            rw [e] at h
            cases h
            refine .inr ⟨sq_end e (hl.cons (by rw [c2]; decide)), fun b => ?_⟩
            rw [hb]
            unfold oneF
            simp only [if_neg c1, if_pos c2, sq_more e b]
        rw [if_neg c2] at h
        by_cases c3 : c = 34
        · rw [if_pos c3] at h
          obtain ⟨h1, h2⟩ := pre_more (y := fun b => up d 34 true (k ++ b)) h fun v hv => ih.2 d 34 true k v r (.inl rfl) (by omega) (hl.cons (by rw [c3]; decide)) hv
          refine .inr ⟨h1, fun b => ?_⟩
          rw [hb]
          unfold oneF
          simp only [if_neg c1, if_neg c2, if_pos c3, h2 b]
        rw [if_neg c3] at h
        by_cases c4 : c = 36
        · rw [if_pos c4] at h
          have hk := hl.cons (c := c) (by rw [c4]; decide)
          have goal : En r ∧ ∀ b, dolF (up (d + 1) 125 false) (d == 8) (k ++ b) = .ok (t, r ++ b) := by
            unfold dolF at h
            cases k with
            | nil => cases hk
            | cons x q =>
              simp only at h
              by_cases x1 : x = 123
              · rw [if_pos x1] at h
                by_cases dp : (d == 8) = true
                · rw [if_pos dp] at h; cases h
                · rw [if_neg dp] at h
                  obtain ⟨h1, h2⟩ := pre_more (y := fun b => up (d + 1) 125 false (q ++ b)) h fun v hv => ih.2 (d + 1) 125 false q v r (.inr rfl) (by simp only [List.length_cons] at hn; omega) (hk.cons (by rw [x1]; decide)) hv
                  refine ⟨h1, fun b => ?_⟩
                  unfold dolF
                  simp only [List.cons_append, if_pos x1, if_neg dp, h2 b]
              rw [if_neg x1] at h
              by_cases x2 : x = 40
              · rw [if_pos x2] at h
                cases q with
                | nil => cases h
                | cons y q' =>
                  simp only at h
                  by_cases y1 : y = 40
                  · rw [if_pos y1] at h
                    cases e : ar 0 q' with
                    | none => rw [e] at h; cases h
                    | some z =>
                      obtain ⟨t1, r1⟩ := z
                      rw [e] at h
                      cases h
                      obtain ⟨h1, h2⟩ := ar_more e ((hk.cons (by rw [x2]; decide)).cons (by rw [y1]; decide))
                      refine ⟨h1, fun b => ?_⟩
                      unfold dolF
                      simp only [List.cons_append, if_neg x1, if_pos x2, if_pos y1, h2 b]
                  · rw [if_neg y1] at h; cases h
              rw [if_neg x2] at h
              by_cases x3 : x = 92 ∧ q.head? = some 10
              · rw [if_pos x3] at h; cases h
              · rw [if_neg x3] at h
                cases h
                refine ⟨hk, fun b => ?_⟩
                unfold dolF
                have x4 : ¬ (x = 92 ∧ (q ++ b).head? = some 10) := by
                  rintro ⟨a1, a2⟩
                  have hq : q ≠ [] := (hk.cons (by rw [a1]; decide)).ne
                  rw [(head_more hq b).1] at a2
                  exact x3 ⟨a1, a2⟩
                simp only [List.cons_append, if_neg x1, if_neg x2, if_neg x4]
          refine .inr ⟨goal.1, fun b => ?_⟩
          rw [hb]
          unfold oneF
          simp only [if_neg c1, if_neg c2, if_neg c3, if_pos c4, goal.2 b]
        rw [if_neg c4] at h
        by_cases c5 : c = 96
        · rw [if_pos c5] at h; cases h
        rw [if_neg c5] at h
        cases h
        by_cases hk : r = []
        · subst hk
          have : c = 10 := by cases hl; rfl
          exact .inl ⟨rfl, .inl (by rw [this])⟩
        · refine .inr ⟨hl.tail hk, fun b => ?_⟩
          rw [hb]
          unfold oneF
          simp only [if_neg c1, if_neg c2, if_neg c3, if_neg c4, if_neg c5]
    refine ⟨hpart, ?_⟩
    intro d z q l t r hz hn hl h
    have hz10 : z ≠ 10 := by rcases hz with rfl | rfl <;> decide
    rw [up_at] at h
    have hhead := fun b => (head_more hl.ne b).1
    have htail := fun b => (head_more hl.ne b).2
    by_cases a1 : l.head? = some z
    · rw [if_pos a1] at h
      cases h
      have e := head_cons a1
      refine ⟨?_, fun b => ?_⟩
      · rw [e] at hl; exact hl.cons hz10
      · rw [up_at, hhead, if_pos a1, htail]
    rw [if_neg a1] at h
    by_cases a2 : q = true ∧ l.head? = some 39
    · rw [if_pos a2] at h
      have e := head_cons a2.2
      have hlt : l.tail.length < n := by have := congrArg List.length e; simp only [List.length_cons] at this; omega
      have hle : En l.tail := by rw [e] at hl; exact hl.cons (by decide)
      obtain ⟨h1, h2⟩ := pre_more (y := fun b => up d z q (l.tail ++ b)) h fun v hv => ih.2 d z q l.tail v r hz hlt hle hv
      refine ⟨h1, fun b => ?_⟩
      rw [up_at, hhead, if_neg a1, if_pos a2, htail]
      exact h2 b
    rw [if_neg a2] at h
    cases e : part d l with
    | error x => rw [e] at h; cases h
    | ok x =>
      obtain ⟨t1, r1⟩ := x
      rw [e] at h
      simp only at h
      rcases hpart d l t1 r1 hn hl e with ⟨h1, _⟩ | ⟨h1, h2⟩
      · subst h1
        obtain ⟨v, hv, _⟩ := pre_inv h
        rw [up_at] at hv
        rw [if_neg (show ¬ ([] : L).head? = some z by simp), if_neg (show ¬ (q = true ∧ ([] : L).head? = some 39) by simp)] at hv
        cases hv
      · have hlt := part_len d _ _ _ e
        obtain ⟨h3, h4⟩ := pre_more (y := fun b => up d z q (r1 ++ b)) h fun v hv => ih.2 d z q r1 v r hz (by omega) h1 hv
        refine ⟨h3, fun b => ?_⟩
        rw [up_at, hhead, if_neg a1, if_neg a2, h2 b]
        exact h4 b
/-- No backslash stands ahead of the newline at its end. -/
def Nb (l : L) : Prop := ∀ m, l ≠ m ++ [92, 10]
theorem Nb.suf {l r : L} (h : Nb l) (hs : r <:+ l) : Nb r := by
  obtain ⟨p, rfl⟩ := hs
  intro m e
  exact h (p ++ m) (by rw [e, List.append_assoc])
theorem part_suffix {d : Nat} {l t r : L} (h : part d l = .ok (t, r)) : r <:+ l := (part_fine d l).1 t r h
theorem word_more (n : Nat) : ∀ (l t r : L), l.length < n → En l → Nb l → word l = .ok (t, r) → En r ∧ ∀ b, word (l ++ b) = .ok (t, r ++ b) := by
  induction n with
  | zero => exact fun l t r h => absurd h (by omega)
  | succ n ih =>
    intro l t r hn hl hb h
    have he : ∀ b, ends (l ++ b) = ends l := fun b => by
      cases l with
      | nil => cases hl
      | cons c k => rfl
    rw [word_at] at h
    by_cases a1 : ends l = true
    · rw [if_pos a1] at h
      cases h
      exact ⟨hl, fun b => by rw [word_at, he, if_pos a1]⟩
    rw [if_neg a1] at h
    cases e : part 0 l with
    | error x => rw [e] at h; cases h
    | ok x =>
      obtain ⟨t1, r1⟩ := x
      rw [e] at h
      simp only at h
      have hlt := part_len 0 _ _ _ e
      rcases (more_all (l.length + 1)).1 0 l t1 r1 (by omega) hl e with ⟨_, h1 | h1⟩ | ⟨h1, h2⟩
      · subst h1; exact absurd rfl a1
      · subst h1; exact absurd rfl (hb [])
      · obtain ⟨h3, h4⟩ := pre_more (y := fun b => word (r1 ++ b)) h fun v hv => ih r1 v r (by omega) h1 (hb.suf (part_suffix e)) hv
        refine ⟨h3, fun b => ?_⟩
        rw [word_at, he, if_neg a1, h2 b]
        exact h4 b
theorem sign_two {c : UInt8} {r : L} (hl : En (c :: r)) (b : L) : (c = 10 ∧ r = []) ∨ ((r ++ b).head? = r.head? ∧ (r ++ b).tail = r.tail ++ b ∧ r ≠ []) := by
  cases r with
  | nil => cases hl; exact .inl ⟨rfl, rfl⟩
  | cons x q => exact .inr ⟨rfl, rfl, by simp⟩
theorem sign_more {l t r : L} (hl : En l) (h : sign l = some (t, r)) : En r ∧ ∀ b, sign (l ++ b) = some (t, r ++ b) := by
  have hsuf := sign_lt h
  cases l with
  | nil => cases h
  | cons c k =>
    have hk : k ≠ [] := by
      rintro rfl
      have : c = 10 := by cases hl; rfl
      subst this
      cases h
    have hEk := hl.tail hk
    refine ⟨?_, fun b => ?_⟩
    · rcases sign_tail h with rfl | rfl
      · exact hEk
      · obtain ⟨x, q, rfl⟩ := List.exists_cons_of_ne_nil hk
        refine hEk.tail ?_
        rintro rfl
        have : x = 10 := by cases hEk; rfl
        subst this
        simp only [sign, List.head?_cons, List.tail_cons] at h
        repeat' (split at h)
        all_goals first
          | (cases h; done)
          | (injection h with h; injection h with _ h; cases h)
          | (rename_i hx; injection hx with hx; cases hx)
          | (rename_i hx _; injection hx with hx; cases hx)
    · obtain ⟨h1, h2⟩ := head_more hk b
      simp only [List.cons_append, sign, h1, h2]
      simp only [sign] at h
      repeat' (split at h)
      all_goals first
        | (cases h; simp [*]; done)
        | (cases h; done)
theorem sign_more_none {l : L} (hl : En l) (h : sign l = none) (b : L) : sign (l ++ b) = none := by
  cases l with
  | nil => cases hl
  | cons c k =>
    rcases sign_two hl b with ⟨rfl, rfl⟩ | ⟨h1, h2, _⟩
    · rfl
    · simp only [List.cons_append, sign, h1, h2]
      simp only [sign] at h
      repeat' (split at h)
      all_goals first
        | (cases h; done)
        | (simp [*]; done)
end Lx
end Go.Proofs.YtipojbknkfkgoaaGreatDoor
