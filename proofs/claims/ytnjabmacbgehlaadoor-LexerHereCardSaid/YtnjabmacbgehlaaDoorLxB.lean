/- The lexer as plain mathematics: tokens put behind each other with blanks between are those tokens. No premises. -/
import Derived.Test.YtnjabmacbgehlaaDoorLxL
namespace Go.Proofs.YtnjabmacbgehlaaDoor
namespace Lx
/-- The texts of signs. -/
def signs : List L := [[38, 38], [124, 124], [59, 59], [60, 60], [62, 62], [59], [124], [40], [41], [60], [62]]
theorem sign_in {l t r : L} (h : sign l = some (t, r)) : t ∈ signs := by
  cases l with
  | nil => cases h
  | cons c l =>
    simp only [sign] at h
    by_cases h40 : c = 40
    · subst h40; cases h; decide
    by_cases h41 : c = 41
    · subst h41; cases h; decide
    simp only [h40, h41, or_self, if_false] at h
    have e : ∀ (x : L × L), some x = some (t, r) → x.1 = t := fun x hx => by cases hx; rfl
    repeat' (split at h)
    all_goals first | (cases h; done) | (rw [← e _ h]; simp [signs])
theorem sign_again {t : L} (h : t ∈ signs) (r : L) : sign (t ++ 9 :: r) = some (t, 9 :: r) := by
  simp only [signs, List.mem_cons, List.not_mem_nil, or_false] at h
  rcases h with rfl | rfl | rfl | rfl | rfl | rfl | rfl | rfl | rfl | rfl | rfl <;> rfl
theorem sign_begin {t : L} (h : t ∈ signs) : ∃ c x, t = c :: x ∧ ¬ (c = 32 ∨ c = 9) ∧ c ≠ 92 ∧ c ≠ 35 ∧ c ≠ 10 := by
  simp only [signs, List.mem_cons, List.not_mem_nil, or_false] at h
  rcases h with rfl | rfl | rfl | rfl | rfl | rfl | rfl | rfl | rfl | rfl | rfl <;> exact ⟨_, _, rfl, by decide, by decide, by decide, by decide⟩
/-- A text that is one word. -/
def IsWord (t : L) : Prop := ∃ c x, t = c :: x ∧ stop c = false ∧ c ≠ 35 ∧ (c = 92 → x.head? ≠ some 10 ∧ x ≠ []) ∧ ∀ r, Gap r → word (t ++ r) = .ok (t, r)
/-- A token of a script. -/
def IsTok (t : Tok) : Prop := (t.kind = 1 ∧ IsWord t.text) ∨ (t.kind = 2 ∧ t.text ∈ signs) ∨ (t.kind = 3 ∧ t.text = []) ∨ t.kind = 5
theorem isTok_lay {out : List Tok} (h : ∀ t ∈ out, IsTok t) (k : Nat) (b : L) : ∀ t ∈ lay k b out, IsTok t := by
  intro t ht
  obtain ⟨i, hi⟩ := List.getElem?_of_mem ht
  rw [lay_at] at hi
  cases e : out[i]? with
  | none => rw [e] at hi; cases hi
  | some u =>
    rw [e] at hi
    simp only [Option.map_some, Option.some.injEq] at hi
    have h1 := h u (List.mem_of_getElem? e)
    split at hi
    · subst hi; exact h1
    · subst hi; exact h1
theorem isTok_bodies {ks : List Nat} {out o : List Tok} {l r : L} (h : ∀ t ∈ out, IsTok t) (e : bodies ks out l = some (o, r)) : ∀ t ∈ o, IsTok t := by
  induction ks generalizing out l with
  | nil => cases e; exact h
  | cons k ks ih =>
    unfold bodies at e
    cases e1 : doc (bare ((out[k]?.map Tok.text).getD [])) l with
    | none => rw [e1] at e; cases e
    | some x => rw [e1] at e; exact ih (isTok_lay h k x.1) e
theorem isTok_step {l l' : L} {out out' : List Tok} {here here' : List Nat} (h : ∀ t ∈ out, IsTok t) (e : step l out here = .more l' out' here') : ∀ t ∈ out', IsTok t := by
  have snoc : ∀ u, IsTok u → ∀ t ∈ out ++ [u], IsTok t := fun u hu t ht => by
    rcases List.mem_append.1 ht with ht | ht
    · exact h t ht
    · simp only [List.mem_singleton] at ht; subst ht; exact hu
  unfold step at e
  cases l with
  | nil => simp only at e; split at e <;> cases e
  | cons c r =>
    simp only at e
    split at e
    · cases e; exact h
    · rename_i hbl
      split at e
      · cases e; exact h
      · rename_i hj
        split at e
        · cases e; exact h
        · rename_i h35
          split at e
          · cases e1 : bodies here (out ++ [⟨3, [], [], nl (c :: r)⟩]) r with
            | none => rw [e1] at e; cases e
            | some x => rw [e1] at e; cases e; exact isTok_bodies (snoc _ (.inr (.inr (.inl ⟨rfl, rfl⟩)))) e1
          · rename_i h10
            cases e1 : sign (c :: r) with
            | some x => rw [e1] at e; cases e; exact snoc _ (.inr (.inl ⟨rfl, sign_in e1⟩))
            | none =>
              rw [e1] at e
              simp only at e
              split at e
              · cases e
              · rename_i h38
                cases e2 : word (c :: r) with
                | error x => rw [e2] at e; cases e
                | ok x =>
                  obtain ⟨t, r'⟩ := x
                  rw [e2] at e
                  simp only at e
                  split at e
                  · cases e; exact snoc _ (.inr (.inr (.inr rfl)))
                  · cases e
                    refine snoc _ (.inl ⟨rfl, ?_⟩)
                    have he := sign_none e1 hbl h10 h38
                    obtain ⟨h1, h2, h3⟩ := word_head e2 he (fun h => hj ⟨by simpa using h.1, h.2⟩)
                    obtain ⟨c0, x, rfl⟩ := List.exists_cons_of_ne_nil h1
                    simp only [List.head?_cons, Option.some.injEq] at h2
                    subst h2
                    exact ⟨c0, x, rfl, he, h35, fun hc => h3 (by rw [hc]; rfl), fun r hr => (word_again e2 r hr).1⟩
theorem isTok_all {s : L} {o : List Tok} (h : all s = .ok o) : ∃ out, o = out ++ [⟨4, [], [], 0⟩] ∧ ∀ t ∈ out, IsTok t := by
  obtain ⟨h1, h2⟩ := run_ind (fun _ out _ => ∀ t ∈ out, IsTok t) (fun l out here l' out' here' h e => isTok_step h e) s [] [] nofun
  obtain ⟨l', o', hh, h3, h4⟩ := h2 o h
  obtain ⟨out, e, _⟩ := (all_lines s).2 o h
  subst e
  refine ⟨out, rfl, ?_⟩
  have h5 : o' = out := by
    unfold step at h4
    cases l' with
    | nil =>
      simp only at h4
      split at h4
      · have := Step.done.inj h4; exact List.append_cancel_right this
      · cases h4
    | cons c r =>
      exfalso
      simp only at h4
      split at h4
      · cases h4
      · split at h4
        · cases h4
        · split at h4
          · cases h4
          · split at h4
            · cases e1 : bodies hh (o' ++ [⟨3, [], [], nl (c :: r)⟩]) r with
              | none => rw [e1] at h4; cases h4
              | some x => rw [e1] at h4; cases h4
            · cases e1 : sign (c :: r) with
              | some x => rw [e1] at h4; cases h4
              | none =>
                rw [e1] at h4
                simp only at h4
                split at h4
                · cases h4
                · cases e2 : word (c :: r) with
                  | error x => rw [e2] at h4; cases h4
                  | ok x => rw [e2] at h4; simp only at h4; split at h4 <;> cases h4
  rw [← h5]; exact h3
/-- A token with blanks around; a Line with a remark ahead. -/
def render (t : Tok) : L := if t.kind = 1 ∨ t.kind = 2 then 32 :: (t.text ++ [9]) else if t.kind = 3 then [32, 35, 32, 39, 32, 110, 111, 116, 101, 10] else []
theorem run_render (ts : List Tok) (h : ∀ t ∈ ts, IsTok t ∧ t.kind ≠ 5 ∧ t.text ≠ [60, 60]) (out : List Tok) (ho : hung out = false) :
    ∃ o, run (ts.flatMap render) out [] = .ok (out ++ o) ∧ o.map (fun t : Tok => (t.kind, t.text)) = (ts ++ [(⟨4, [], [], 0⟩ : Tok)]).map fun t : Tok => (t.kind, t.text) := by
  induction ts generalizing out with
  | nil => exact ⟨[⟨4, [], [], 0⟩], run_nil out, rfl⟩
  | cons t ts ih =>
    obtain ⟨h1, h5, h6⟩ := h t (by simp)
    have ht := fun t ht => h t (List.mem_cons_of_mem _ ht)
    obtain ⟨k, x, b, n⟩ := t
    simp only at h5 h6
    rw [List.flatMap_cons]
    rcases h1 with ⟨h1, h2⟩ | ⟨h1, h2⟩ | ⟨h1, h2⟩ | h1
    · simp only at h1 h2
      subst h1
      obtain ⟨c, y, rfl, hs, h35, h92, hw⟩ := h2
      obtain ⟨o, e1, e2⟩ := ih ht (out ++ [⟨1, c :: y, [], nl (c :: (y ++ 9 :: ts.flatMap render))⟩]) (by rw [hung_snoc]; rfl)
      have hw1 := hw (9 :: ts.flatMap render) (.inr (.inr (.inl rfl)))
      rw [List.cons_append] at hw1
      refine ⟨⟨1, c :: y, [], nl (c :: (y ++ 9 :: ts.flatMap render))⟩ :: o, ?_, by simp [e2]⟩
      have e : render ⟨1, c :: y, b, n⟩ ++ ts.flatMap render = 32 :: c :: (y ++ 9 :: ts.flatMap render) := by simp [render]
      rw [e, run_blank _ _ _ _ (.inl rfl), run_word c _ _ _ out [] hs ?_ h35 hw1 (by simp [io]), ho]
      · simp only [Bool.false_eq_true, if_false]
        rw [run_blank _ _ _ _ (.inr rfl), e1]
        simp
      · rintro ⟨hc, hh⟩
        obtain ⟨h7, h8⟩ := h92 hc
        obtain ⟨z, y', rfl⟩ := List.exists_cons_of_ne_nil h8
        exact h7 hh
    · simp only at h1 h2
      subst h1
      obtain ⟨c, y, rfl, hb, h92, h35, h10⟩ := sign_begin h2
      have hsg := sign_again h2 (ts.flatMap render)
      rw [List.cons_append] at hsg
      obtain ⟨o, e1, e2⟩ := ih ht (out ++ [⟨2, c :: y, [], nl (c :: (y ++ 9 :: ts.flatMap render))⟩]) (by rw [hung_snoc]; simp only [beq_self_eq_true, Bool.true_and]; exact beq_eq_false_iff_ne.2 h6)
      refine ⟨⟨2, c :: y, [], nl (c :: (y ++ 9 :: ts.flatMap render))⟩ :: o, ?_, by simp [e2]⟩
      have e : render ⟨2, c :: y, b, n⟩ ++ ts.flatMap render = 32 :: c :: (y ++ 9 :: ts.flatMap render) := by simp [render]
      rw [e, run_blank _ _ _ _ (.inl rfl), run_at, step]
      simp only [if_neg hb, if_neg (show ¬ (c = 92 ∧ (y ++ 9 :: ts.flatMap render).head? = some 10) from fun h => h92 h.1), if_neg h35, if_neg h10, hsg]
      rw [run_blank _ _ _ _ (.inr rfl), e1]
      simp
    · simp only at h1 h2
      subst h1
      subst h2
      obtain ⟨o, e1, e2⟩ := ih ht (out ++ [⟨3, [], [], nl (10 :: ts.flatMap render)⟩]) (by rw [hung_snoc]; rfl)
      refine ⟨⟨3, [], [], nl (10 :: ts.flatMap render)⟩ :: o, ?_, by simp [e2]⟩
      have e : render ⟨3, [], b, n⟩ ++ ts.flatMap render = 32 :: 35 :: 32 :: 39 :: 32 :: 110 :: 111 :: 116 :: 101 :: 10 :: ts.flatMap render := by simp [render]
      have esk : skip (32 :: 39 :: 32 :: 110 :: 111 :: 116 :: 101 :: 10 :: ts.flatMap render) = 10 :: ts.flatMap render := by simp [skip]
      rw [e, run_blank _ _ _ _ (.inl rfl), run_at, step]
      simp only [show ¬ ((35 : UInt8) = 32 ∨ (35 : UInt8) = 9) by decide, show ¬ ((35 : UInt8) = 92) by decide, false_and, if_false, if_true, esk]
      rw [run_at, step]
      simp only [show ¬ ((10 : UInt8) = 32 ∨ (10 : UInt8) = 9) by decide, show ¬ ((10 : UInt8) = 92) by decide, show ¬ ((10 : UInt8) = 35) by decide, false_and, if_false, if_true, bodies]
      rw [e1]
      simp
    · exact absurd h1 h5
/-- Tokens put behind each other with blanks between are those tokens. -/
theorem all_blanks {s : L} {o : List Tok} (h : all s = .ok o) (h5 : ∀ t ∈ o, t.kind ≠ 5 ∧ t.text ≠ [60, 60]) : ∃ m, all (o.flatMap render) = .ok m ∧ m.map (fun t : Tok => (t.kind, t.text)) = o.map fun t : Tok => (t.kind, t.text) := by
  obtain ⟨out, rfl, h1⟩ := isTok_all h
  obtain ⟨m, e1, e2⟩ := run_render out (fun t ht => ⟨h1 t ht, h5 t (List.mem_append_left _ ht)⟩) [] rfl
  refine ⟨m, ?_, e2⟩
  have e : (out ++ [(⟨4, [], [], 0⟩ : Tok)]).flatMap render = out.flatMap render := by simp [render]
  rw [e]
  exact e1
end Lx
end Go.Proofs.YtnjabmacbgehlaaDoor
