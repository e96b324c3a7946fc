/- The lexer as plain mathematics: a here-document, and what stands behind it. No premises. -/
import Derived.Test.YtnjabmacbgehlaaDoorLxQ
namespace Go.Proofs.YtnjabmacbgehlaaDoor
namespace Lx
/-- Tokens ahead of a step's. -/
def Step.ahead (A : List Tok) : Step → Step
  | .more l out here => .more l (A ++ out) (here.map (· + A.length))
  | .fail e k => .fail e k
  | .done o => .done (A ++ o)
/-- Each here-document that waits is one of the tokens. -/
def Within (out : List Tok) (here : List Nat) : Prop := ∀ k ∈ here, k < out.length
theorem lay_len (k : Nat) (b : L) (out : List Tok) : (lay k b out).length = out.length := by simp [lay]
theorem lay_ahead (A : List Tok) (k : Nat) (b : L) (out : List Tok) : lay (k + A.length) b (A ++ out) = A ++ lay k b out := by
  unfold lay
  apply List.ext_getElem?
  intro i
  rw [List.getElem?_modify]
  by_cases hi : i < A.length
  · rw [List.getElem?_append_left hi, List.getElem?_append_left hi]
    simp only [if_neg (show ¬ k + A.length = i by omega)]
    simp
  · rw [List.getElem?_append_right (by omega), List.getElem?_append_right (by omega), List.getElem?_modify]
    simp only [show (k + A.length = i) = (k = i - A.length) from propext ⟨fun _ => by omega, fun _ => by omega⟩]
theorem bodies_ahead (A : List Tok) (ks : List Nat) (out : List Tok) (l : L) : bodies (ks.map (· + A.length)) (A ++ out) l = (bodies ks out l).map fun p => (A ++ p.1, p.2) := by
  induction ks generalizing out l with
  | nil => rfl
  | cons k ks ih =>
    simp only [List.map_cons, bodies]
    rw [List.getElem?_append_right (by omega), Nat.add_sub_cancel]
    cases e : doc (bare ((out[k]?.map Tok.text).getD [])) l with
    | none => rfl
    | some x => simp only; rw [lay_ahead, ih]
theorem bodies_len (ks : List Nat) {out o : List Tok} {l r : L} (h : bodies ks out l = some (o, r)) : o.length = out.length := by
  induction ks generalizing out l with
  | nil => cases h; rfl
  | cons k ks ih =>
    unfold bodies at h
    cases e : doc (bare ((out[k]?.map Tok.text).getD [])) l with
    | none => rw [e] at h; cases h
    | some x => rw [e] at h; rw [ih h, lay_len]
theorem hung_ahead (A : List Tok) (hA : hung A = false) (out : List Tok) : hung (A ++ out) = hung out := by
  rcases List.eq_nil_or_concat out with rfl | ⟨o, t, rfl⟩
  · rw [List.append_nil, hA]; rfl
  · rw [List.concat_eq_append, ← List.append_assoc, hung_snoc, hung_snoc]
theorem step_ahead (A : List Tok) (hA : hung A = false) (l : L) (out : List Tok) (here : List Nat) (hw : Within out here) : step l (A ++ out) (here.map (· + A.length)) = (step l out here).ahead A := by
  unfold step
  cases l with
  | nil =>
    by_cases hh : here = []
    · subst hh; simp [Step.ahead]
    · have h1 : out ≠ [] := by
        intro h2; subst h2
        obtain ⟨k, ks, rfl⟩ := List.exists_cons_of_ne_nil hh
        have := hw k (by simp); simp at this
      obtain ⟨o, t, rfl⟩ := (List.eq_nil_or_concat out).resolve_left h1
      simp [hh, Step.ahead, ← List.append_assoc]
  | cons c r =>
    simp only
    split
    · rfl
    · split
      · rfl
      · split
        · rfl
        · split
          · rw [List.append_assoc, bodies_ahead]
            cases e : bodies here (out ++ [⟨3, [], [], nl (c :: r)⟩]) r with
            | none => rfl
            | some x => rfl
          · cases e : sign (c :: r) with
            | some x => simp [Step.ahead]
            | none =>
              simp only
              split
              · rfl
              · cases e2 : word (c :: r) with
                | error x => rfl
                | ok x =>
                  obtain ⟨t, r'⟩ := x
                  simp only
                  rw [hung_ahead A hA]
                  split
                  · simp [Step.ahead]
                  · split <;> simp [Step.ahead, Nat.add_comm]
theorem step_within {l l' : L} {out out' : List Tok} {here here' : List Nat} (hw : Within out here) (h : step l out here = .more l' out' here') : Within out' here' := by
  have grow : ∀ t : Tok, Within (out ++ [t]) here := fun t k hk => by have := hw k hk; simp only [List.length_append, List.length_singleton]; omega
  unfold step at h
  cases l with
  | nil => simp only at h; split at h <;> cases h
  | cons c r =>
    simp only at h
    split at h
    · cases h; exact hw
    · split at h
      · cases h; exact hw
      · split at h
        · cases h; exact hw
        · split at h
          · cases e : bodies here (out ++ [⟨3, [], [], nl (c :: r)⟩]) r with
            | none => rw [e] at h; cases h
            | some x => rw [e] at h; cases h; intro k hk; cases hk
          · cases e : sign (c :: r) with
            | some x => rw [e] at h; cases h; exact grow _
            | none =>
              rw [e] at h
              simp only at h
              split at h
              · cases h
              · cases e2 : word (c :: r) with
                | error x => rw [e2] at h; cases h
                | ok x =>
                  rw [e2] at h
                  simp only at h
                  split at h
                  · cases h; exact grow _
                  · cases h
                    split
                    · intro k hk
                      rcases List.mem_append.1 hk with hk | hk
                      · exact grow _ k hk
                      · simp only [List.mem_singleton] at hk; subst hk; simp
                    · exact grow _
/-- The same, tokens ahead. -/
theorem run_ahead (A : List Tok) (hA : hung A = false) (l : L) (out : List Tok) (here : List Nat) (hw : Within out here) : run l (A ++ out) (here.map (· + A.length)) = (match run l out here with | .error e => .error e | .ok o => .ok (A ++ o)) := by
  generalize hn : l.length = n
  induction n using Nat.strongRecOn generalizing l out here with
  | ind n ih =>
    rw [run_at, run_at l out here, step_ahead A hA l out here hw]
    cases e : step l out here with
    | fail a b => rfl
    | done o => rfl
    | more l' o' h' => exact ih l'.length (by rw [← hn]; exact step_lt e) l' o' h' (step_within hw e) rfl
theorem cut_line (x : L) (hx : ∀ c ∈ x, c ≠ 10) (l : L) : cut (x ++ 10 :: l) = (x, l) := by
  induction x with
  | nil => simp [cut]
  | cons c x ih => simp [cut, hx c (by simp), ih (fun c hc => hx c (by simp [hc]))]
/-- Lines, each with its newline. -/
def linesL (ls : List L) : L := ls.flatMap fun x => x ++ [10]
theorem doc_lines (last : L) (ls : List L) (h : ∀ x ∈ ls, x ≠ last ∧ ∀ c ∈ x, c ≠ 10) (hl : ∀ c ∈ last, c ≠ 10) (more : L) : doc last (linesL ls ++ (last ++ 10 :: more)) = some (linesL ls, more) := by
  induction ls with
  | nil =>
    rw [show linesL [] = [] from rfl, List.nil_append, doc_at, if_neg (by simp), cut_line last hl, if_pos rfl]
  | cons x ls ih =>
    have h1 := h x (by simp)
    have e : linesL (x :: ls) ++ (last ++ 10 :: more) = x ++ 10 :: (linesL ls ++ (last ++ 10 :: more)) := by simp [linesL]
    rw [e, doc_at, if_neg (by simp), cut_line x h1.2, if_neg h1.1, ih (fun x hx => h x (by simp [hx]))]
    simp [linesL]
/-- a <<W, the lines, the word, more. -/
theorem all_here (w : L) (hw : w = [69] ∨ w = [34, 69, 34]) (ls : List L) (h : ∀ x ∈ ls, x ≠ [69] ∧ ∀ c ∈ x, c ≠ 10) (more : L) :
    ∃ a b c d, all (97 :: 32 :: 60 :: 60 :: (w ++ 10 :: (linesL ls ++ (69 :: 10 :: more)))) = (match all more with | .error e => .error e | .ok o => .ok (⟨1, [97], [], a⟩ :: ⟨2, [60, 60], [], b⟩ :: ⟨1, w, linesL ls, c⟩ :: ⟨3, [], [], d⟩ :: o)) := by
  obtain ⟨T, hT⟩ : ∃ T, T = 10 :: (linesL ls ++ (69 :: 10 :: more)) := ⟨_, rfl⟩
  have hTe : ends T = true := by rw [hT]; rfl
  have hd := doc_lines [69] ls h (by simp) more
  rw [← hT]
  have h1 : word (97 :: 32 :: 60 :: 60 :: (w ++ T)) = .ok ([97], 32 :: 60 :: 60 :: (w ++ T)) := by
    have := word_plain [97] (by decide) (32 :: 60 :: 60 :: (w ++ T))
    rw [word_gap (32 :: 60 :: 60 :: (w ++ T)) rfl] at this
    exact this
  have h2 : word (w ++ T) = .ok (w, T) := by
    rcases hw with rfl | rfl
    · have := word_plain [69] (by decide) T
      rw [word_gap T hTe] at this
      exact this
    · rw [word_at, show ends ([34, 69, 34] ++ T) = false from rfl, part_at]
      simp only [Bool.false_eq_true, if_false, oneF, List.cons_append, List.nil_append, show ¬ ((34 : UInt8) = 92) by decide, show ¬ ((34 : UInt8) = 39) by decide, if_true]
      rw [up_at]
      simp only [List.head?_cons, Option.some.injEq, show ¬ ((69 : UInt8) = 34) by decide, show ¬ ((69 : UInt8) = 39) by decide, if_false, and_false]
      rw [part_at]
      simp only [oneF, show ¬ ((69 : UInt8) = 92) by decide, show ¬ ((69 : UInt8) = 39) by decide, show ¬ ((69 : UInt8) = 34) by decide, show ¬ ((69 : UInt8) = 36) by decide, show ¬ ((69 : UInt8) = 96) by decide, if_false]
      rw [up_at]
      simp [word_gap _ hTe]
  have hbare : bare w = [69] := by rcases hw with rfl | rfl <;> rfl
  have hhd : T.head? = some 10 := by rw [hT]; rfl
  unfold all
  rw [run_word 97 _ _ _ [] [] (by decide) (by simp) (by decide) h1 (by simp [io])]
  rw [run_blank _ _ _ _ (.inl rfl), run_at, step]
  simp only [sign, List.head?_cons, List.tail_cons, hung, List.getLast?_nil, List.nil_append, Bool.false_eq_true, if_false, if_true, show ¬ ((60 : UInt8) = 32 ∨ (60 : UInt8) = 9) by decide, show ¬ ((60 : UInt8) = 92 ∧ some (60 : UInt8) = some 10) by decide, show ¬ ((60 : UInt8) = 35) by decide, show ¬ ((60 : UInt8) = 10) by decide, show ¬ ((60 : UInt8) = 38) by decide, show ¬ ((60 : UInt8) = 124) by decide, show ¬ ((60 : UInt8) = 59) by decide]
  obtain ⟨c0, w', hwe, hs0⟩ : ∃ c0 w', w = c0 :: w' ∧ (c0 = 69 ∨ c0 = 34) := by rcases hw with rfl | rfl <;> exact ⟨_, _, rfl, by simp⟩
  have hio : io w ((w ++ T).length - T.length) T = false := by simp [io, hhd]
  rw [hwe] at h2 hio
  rw [hwe, List.cons_append, run_word c0 (w' ++ T) _ _ _ _ (by rcases hs0 with rfl | rfl <;> decide) (by rcases hs0 with rfl | rfl <;> simp) (by rcases hs0 with rfl | rfl <;> decide) h2 hio, ← hwe]
  rw [hT, run_at, step]
  simp only [show ¬ ((10 : UInt8) = 32 ∨ (10 : UInt8) = 9) by decide, show ¬ ((10 : UInt8) = 35) by decide, show ¬ ((10 : UInt8) = 92) by decide, false_and, if_false, if_true]
  generalize nl (97 :: _) = n1
  generalize nl (60 :: _) = n2
  generalize nl (c0 :: _) = n3
  generalize nl (10 :: _) = n4
  rw [List.cons_append, List.nil_append] at hd
  refine ⟨n1, n2, n3, n4, ?_⟩
  have hr := run_ahead [⟨1, [97], [], n1⟩, ⟨2, [60, 60], [], n2⟩, ⟨1, w, linesL ls, n3⟩, ⟨3, [], [], n4⟩] rfl more [] [] (by intro k hk; cases hk)
  simp only [List.cons_append, List.nil_append, show hung [⟨1, [97], [], n1⟩, ⟨2, [60, 60], [], n2⟩] = true from rfl, if_true, bodies, List.length_cons, List.length_nil, List.getElem?_cons_succ, List.getElem?_cons_zero, Option.map_some, Option.getD_some, hbare, hd, lay]
  exact hr
end Lx
end Go.Proofs.YtnjabmacbgehlaaDoor
