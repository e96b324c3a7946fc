/- The lexer as plain mathematics: texts in single quotes; joins. No premises. -/
import Derived.Test.YtipojbknkfkgoaaGreatDoorNd
namespace Go.Proofs.YtipojbknkfkgoaaGreatDoor
namespace Lx
theorem hung_snoc (out : List Tok) (t : Tok) : hung (out ++ [t]) = (t.kind == 2 && t.text == [60, 60]) := by
  simp [hung]
theorem run_blank (l : L) (out : List Tok) (here : List Nat) (c : UInt8) (hc : c = 32 ∨ c = 9) : run (c :: l) out here = run l out here := by
  rw [run_at, step]
  simp only [if_pos hc]
theorem run_join (l : L) (out : List Tok) (here : List Nat) : run (92 :: 10 :: l) out here = run l out here := by
  rw [run_at, step]
  simp
theorem run_nil (out : List Tok) : run [] out [] = .ok (out ++ [⟨4, [], [], 0⟩]) := by
  rw [run_at, step]
  simp
/-- A word that is no number ahead of a sign, and that no here-document waits for. -/
theorem run_word (c : UInt8) (l t r : L) (out : List Tok) (here : List Nat) (hs : stop c = false) (h92 : ¬ (c = 92 ∧ l.head? = some 10)) (h35 : c ≠ 35) (hw : word (c :: l) = .ok (t, r)) (hio : io t ((c :: l).length - r.length) r = false) :
    run (c :: l) out here = run r (out ++ [⟨1, t, [], nl (c :: l)⟩]) (if hung out = true then here ++ [out.length] else here) := by
  simp only [stop, Bool.or_eq_false_iff, beq_eq_false_iff_ne, ne_eq] at hs
  obtain ⟨⟨⟨⟨⟨⟨⟨⟨⟨a1, a2⟩, a3⟩, a4⟩, a5⟩, a6⟩, a7⟩, a8⟩, a9⟩, a10⟩ := hs
  have hsg : sign (c :: l) = none := by simp [sign, a4, a5, a6, a7, a8, a9, a10]
  rw [run_at, step]
  simp only [if_neg (show ¬ (c = 32 ∨ c = 9) by rintro (h | h); exact a1 h; exact a2 h), if_neg h92, if_neg h35, if_neg a3, hsg, if_neg a5, hw, hio, Bool.false_eq_true, if_false]
/-- Texts in single quotes, a blank behind each. -/
def quotesL (ls : List L) : L := ls.flatMap fun x => 39 :: x ++ [39, 32]
def quotesT : List L → List Tok
  | [] => [⟨4, [], [], 0⟩]
  | x :: ls => ⟨1, 39 :: x ++ [39], [], nl (quotesL (x :: ls))⟩ :: quotesT ls
theorem run_quotes (ls : List L) (h : ∀ x ∈ ls, ∀ c ∈ x, c ≠ 39) (out : List Tok) (ho : hung out = false) : run (quotesL ls) out [] = .ok (out ++ quotesT ls) := by
  induction ls generalizing out with
  | nil => exact run_nil out
  | cons x ls ih =>
    have e : quotesL (x :: ls) = 39 :: (x ++ 39 :: 32 :: quotesL ls) := by simp [quotesL]
    have hw := word_quotes x (h x (by simp)) (32 :: quotesL ls) rfl
    rw [List.cons_append] at hw
    rw [quotesT, e, run_word 39 _ _ _ out [] (by decide) (fun h => absurd h.1 (by decide)) (by decide) hw (by simp [io, digits]), ho]
    simp only [Bool.false_eq_true, if_false]
    rw [run_blank _ _ _ _ (.inl rfl), ih (fun x hx => h x (by simp [hx])) _ (by rw [hung_snoc]; rfl)]
    simp
theorem all_quotes (ls : List L) (h : ∀ x ∈ ls, ∀ c ∈ x, c ≠ 39) : all (quotesL ls) = .ok (quotesT ls) := run_quotes ls h [] rfl
theorem quotesT_len (ls : List L) : (quotesT ls).length = ls.length + 1 := by
  induction ls with
  | nil => rfl
  | cons x ls ih => simp [quotesT, ih]
theorem quotesT_at (ls : List L) (i : Nat) (x : L) (h : ls[i]? = some x) : ∃ n, (quotesT ls)[i]? = some ⟨1, 39 :: x ++ [39], [], n⟩ := by
  induction ls generalizing i with
  | nil => cases h
  | cons y ls ih =>
    cases i with
    | zero => simp only [List.getElem?_cons_zero, Option.some.injEq] at h; subst h; exact ⟨_, rfl⟩
    | succ i => exact ih i h
theorem quotesT_last (ls : List L) : (quotesT ls)[ls.length]? = some ⟨4, [], [], 0⟩ := by
  induction ls with
  | nil => rfl
  | cons x ls ih => exact ih
/-- A byte that begins a plain word. -/
def good (c : UInt8) : Bool := plain c && c != 35
theorem plain_parts {c : UInt8} (h : plain c = true) : stop c = false ∧ c ≠ 92 ∧ c ≠ 10 := by
  simp only [plain, stop, Bool.and_eq_true, Bool.not_eq_true', Bool.or_eq_false_iff, beq_eq_false_iff_ne, ne_eq] at h ⊢
  exact ⟨h.1, h.2.1.1.1.1, h.1.1.1.1.1.1.1.1.2⟩
theorem nl_plain (x : L) (h : ∀ c ∈ x, plain c = true) (l : L) : nl (x ++ l) = nl l := by
  induction x with
  | nil => rfl
  | cons c x ih =>
    have h1 := (plain_parts (h c (by simp))).2.2
    simp only [List.cons_append, nl, if_neg h1, ih (fun c hc => h c (by simp [hc])), Nat.zero_add]
theorem word_end : word [] = .ok ([], []) := by rw [word_at]; rfl
theorem word_gap (l : L) (h : ends l = true) : word l = .ok ([], l) := by rw [word_at, h, if_pos rfl]
/-- A plain word, behind which no sign stands. -/
theorem run_plain (a t l r : L) (ha : a ≠ []) (h : ∀ c ∈ a, good c = true) (hw : word (a ++ l) = .ok (t, r)) (hr : r.head? ≠ some 60 ∧ r.head? ≠ some 62) (out : List Tok) (ho : hung out = false) : run (a ++ l) out [] = run r (out ++ [⟨1, t, [], nl l⟩]) [] := by
  obtain ⟨c, x, rfl⟩ := List.exists_cons_of_ne_nil ha
  have hp : ∀ b ∈ c :: x, plain b = true := fun b hb => by have := h b hb; simp only [good, Bool.and_eq_true] at this; exact this.1
  have hc := h c (by simp)
  simp only [good, Bool.and_eq_true, bne_iff_ne, ne_eq] at hc
  have hpp := plain_parts hc.1
  have e := run_word c (x ++ l) t r out [] hpp.1 (fun h => hpp.2.1 h.1) hc.2 hw (by simp [io, hr.1, hr.2])
  rw [show nl (c :: (x ++ l)) = nl l from nl_plain (c :: x) hp l, ho] at e
  simpa using e
/-- A join within a word. -/
theorem all_join (a b : L) (ha : a ≠ []) (h : ∀ c ∈ a ++ b, good c = true) : all (a ++ 92 :: 10 :: b) = .ok [⟨1, a ++ b, [], 1⟩, ⟨4, [], [], 0⟩] := by
  have hp : ∀ c ∈ a ++ b, plain c = true := fun c hc => by have := h c hc; simp only [good, Bool.and_eq_true] at this; exact this.1
  have hw : word (a ++ 92 :: 10 :: b) = .ok (a ++ b, []) := by
    rw [word_plain a (fun c hc => hp c (by simp [hc])), word_join]
    have := word_plain b (fun c hc => hp c (by simp [hc])) []
    rw [List.append_nil, word_end] at this
    rw [this]; simp
  have hn : nl (92 :: 10 :: b) = 1 := by
    have := nl_plain b (fun c hc => hp c (by simp [hc])) []
    rw [List.append_nil] at this
    simp [nl, this]
  unfold all
  rw [run_plain a _ _ _ ha (fun c hc => h c (by simp [hc])) hw ⟨nofun, nofun⟩ [] rfl, run_nil, hn]
  rfl
/-- A join between two words. -/
theorem all_apart (a b : L) (ha : a ≠ []) (hb : b ≠ []) (h : ∀ c ∈ a ++ b, good c = true) : all (a ++ 32 :: 92 :: 10 :: 32 :: b) = .ok [⟨1, a, [], 1⟩, ⟨1, b, [], 0⟩, ⟨4, [], [], 0⟩] := by
  have hp : ∀ c ∈ a ++ b, plain c = true := fun c hc => by have := h c hc; simp only [good, Bool.and_eq_true] at this; exact this.1
  have hw : word (a ++ 32 :: 92 :: 10 :: 32 :: b) = .ok (a, 32 :: 92 :: 10 :: 32 :: b) := by
    rw [word_plain a (fun c hc => hp c (by simp [hc])), word_gap _ rfl]; simp
  have hw2 : word (b ++ []) = .ok (b, []) := by
    rw [word_plain b (fun c hc => hp c (by simp [hc])), word_end]; simp
  have hn0 : nl b = 0 := by
    have := nl_plain b (fun c hc => hp c (by simp [hc])) []
    rw [List.append_nil] at this
    exact this
  have hn : nl (32 :: 92 :: 10 :: 32 :: b) = 1 := by simp [nl, hn0]
  have h2 := run_plain b _ [] _ hb (fun c hc => h c (by simp [hc])) hw2 ⟨nofun, nofun⟩ [⟨1, a, [], 1⟩] rfl
  rw [List.append_nil] at h2
  unfold all
  rw [run_plain a _ _ _ ha (fun c hc => h c (by simp [hc])) hw ⟨by simp, by simp⟩ [] rfl, hn, run_blank _ _ _ _ (.inl rfl), run_join, run_blank _ _ _ _ (.inl rfl)]
  rw [show ([] : List Tok) ++ [⟨1, a, [], 1⟩] = [⟨1, a, [], 1⟩] from rfl, h2, run_nil]
  rfl
end Lx
end Go.Proofs.YtipojbknkfkgoaaGreatDoor
/- The lexer as plain mathematics: a here-document, and what stands behind it. No premises. -/
namespace Go.Proofs.YtipojbknkfkgoaaGreatDoor
namespace Lx
/-- Tokens ahead of a step's. -/
def Step.ahead (A : List Tok) : Step → Step
  | .more l out here => .more l (A ++ out) (here.map (· + A.length))
  | .fail e k => .fail e k
  | .done o => .done (A ++ o)
/-- Each here-document that waits is one of the tokens. -/
def Within (out : List Tok) (here : List Nat) : Prop := ∀ k ∈ here, k < out.length
theorem lay_len (k : Nat) (b : L) (out : List Tok) : (lay k b out).length = out.length := by simp [lay]
theorem lay_ahead (A : List Tok) (k : Nat) (b : L) (out : List Tok) : lay (k + A.length) b (A ++ out) = A ++ lay k b out := by
  unfold lay
  apply List.ext_getElem?
  intro i
  rw [List.getElem?_modify]
  by_cases hi : i < A.length
  · rw [List.getElem?_append_left hi, List.getElem?_append_left hi]
    simp only [if_neg (show ¬ k + A.length = i by omega)]
    simp
  · rw [List.getElem?_append_right (by omega), List.getElem?_append_right (by omega), List.getElem?_modify]
    simp only [show (k + A.length = i) = (k = i - A.length) from propext ⟨fun _ => by omega, fun _ => by omega⟩]
theorem bodies_ahead (A : List Tok) (ks : List Nat) (out : List Tok) (l : L) : bodies (ks.map (· + A.length)) (A ++ out) l = (bodies ks out l).map fun p => (A ++ p.1, p.2) := by
  induction ks generalizing out l with
  | nil => rfl
  | cons k ks ih =>
    simp only [List.map_cons, bodies]
    rw [List.getElem?_append_right (by omega), Nat.add_sub_cancel]
    cases e : doc (bare ((out[k]?.map Tok.text).getD [])) l with
    | none => rfl
    | some x => simp only; rw [lay_ahead, ih]
theorem bodies_len (ks : List Nat) {out o : List Tok} {l r : L} (h : bodies ks out l = some (o, r)) : o.length = out.length := by
  induction ks generalizing out l with
  | nil => cases h; rfl
  | cons k ks ih =>
    unfold bodies at h
    cases e : doc (bare ((out[k]?.map Tok.text).getD [])) l with
    | none => rw [e] at h; cases h
    | some x => rw [e] at h; rw [ih h, lay_len]
theorem hung_ahead (A : List Tok) (hA : hung A = false) (out : List Tok) : hung (A ++ out) = hung out := by
  rcases List.eq_nil_or_concat out with rfl | ⟨o, t, rfl⟩
  · rw [List.append_nil, hA]; rfl
  · rw [List.concat_eq_append, ← List.append_assoc, hung_snoc, hung_snoc]
theorem step_ahead (A : List Tok) (hA : hung A = false) (l : L) (out : List Tok) (here : List Nat) (hw : Within out here) : step l (A ++ out) (here.map (· + A.length)) = (step l out here).ahead A := by
  unfold step
  cases l with
  | nil =>
    by_cases hh : here = []
    · subst hh; simp [Step.ahead]
    · have h1 : out ≠ [] := by
        intro h2; subst h2
        obtain ⟨k, ks, rfl⟩ := List.exists_cons_of_ne_nil hh
        have := hw k (by simp); simp at this
      obtain ⟨o, t, rfl⟩ := (List.eq_nil_or_concat out).resolve_left h1
      simp [hh, Step.ahead, ← List.append_assoc]
  | cons c r =>
    simp only
    split
    · rfl
    · split
      · rfl
      · split
        · rfl
        · split
          · rw [List.append_assoc, bodies_ahead]
            cases e : bodies here (out ++ [⟨3, [], [], nl (c :: r)⟩]) r with
            | none => rfl
            | some x => rfl
          · cases e : sign (c :: r) with
            | some x => simp [Step.ahead]
            | none =>
              simp only
              split
              · rfl
              · cases e2 : word (c :: r) with
                | error x => rfl
                | ok x =>
                  obtain ⟨t, r'⟩ := x
                  simp only
                  rw [hung_ahead A hA]
                  split
                  · simp [Step.ahead]
                  · split <;> simp [Step.ahead, Nat.add_comm]
theorem step_within {l l' : L} {out out' : List Tok} {here here' : List Nat} (hw : Within out here) (h : step l out here = .more l' out' here') : Within out' here' := by
  have grow : ∀ t : Tok, Within (out ++ [t]) here := fun t k hk => by have := hw k hk; simp only [List.length_append, List.length_singleton]; omega
  unfold step at h
  cases l with
  | nil => simp only at h; split at h <;> cases h
  | cons c r =>
    simp only at h
    split at h
    · cases h; exact hw
    · split at h
      · cases h; exact hw
      · split at h
        · cases h; exact hw
        · split at h
          · cases e : bodies here (out ++ [⟨3, [], [], nl (c :: r)⟩]) r with
            | none => rw [e] at h; cases h
            | some x => rw [e] at h; cases h; intro k hk; cases hk
          · cases e : sign (c :: r) with
            | some x => rw [e] at h; cases h; exact grow _
            | none =>
              rw [e] at h
              simp only at h
              split at h
              · cases h
              · cases e2 : word (c :: r) with
                | error x => rw [e2] at h; cases h
                | ok x =>
                  rw [e2] at h
                  simp only at h
                  split at h
                  · cases h; exact grow _
                  · cases h
                    split
                    · intro k hk
                      rcases List.mem_append.1 hk with hk | hk
                      · exact grow _ k hk
                      · simp only [List.mem_singleton] at hk; subst hk; simp
                    · exact grow _
/-- The same, tokens ahead. -/
theorem run_ahead (A : List Tok) (hA : hung A = false) (l : L) (out : List Tok) (here : List Nat) (hw : Within out here) : run l (A ++ out) (here.map (· + A.length)) = (match run l out here with | .error e => .error e | .ok o => .ok (A ++ o)) := by
  generalize hn : l.length = n
  induction n using Nat.strongRecOn generalizing l out here with
  | ind n ih =>
    rw [run_at, run_at l out here, step_ahead A hA l out here hw]
    cases e : step l out here with
    | fail a b => rfl
    | done o => rfl
    | more l' o' h' => exact ih l'.length (by rw [← hn]; exact step_lt e) l' o' h' (step_within hw e) rfl
theorem cut_line (x : L) (hx : ∀ c ∈ x, c ≠ 10) (l : L) : cut (x ++ 10 :: l) = (x, l) := by
  induction x with
  | nil => simp [cut]
  | cons c x ih => simp [cut, hx c (by simp), ih (fun c hc => hx c (by simp [hc]))]
/-- Lines, each with its newline. -/
def linesL (ls : List L) : L := ls.flatMap fun x => x ++ [10]
theorem doc_lines (last : L) (ls : List L) (h : ∀ x ∈ ls, x ≠ last ∧ ∀ c ∈ x, c ≠ 10) (hl : ∀ c ∈ last, c ≠ 10) (more : L) : doc last (linesL ls ++ (last ++ 10 :: more)) = some (linesL ls, more) := by
  induction ls with
  | nil =>
    rw [show linesL [] = [] from rfl, List.nil_append, doc_at, if_neg (by simp), cut_line last hl, if_pos rfl]
  | cons x ls ih =>
    have h1 := h x (by simp)
    have e : linesL (x :: ls) ++ (last ++ 10 :: more) = x ++ 10 :: (linesL ls ++ (last ++ 10 :: more)) := by simp [linesL]
    rw [e, doc_at, if_neg (by simp), cut_line x h1.2, if_neg h1.1, ih (fun x hx => h x (by simp [hx]))]
    simp [linesL]
/-- a <<W, the lines, the word, more. -/
theorem all_here (w : L) (hw : w = [69] ∨ w = [34, 69, 34]) (ls : List L) (h : ∀ x ∈ ls, x ≠ [69] ∧ ∀ c ∈ x, c ≠ 10) (more : L) :
    ∃ a b c d, all (97 :: 32 :: 60 :: 60 :: (w ++ 10 :: (linesL ls ++ (69 :: 10 :: more)))) = (match all more with | .error e => .error e | .ok o => .ok (⟨1, [97], [], a⟩ :: ⟨2, [60, 60], [], b⟩ :: ⟨1, w, linesL ls, c⟩ :: ⟨3, [], [], d⟩ :: o)) := by
  obtain ⟨T, hT⟩ : ∃ T, T = 10 :: (linesL ls ++ (69 :: 10 :: more)) := ⟨_, rfl⟩
  have hTe : ends T = true := by rw [hT]; rfl
  have hd := doc_lines [69] ls h (by simp) more
  rw [← hT]
  have h1 : word (97 :: 32 :: 60 :: 60 :: (w ++ T)) = .ok ([97], 32 :: 60 :: 60 :: (w ++ T)) := by
    have := word_plain [97] (by decide) (32 :: 60 :: 60 :: (w ++ T))
    rw [word_gap (32 :: 60 :: 60 :: (w ++ T)) rfl] at this
    exact this
  have h2 : word (w ++ T) = .ok (w, T) := by
    rcases hw with rfl | rfl
    · have := word_plain [69] (by decide) T
      rw [word_gap T hTe] at this
      exact this
    · rw [word_at, show ends ([34, 69, 34] ++ T) = false from rfl, part_at]
      simp only [Bool.false_eq_true, if_false, oneF, List.cons_append, List.nil_append, show ¬ ((34 : UInt8) = 92) by decide, show ¬ ((34 : UInt8) = 39) by decide, if_true]
      rw [up_at]
      simp only [List.head?_cons, Option.some.injEq, show ¬ ((69 : UInt8) = 34) by decide, show ¬ ((69 : UInt8) = 39) by decide, if_false, and_false]
      rw [part_at]
      simp only [oneF, show ¬ ((69 : UInt8) = 92) by decide, show ¬ ((69 : UInt8) = 39) by decide, show ¬ ((69 : UInt8) = 34) by decide, show ¬ ((69 : UInt8) = 36) by decide, show ¬ ((69 : UInt8) = 96) by decide, if_false]
      rw [up_at]
      simp [word_gap _ hTe]
  have hbare : bare w = [69] := by rcases hw with rfl | rfl <;> rfl
  have hhd : T.head? = some 10 := by rw [hT]; rfl
  unfold all
  rw [run_word 97 _ _ _ [] [] (by decide) (by simp) (by decide) h1 (by simp [io])]
  rw [run_blank _ _ _ _ (.inl rfl), run_at, step]
  simp only [sign, List.head?_cons, List.tail_cons, hung, List.getLast?_nil, List.nil_append, Bool.false_eq_true, if_false, if_true, show ¬ ((60 : UInt8) = 32 ∨ (60 : UInt8) = 9) by decide, show ¬ ((60 : UInt8) = 92 ∧ some (60 : UInt8) = some 10) by decide, show ¬ ((60 : UInt8) = 35) by decide, show ¬ ((60 : UInt8) = 10) by decide, show ¬ ((60 : UInt8) = 38) by decide, show ¬ ((60 : UInt8) = 124) by decide, show ¬ ((60 : UInt8) = 59) by decide]
  obtain ⟨c0, w', hwe, hs0⟩ : ∃ c0 w', w = c0 :: w' ∧ (c0 = 69 ∨ c0 = 34) := by rcases hw with rfl | rfl <;> exact ⟨_, _, rfl, by simp⟩
  have hio : io w ((w ++ T).length - T.length) T = false := by simp [io, hhd]
  rw [hwe] at h2 hio
  rw [hwe, List.cons_append, run_word c0 (w' ++ T) _ _ _ _ (by rcases hs0 with rfl | rfl <;> decide) (by rcases hs0 with rfl | rfl <;> simp) (by rcases hs0 with rfl | rfl <;> decide) h2 hio, ← hwe]
  rw [hT, run_at, step]
  simp only [show ¬ ((10 : UInt8) = 32 ∨ (10 : UInt8) = 9) by decide, show ¬ ((10 : UInt8) = 35) by decide, show ¬ ((10 : UInt8) = 92) by decide, false_and, if_false, if_true]
  generalize nl (97 :: _) = n1
  generalize nl (60 :: _) = n2
  generalize nl (c0 :: _) = n3
  generalize nl (10 :: _) = n4
  rw [List.cons_append, List.nil_append] at hd
  refine ⟨n1, n2, n3, n4, ?_⟩
  have hr := run_ahead [⟨1, [97], [], n1⟩, ⟨2, [60, 60], [], n2⟩, ⟨1, w, linesL ls, n3⟩, ⟨3, [], [], n4⟩] rfl more [] [] (by intro k hk; cases hk)
  simp only [List.cons_append, List.nil_append, show hung [⟨1, [97], [], n1⟩, ⟨2, [60, 60], [], n2⟩] = true from rfl, if_true, bodies, List.length_cons, List.length_nil, List.getElem?_cons_succ, List.getElem?_cons_zero, Option.map_some, Option.getD_some, hbare, hd, lay]
  exact hr
end Lx
end Go.Proofs.YtipojbknkfkgoaaGreatDoor
/- The lexer as plain mathematics: what is behind is a part of what was; errors; the tokens' lines never fall. No premises. -/
namespace Go.Proofs.YtipojbknkfkgoaaGreatDoor
namespace Lx
theorem tail_suffix (l : L) : l.tail <:+ l := List.tail_suffix l
theorem sq_suffix {l t r : L} (h : sq l = some (t, r)) : r <:+ l := by
  induction l generalizing t r with
  | nil => cases h
  | cons c l ih =>
    unfold sq at h
    split at h
    · cases h; exact List.suffix_cons _ _
    · cases e : sq l with
      | none => rw [e] at h; cases h
      | some p => rw [e] at h; cases h; exact (ih e).trans (List.suffix_cons _ _)
theorem ar_suffix {o : Nat} {l t r : L} (h : ar o l = some (t, r)) : r <:+ l := by
  induction l generalizing o t r with
  | nil => cases h
  | cons c l ih =>
    unfold ar at h
    split at h
    · cases o with
      | zero =>
        cases l with
        | nil => cases h
        | cons b q => simp only at h; split at h <;> cases h; exact (List.suffix_cons _ _).trans (List.suffix_cons _ _)
      | succ o =>
        simp only at h
        cases e : ar o l with
        | none => rw [e] at h; cases h
        | some p => rw [e] at h; cases h; exact (ih e).trans (List.suffix_cons _ _)
    · cases e : ar (if c = 40 then o + 1 else o) l with
      | none => rw [e] at h; cases h
      | some p => rw [e] at h; cases h; exact (ih e).trans (List.suffix_cons _ _)
/-- What a reader leaves is behind what it read; its errors are two. -/
def Fine (p : L → R) : Prop := ∀ l, (∀ t r, p l = .ok (t, r) → r <:+ l) ∧ (∀ e, p l = .error e → e = 20 ∨ e = 21)
theorem pre_error_inv {t : L} {x : R} {e : Nat} (h : pre t x = .error e) : x = .error e := by
  match x with
  | .ok (v, q) => cases h
  | .error e' => cases h; rfl
theorem upF_fine {p : L → R} (hp : Fine p) (z : UInt8) (q : Bool) (n : Nat) : Fine (upF p z q n) := by
  induction n with
  | zero => exact fun l => ⟨fun _ _ h => (by cases h), fun _ h => (by cases h; exact .inl rfl)⟩
  | succ n ih =>
    intro l
    rw [upF]
    split
    · exact ⟨fun _ _ h => (by cases h; exact tail_suffix l), fun _ h => (by cases h)⟩
    · split
      · refine ⟨fun t r h => ?_, fun e h => (ih l.tail).2 e (pre_error_inv h)⟩
        obtain ⟨v, h1, _⟩ := pre_inv h
        exact ((ih l.tail).1 _ _ h1).trans (tail_suffix l)
      · cases e : p l with
        | error e' => exact ⟨fun _ _ h => (by cases h), fun _ h => (by cases h; exact (hp l).2 _ e)⟩
        | ok x =>
          obtain ⟨t1, r1⟩ := x
          refine ⟨fun t r h => ?_, fun e h => (ih r1).2 e (pre_error_inv h)⟩
          obtain ⟨v, h1, _⟩ := pre_inv h
          exact ((ih r1).1 _ _ h1).trans ((hp l).1 _ _ e)
theorem dolF_fine {b : L → R} (hb : Fine b) (deep : Bool) : Fine (dolF b deep) := by
  intro l
  unfold dolF
  cases l with
  | nil => exact ⟨fun _ _ h => (by cases h; exact List.suffix_refl _), fun _ h => (by cases h)⟩
  | cons x q =>
    simp only
    split
    · split
      · exact ⟨fun _ _ h => (by cases h), fun _ h => (by cases h; exact .inr rfl)⟩
      · refine ⟨fun t r h => ?_, fun e h => (hb q).2 e (pre_error_inv h)⟩
        obtain ⟨v, h1, _⟩ := pre_inv h
        exact ((hb q).1 _ _ h1).trans (List.suffix_cons _ _)
    · split
      · cases q with
        | nil => exact ⟨fun _ _ h => (by cases h), fun _ h => (by cases h; exact .inl rfl)⟩
        | cons y q' =>
          simp only
          split
          · cases e : ar 0 q' with
            | none => exact ⟨fun _ _ h => (by cases h), fun _ h => (by cases h; exact .inl rfl)⟩
            | some x => exact ⟨fun _ _ h => (by cases h; exact ((ar_suffix e).trans (List.suffix_cons _ _)).trans (List.suffix_cons _ _)), fun _ h => (by cases h)⟩
          · exact ⟨fun _ _ h => (by cases h), fun _ h => (by cases h; exact .inl rfl)⟩
      · split
        · exact ⟨fun _ _ h => (by cases h), fun _ h => (by cases h; exact .inl rfl)⟩
        · exact ⟨fun _ _ h => (by cases h; exact List.suffix_refl _), fun _ h => (by cases h)⟩
theorem oneF_fine {dq br : L → R} (h1 : Fine dq) (h2 : Fine br) (deep : Bool) : Fine (oneF dq br deep) := by
  intro l
  unfold oneF
  cases l with
  | nil => exact ⟨fun _ _ h => (by cases h), fun _ h => (by cases h; exact .inl rfl)⟩
  | cons c l =>
    simp only
    split
    · cases l with
      | nil => exact ⟨fun _ _ h => (by cases h), fun _ h => (by cases h; exact .inl rfl)⟩
      | cons b q => exact ⟨fun _ _ h => (by cases h; exact (List.suffix_cons _ _).trans (List.suffix_cons _ _)), fun _ h => (by cases h)⟩
    · split
      · cases e : sq l with
        | none => exact ⟨fun _ _ h => (by cases h), fun _ h => (by cases h; exact .inl rfl)⟩
        | some x => exact ⟨fun _ _ h => (by cases h; exact (sq_suffix e).trans (List.suffix_cons _ _)), fun _ h => (by cases h)⟩
      · split
        · refine ⟨fun t r h => ?_, fun e h => (h1 l).2 e (pre_error_inv h)⟩
          obtain ⟨v, h3, _⟩ := pre_inv h
          exact ((h1 l).1 _ _ h3).trans (List.suffix_cons _ _)
        · split
          · exact ⟨fun t r h => ((dolF_fine h2 deep l).1 t r h).trans (List.suffix_cons _ _), (dolF_fine h2 deep l).2⟩
          · split
            · exact ⟨fun _ _ h => (by cases h), fun _ h => (by cases h; exact .inl rfl)⟩
            · exact ⟨fun _ _ h => (by cases h; exact List.suffix_cons _ _), fun _ h => (by cases h)⟩
theorem partF_fine (n d : Nat) : Fine (partF n d) := by
  induction n generalizing d with
  | zero => exact fun l => ⟨fun _ _ h => (by cases h), fun _ h => (by cases h; exact .inl rfl)⟩
  | succ n ih => exact oneF_fine (upF_fine (ih d) _ _ _) (upF_fine (ih (d + 1)) _ _ _) _
theorem part_fine (d : Nat) : Fine (part d) := fun l => partF_fine (l.length + 1) d l
theorem up_fine (d : Nat) (z : UInt8) (q : Bool) : Fine (up d z q) := fun l => upF_fine (part_fine d) z q (l.length + 1) l
theorem wordF_fine (n : Nat) : Fine (wordF n) := by
  induction n with
  | zero => exact fun l => ⟨fun _ _ h => (by cases h), fun _ h => (by cases h; exact .inl rfl)⟩
  | succ n ih =>
    intro l
    rw [wordF]
    split
    · exact ⟨fun _ _ h => (by cases h; exact List.suffix_refl _), fun _ h => (by cases h)⟩
    · cases e : part 0 l with
      | error e' => exact ⟨fun _ _ h => (by cases h), fun _ h => (by cases h; exact (part_fine 0 l).2 _ e)⟩
      | ok x =>
        obtain ⟨t1, r1⟩ := x
        refine ⟨fun t r h => ?_, fun e h => (ih r1).2 e (pre_error_inv h)⟩
        obtain ⟨v, h1, _⟩ := pre_inv h
        exact ((ih r1).1 _ _ h1).trans ((part_fine 0 l).1 _ _ e)
theorem word_fine : Fine word := fun l => wordF_fine (l.length + 1) l
theorem nl_append (a b : L) : nl (a ++ b) = nl a + nl b := by
  induction a with
  | nil => simp [nl]
  | cons c a ih => simp only [List.cons_append, nl, ih]; omega
theorem nl_suffix {l r : L} (h : r <:+ l) : nl r ≤ nl l := by
  obtain ⟨t, rfl⟩ := h
  rw [nl_append]; omega
theorem cut_suffix (l : L) : (cut l).2 <:+ l := by
  induction l with
  | nil => exact List.suffix_refl _
  | cons c r ih =>
    unfold cut
    split
    · exact List.suffix_cons _ _
    · exact ih.trans (List.suffix_cons _ _)
theorem docF_suffix (last : L) (n : Nat) {l b r : L} (h : docF last n l = some (b, r)) : r <:+ l := by
  induction n generalizing l b r with
  | zero => cases h
  | succ n ih =>
    unfold docF at h
    split at h
    · cases h
    · split at h
      · cases h; exact cut_suffix l
      · cases e : docF last n (cut l).2 with
        | none => rw [e] at h; cases h
        | some p => rw [e] at h; cases h; exact (ih e).trans (cut_suffix l)
theorem bodies_suffix (ks : List Nat) {out o : List Tok} {l r : L} (h : bodies ks out l = some (o, r)) : r <:+ l := by
  induction ks generalizing out l with
  | nil => cases h; exact List.suffix_refl _
  | cons k ks ih =>
    unfold bodies at h
    cases e : doc (bare ((out[k]?.map Tok.text).getD [])) l with
    | none => rw [e] at h; cases h
    | some x => rw [e] at h; exact (ih h).trans (docF_suffix _ _ e)
theorem skip_suffix (l : L) : skip l <:+ l := by
  induction l with
  | nil => exact List.suffix_refl _
  | cons c r ih =>
    unfold skip
    split
    · exact List.suffix_refl _
    · exact ih.trans (List.suffix_cons _ _)
theorem sign_tail {c : UInt8} {l t r : L} (h : sign (c :: l) = some (t, r)) : r = l ∨ r = l.tail := by
  simp only [sign] at h
  repeat' (split at h)
  all_goals first | exact .inl (some_snd h).symm | exact .inr (some_snd h).symm | (cases h; done)
theorem sign_suffix {c : UInt8} {l t r : L} (h : sign (c :: l) = some (t, r)) : r <:+ c :: l := by
  rcases sign_tail h with rfl | rfl
  · exact List.suffix_cons _ _
  · exact (tail_suffix l).trans (List.suffix_cons _ _)
/-- What holds of the tokens up to a place. -/
structure Told (N : Nat) (l : L) (out : List Tok) (here : List Nat) : Prop where
  nl : nl l ≤ N
  fall : out.Pairwise fun a b => b.left ≤ a.left
  low : ∀ t ∈ out, Lx.nl l ≤ t.left
  high : ∀ t ∈ out, t.left ≤ N
  kind : ∀ t ∈ out, t.kind ≠ 4 ∧ (t.kind ≠ 1 → t.body = [])
  here : ∀ k ∈ here, ∃ t, out[k]? = some t ∧ t.kind = 1
  few : (out.filter fun t => t.kind == 3).length + Lx.nl l ≤ N
theorem Told.rest {N : Nat} {l l' : L} {out : List Tok} {here : List Nat} (h : Told N l out here) (hl : l' <:+ l) : Told N l' out here := by
  have h1 := nl_suffix hl
  exact ⟨Nat.le_trans h1 h.nl, h.fall, fun t ht => Nat.le_trans h1 (h.low t ht), h.high, h.kind, h.here, by have := h.few; omega⟩
theorem Told.snoc {N : Nat} {l l' : L} {out : List Tok} {here : List Nat} (h : Told N l out here) (hl : l' <:+ l) (t : Tok) (ht : t.left = Lx.nl l) (hk : t.kind ≠ 4) (hb : t.body = []) (h3 : t.kind = 3 → Lx.nl l' + 1 ≤ Lx.nl l) : Told N l' (out ++ [t]) here := by
  have h1 := nl_suffix hl
  have h2 := h.nl
  refine ⟨Nat.le_trans h1 h.nl, ?_, ?_, ?_, ?_, ?_, ?_⟩
  · rw [List.pairwise_append]
    refine ⟨h.fall, List.pairwise_singleton _ _, fun a ha b hb => ?_⟩
    simp only [List.mem_singleton] at hb
    subst hb
    rw [ht]; exact h.low a ha
  · intro a ha
    rcases List.mem_append.1 ha with ha | ha
    · exact Nat.le_trans h1 (h.low a ha)
    · simp only [List.mem_singleton] at ha; subst ha; rw [ht]; exact h1
  · intro a ha
    rcases List.mem_append.1 ha with ha | ha
    · exact h.high a ha
    · simp only [List.mem_singleton] at ha; subst ha; rw [ht]; exact h.nl
  · intro a ha
    rcases List.mem_append.1 ha with ha | ha
    · exact h.kind a ha
    · simp only [List.mem_singleton] at ha; subst ha; exact ⟨hk, fun _ => hb⟩
  · intro k hk
    obtain ⟨a, ha, hk1⟩ := h.here k hk
    refine ⟨a, ?_, hk1⟩
    have hlt := (List.getElem?_eq_some_iff.1 ha).1
    rw [List.getElem?_append_left hlt]; exact ha
  · have h4 := h.few
    rw [List.filter_append, List.length_append]
    by_cases hk3 : t.kind = 3
    · have h5 := h3 hk3
      have h6 : ([t].filter fun t => t.kind == 3).length = 1 := by simp [hk3]
      omega
    · have h6 : ([t].filter fun t => t.kind == 3).length = 0 := by simp [hk3]
      omega
theorem filter_modify (f : Tok → Tok) (hf : ∀ t, (f t).kind = t.kind) (k : Nat) (out : List Tok) : ((out.modify k f).filter fun t => t.kind == 3).length = (out.filter fun t => t.kind == 3).length := by
  induction out generalizing k with
  | nil => cases k <;> rfl
  | cons t out ih =>
    cases k with
    | zero => simp only [List.modify_zero_cons, List.filter_cons, hf]; split <;> simp
    | succ k => simp only [List.modify_succ_cons, List.filter_cons]; split <;> simp [ih]
theorem lay_map {α : Type} (g : Tok → α) (k : Nat) (b : L) (out : List Tok) (hg : ∀ t : Tok, g { t with body := b } = g t) : (lay k b out).map g = out.map g := by
  unfold lay
  induction out generalizing k with
  | nil => cases k <;> rfl
  | cons t out ih =>
    cases k with
    | zero => simp only [List.modify_zero_cons, List.map_cons, hg]
    | succ k => simp only [List.modify_succ_cons, List.map_cons, ih]
theorem lay_at (k : Nat) (b : L) (out : List Tok) (i : Nat) : (lay k b out)[i]? = (out[i]?).map fun t => if k = i then { t with body := b } else t := by
  unfold lay
  rw [List.getElem?_modify]
  rfl
theorem Told.lay {N : Nat} {l : L} {out : List Tok} {here : List Nat} (h : Told N l out here) (k : Nat) (b : L) (hk : ∃ t, out[k]? = some t ∧ t.kind = 1) : Told N l (lay k b out) here := by
  have hmem : ∀ t ∈ Lx.lay k b out, ∃ u ∈ out, t.left = u.left ∧ t.kind = u.kind ∧ (t.body = u.body ∨ u.kind = 1) := by
    intro t ht
    obtain ⟨i, hi⟩ := List.getElem?_of_mem ht
    rw [lay_at] at hi
    cases e : out[i]? with
    | none => rw [e] at hi; cases hi
    | some u =>
      rw [e] at hi
      simp only [Option.map_some, Option.some.injEq] at hi
      refine ⟨u, List.mem_of_getElem? e, ?_⟩
      split at hi
      · rename_i hki
        subst hki
        obtain ⟨u', h1, h2⟩ := hk
        rw [e] at h1; cases h1
        subst hi
        exact ⟨rfl, rfl, .inr h2⟩
      · subst hi; exact ⟨rfl, rfl, .inl rfl⟩
  refine ⟨h.nl, ?_, ?_, ?_, ?_, ?_, ?_⟩
  · have h1 := h.fall
    rw [← List.pairwise_map (f := Tok.left) (R := fun a b => b ≤ a)] at h1 ⊢
    rw [lay_map Tok.left k b out (fun _ => rfl)]
    exact h1
  · intro t ht
    obtain ⟨u, hu, h1, _⟩ := hmem t ht
    rw [h1]; exact h.low u hu
  · intro t ht
    obtain ⟨u, hu, h1, _⟩ := hmem t ht
    rw [h1]; exact h.high u hu
  · intro t ht
    obtain ⟨u, hu, _, h2, h3⟩ := hmem t ht
    refine ⟨by rw [h2]; exact (h.kind u hu).1, fun hn => ?_⟩
    rw [h2] at hn
    rcases h3 with h3 | h3
    · rw [h3]; exact (h.kind u hu).2 hn
    · exact absurd h3 hn
  · intro j hj
    obtain ⟨a, ha, h1⟩ := h.here j hj
    rw [lay_at, ha]
    exact ⟨_, rfl, by split <;> exact h1⟩
  · unfold Lx.lay
    rw [filter_modify (fun t => { t with body := b }) (fun _ => rfl)]
    exact h.few
theorem Told.bodies {N : Nat} {l l' : L} {out out' : List Tok} {here : List Nat} (ks : List Nat) (h : Told N l out here) (hk : ∀ k ∈ ks, k ∈ here) (e : bodies ks out l = some (out', l')) : Told N l' out' here := by
  induction ks generalizing out l with
  | nil => cases e; exact h
  | cons k ks ih =>
    unfold Lx.bodies at e
    cases e1 : doc (bare ((out[k]?.map Tok.text).getD [])) l with
    | none => rw [e1] at e; cases e
    | some x =>
      rw [e1] at e
      have h1 := h.rest (docF_suffix _ _ e1)
      exact ih (h1.lay k x.1 (h.here k (hk k (by simp)))) (fun k hk' => hk k (by simp [hk'])) e
theorem Told.drop {N : Nat} {l : L} {out : List Tok} {here : List Nat} (h : Told N l out here) : Told N l out [] := ⟨h.nl, h.fall, h.low, h.high, h.kind, nofun, h.few⟩
theorem Told.step {N : Nat} {l l' : L} {out out' : List Tok} {here here' : List Nat} (h : Told N l out here) (e : step l out here = .more l' out' here') : Told N l' out' here' := by
  unfold Lx.step at e
  cases l with
  | nil => simp only at e; split at e <;> cases e
  | cons c r =>
    simp only at e
    split at e
    · cases e; exact h.rest (List.suffix_cons _ _)
    · split at e
      · cases e; exact h.rest ((tail_suffix r).trans (List.suffix_cons _ _))
      · split at e
        · cases e; exact h.rest ((skip_suffix r).trans (List.suffix_cons _ _))
        · split at e
          · rename_i hc
            subst hc
            have h1 := h.snoc (List.suffix_cons _ _) ⟨3, [], [], Lx.nl (10 :: r)⟩ rfl (by simp) rfl (fun _ => by simp only [Lx.nl, if_true]; omega)
            cases e1 : Lx.bodies here (out ++ [⟨3, [], [], Lx.nl (10 :: r)⟩]) r with
            | none => rw [e1] at e; cases e
            | some x => rw [e1] at e; cases e; exact (h1.bodies here (fun _ hk => hk) e1).drop
          · cases e1 : sign (c :: r) with
            | some x => rw [e1] at e; cases e; exact h.snoc (sign_suffix e1) _ rfl (by simp) rfl nofun
            | none =>
              rw [e1] at e
              simp only at e
              split at e
              · cases e
              · cases e2 : word (c :: r) with
                | error x => rw [e2] at e; cases e
                | ok x =>
                  obtain ⟨t, r'⟩ := x
                  rw [e2] at e
                  simp only at e
                  have hsuf := (word_fine (c :: r)).1 _ _ e2
                  split at e
                  · cases e; exact h.snoc hsuf _ rfl (by simp) rfl nofun
                  · cases e
                    have h1 := h.snoc hsuf ⟨1, t, [], Lx.nl (c :: r)⟩ rfl (by simp) rfl nofun
                    split
                    · refine ⟨h1.nl, h1.fall, h1.low, h1.high, h1.kind, ?_, h1.few⟩
                      intro k hk
                      rcases List.mem_append.1 hk with hk | hk
                      · exact h1.here k hk
                      · simp only [List.mem_singleton] at hk; subst hk
                        exact ⟨_, by rw [List.getElem?_append_right (by omega)]; simp; rfl, rfl⟩
                    · exact h1
theorem Told.fail {N : Nat} {l : L} {out : List Tok} {here : List Nat} {e k : Nat} (h : Told N l out here) (hs : Lx.step l out here = .fail e k) : (e = 20 ∨ e = 21) ∧ k ≤ N := by
  have hN := h.nl
  unfold Lx.step at hs
  cases l with
  | nil =>
    simp only at hs
    split at hs
    · cases hs
    · cases hs
      refine ⟨.inl rfl, ?_⟩
      cases e1 : out.getLast? with
      | none => simp
      | some t => exact h.high t (List.mem_of_getLast? e1)
  | cons c r =>
    simp only at hs
    split at hs
    · cases hs
    · split at hs
      · cases hs
      · split at hs
        · cases hs
        · split at hs
          · cases e1 : Lx.bodies here (out ++ [⟨3, [], [], Lx.nl (c :: r)⟩]) r with
            | none => rw [e1] at hs; cases hs; exact ⟨.inl rfl, hN⟩
            | some x => rw [e1] at hs; cases hs
          · cases e1 : sign (c :: r) with
            | some x => rw [e1] at hs; cases hs
            | none =>
              rw [e1] at hs
              simp only at hs
              split at hs
              · cases hs; exact ⟨.inl rfl, hN⟩
              · cases e2 : word (c :: r) with
                | error x => rw [e2] at hs; cases hs; exact ⟨(word_fine (c :: r)).2 _ e2, hN⟩
                | ok x => rw [e2] at hs; simp only at hs; split at hs <;> cases hs
/-- A script's tokens: their lines never fall, the last one is the End, of the last line, no other is one; only a Word has a body; fewer Lines than lines. Its error is one of two, and its line is one of the script's. -/
theorem all_lines (s : L) : (∀ e k, all s = .error (e, k) → (e = 20 ∨ e = 21) ∧ k ≤ nl s) ∧ (∀ o, all s = .ok o → ∃ out, o = out ++ [⟨4, [], [], 0⟩] ∧ ∃ l, Told (nl s) l out []) := by
  have h0 : Told (nl s) s [] [] := ⟨Nat.le_refl _, List.Pairwise.nil, nofun, nofun, nofun, nofun, by simp⟩
  obtain ⟨h1, h2⟩ := run_ind (Told (nl s)) (fun l out here l' out' here' h e => h.step e) s [] [] h0
  refine ⟨fun e k h => ?_, fun o h => ?_⟩
  · obtain ⟨l', o', hh, h3, h4⟩ := h1 e k h
    exact h3.fail h4
  · obtain ⟨l', o', hh, h3, h4⟩ := h2 o h
    unfold Lx.step at h4
    cases l' with
    | nil =>
      simp only at h4
      split at h4
      · rename_i e; subst e; cases h4; exact ⟨o', rfl, [], h3⟩
      · cases h4
    | cons c r =>
      exfalso
      simp only at h4
      split at h4
      · cases h4
      · split at h4
        · cases h4
        · split at h4
          · cases h4
          · split at h4
            · cases e1 : Lx.bodies hh (o' ++ [⟨3, [], [], Lx.nl (c :: r)⟩]) r with
              | none => rw [e1] at h4; cases h4
              | some x => rw [e1] at h4; cases h4
            · cases e1 : sign (c :: r) with
              | some x => rw [e1] at h4; cases h4
              | none =>
                rw [e1] at h4
                simp only at h4
                split at h4
                · cases h4
                · cases e2 : word (c :: r) with
                  | error x => rw [e2] at h4; cases h4
                  | ok x => rw [e2] at h4; simp only at h4; split at h4 <;> cases h4
end Lx
end Go.Proofs.YtipojbknkfkgoaaGreatDoor
/- The lexer as plain mathematics: tokens put behind each other with blanks between are those tokens. No premises. -/
namespace Go.Proofs.YtipojbknkfkgoaaGreatDoor
namespace Lx
/-- The texts of signs. -/
def signs : List L := [[38, 38], [124, 124], [59, 59], [60, 60], [62, 62], [59], [124], [40], [41], [60], [62]]
theorem sign_in {l t r : L} (h : sign l = some (t, r)) : t ∈ signs := by
  cases l with
  | nil => cases h
  | cons c l =>
    simp only [sign] at h
    by_cases h40 : c = 40
    · subst h40; cases h; decide
    by_cases h41 : c = 41
    · subst h41; cases h; decide
    simp only [h40, h41, or_self, if_false] at h
    have e : ∀ (x : L × L), some x = some (t, r) → x.1 = t := fun x hx => by cases hx; rfl
    repeat' (split at h)
    all_goals first | (cases h; done) | (rw [← e _ h]; simp [signs])
theorem sign_again {t : L} (h : t ∈ signs) (r : L) : sign (t ++ 9 :: r) = some (t, 9 :: r) := by
  simp only [signs, List.mem_cons, List.not_mem_nil, or_false] at h
  rcases h with rfl | rfl | rfl | rfl | rfl | rfl | rfl | rfl | rfl | rfl | rfl <;> rfl
theorem sign_begin {t : L} (h : t ∈ signs) : ∃ c x, t = c :: x ∧ ¬ (c = 32 ∨ c = 9) ∧ c ≠ 92 ∧ c ≠ 35 ∧ c ≠ 10 := by
  simp only [signs, List.mem_cons, List.not_mem_nil, or_false] at h
  rcases h with rfl | rfl | rfl | rfl | rfl | rfl | rfl | rfl | rfl | rfl | rfl <;> exact ⟨_, _, rfl, by decide, by decide, by decide, by decide⟩
/-- A text that is one word. -/
def IsWord (t : L) : Prop := ∃ c x, t = c :: x ∧ stop c = false ∧ c ≠ 35 ∧ (c = 92 → x.head? ≠ some 10 ∧ x ≠ []) ∧ ∀ r, Gap r → word (t ++ r) = .ok (t, r)
/-- A token of a script. -/
def IsTok (t : Tok) : Prop := (t.kind = 1 ∧ IsWord t.text) ∨ (t.kind = 2 ∧ t.text ∈ signs) ∨ (t.kind = 3 ∧ t.text = []) ∨ t.kind = 5
theorem isTok_lay {out : List Tok} (h : ∀ t ∈ out, IsTok t) (k : Nat) (b : L) : ∀ t ∈ lay k b out, IsTok t := by
  intro t ht
  obtain ⟨i, hi⟩ := List.getElem?_of_mem ht
  rw [lay_at] at hi
  cases e : out[i]? with
  | none => rw [e] at hi; cases hi
  | some u =>
    rw [e] at hi
    simp only [Option.map_some, Option.some.injEq] at hi
    have h1 := h u (List.mem_of_getElem? e)
    split at hi
    · subst hi; exact h1
    · subst hi; exact h1
theorem isTok_bodies {ks : List Nat} {out o : List Tok} {l r : L} (h : ∀ t ∈ out, IsTok t) (e : bodies ks out l = some (o, r)) : ∀ t ∈ o, IsTok t := by
  induction ks generalizing out l with
  | nil => cases e; exact h
  | cons k ks ih =>
    unfold bodies at e
    cases e1 : doc (bare ((out[k]?.map Tok.text).getD [])) l with
    | none => rw [e1] at e; cases e
    | some x => rw [e1] at e; exact ih (isTok_lay h k x.1) e
theorem isTok_step {l l' : L} {out out' : List Tok} {here here' : List Nat} (h : ∀ t ∈ out, IsTok t) (e : step l out here = .more l' out' here') : ∀ t ∈ out', IsTok t := by
  have snoc : ∀ u, IsTok u → ∀ t ∈ out ++ [u], IsTok t := fun u hu t ht => by
    rcases List.mem_append.1 ht with ht | ht
    · exact h t ht
    · simp only [List.mem_singleton] at ht; subst ht; exact hu
  unfold step at e
  cases l with
  | nil => simp only at e; split at e <;> cases e
  | cons c r =>
    simp only at e
    split at e
    · cases e; exact h
    · rename_i hbl
      split at e
      · cases e; exact h
      · rename_i hj
        split at e
        · cases e; exact h
        · rename_i h35
          split at e
          · cases e1 : bodies here (out ++ [⟨3, [], [], nl (c :: r)⟩]) r with
            | none => rw [e1] at e; cases e
            | some x => rw [e1] at e; cases e; exact isTok_bodies (snoc _ (.inr (.inr (.inl ⟨rfl, rfl⟩)))) e1
          · rename_i h10
            cases e1 : sign (c :: r) with
            | some x => rw [e1] at e; cases e; exact snoc _ (.inr (.inl ⟨rfl, sign_in e1⟩))
            | none =>
              rw [e1] at e
              simp only at e
              split at e
              · cases e
              · rename_i h38
                cases e2 : word (c :: r) with
                | error x => rw [e2] at e; cases e
                | ok x =>
                  obtain ⟨t, r'⟩ := x
                  rw [e2] at e
                  simp only at e
                  split at e
                  · cases e; exact snoc _ (.inr (.inr (.inr rfl)))
                  · cases e
                    refine snoc _ (.inl ⟨rfl, ?_⟩)
                    have he := sign_none e1 hbl h10 h38
                    obtain ⟨h1, h2, h3⟩ := word_head e2 he (fun h => hj ⟨by simpa using h.1, h.2⟩)
                    obtain ⟨c0, x, rfl⟩ := List.exists_cons_of_ne_nil h1
                    simp only [List.head?_cons, Option.some.injEq] at h2
                    subst h2
                    exact ⟨c0, x, rfl, he, h35, fun hc => h3 (by rw [hc]; rfl), fun r hr => (word_again e2 r hr).1⟩
theorem isTok_all {s : L} {o : List Tok} (h : all s = .ok o) : ∃ out, o = out ++ [⟨4, [], [], 0⟩] ∧ ∀ t ∈ out, IsTok t := by
  obtain ⟨h1, h2⟩ := run_ind (fun _ out _ => ∀ t ∈ out, IsTok t) (fun l out here l' out' here' h e => isTok_step h e) s [] [] nofun
  obtain ⟨l', o', hh, h3, h4⟩ := h2 o h
  obtain ⟨out, e, _⟩ := (all_lines s).2 o h
  subst e
  refine ⟨out, rfl, ?_⟩
  have h5 : o' = out := by
    unfold step at h4
    cases l' with
    | nil =>
      simp only at h4
      split at h4
      · have := Step.done.inj h4; exact List.append_cancel_right this
      · cases h4
    | cons c r =>
      exfalso
      simp only at h4
      split at h4
      · cases h4
      · split at h4
        · cases h4
        · split at h4
          · cases h4
          · split at h4
            · cases e1 : bodies hh (o' ++ [⟨3, [], [], nl (c :: r)⟩]) r with
              | none => rw [e1] at h4; cases h4
              | some x => rw [e1] at h4; cases h4
            · cases e1 : sign (c :: r) with
              | some x => rw [e1] at h4; cases h4
              | none =>
                rw [e1] at h4
                simp only at h4
                split at h4
                · cases h4
                · cases e2 : word (c :: r) with
                  | error x => rw [e2] at h4; cases h4
                  | ok x => rw [e2] at h4; simp only at h4; split at h4 <;> cases h4
  rw [← h5]; exact h3
/-- A token with blanks around; a Line with a remark ahead. -/
def render (t : Tok) : L := if t.kind = 1 ∨ t.kind = 2 then 32 :: (t.text ++ [9]) else if t.kind = 3 then [32, 35, 32, 39, 32, 110, 111, 116, 101, 10] else []
theorem run_render (ts : List Tok) (h : ∀ t ∈ ts, IsTok t ∧ t.kind ≠ 5 ∧ t.text ≠ [60, 60]) (out : List Tok) (ho : hung out = false) :
    ∃ o, run (ts.flatMap render) out [] = .ok (out ++ o) ∧ o.map (fun t : Tok => (t.kind, t.text)) = (ts ++ [(⟨4, [], [], 0⟩ : Tok)]).map fun t : Tok => (t.kind, t.text) := by
  induction ts generalizing out with
  | nil => exact ⟨[⟨4, [], [], 0⟩], run_nil out, rfl⟩
  | cons t ts ih =>
    obtain ⟨h1, h5, h6⟩ := h t (by simp)
    have ht := fun t ht => h t (List.mem_cons_of_mem _ ht)
    obtain ⟨k, x, b, n⟩ := t
    simp only at h5 h6
    rw [List.flatMap_cons]
    rcases h1 with ⟨h1, h2⟩ | ⟨h1, h2⟩ | ⟨h1, h2⟩ | h1
    · simp only at h1 h2
      subst h1
      obtain ⟨c, y, rfl, hs, h35, h92, hw⟩ := h2
      obtain ⟨o, e1, e2⟩ := ih ht (out ++ [⟨1, c :: y, [], nl (c :: (y ++ 9 :: ts.flatMap render))⟩]) (by rw [hung_snoc]; rfl)
      have hw1 := hw (9 :: ts.flatMap render) (.inr (.inr (.inl rfl)))
      rw [List.cons_append] at hw1
      refine ⟨⟨1, c :: y, [], nl (c :: (y ++ 9 :: ts.flatMap render))⟩ :: o, ?_, by simp [e2]⟩
      have e : render ⟨1, c :: y, b, n⟩ ++ ts.flatMap render = 32 :: c :: (y ++ 9 :: ts.flatMap render) := by simp [render]
      rw [e, run_blank _ _ _ _ (.inl rfl), run_word c _ _ _ out [] hs ?_ h35 hw1 (by simp [io]), ho]
      · simp only [Bool.false_eq_true, if_false]
        rw [run_blank _ _ _ _ (.inr rfl), e1]
        simp
      · rintro ⟨hc, hh⟩
        obtain ⟨h7, h8⟩ := h92 hc
        obtain ⟨z, y', rfl⟩ := List.exists_cons_of_ne_nil h8
        exact h7 hh
    · simp only at h1 h2
      subst h1
      obtain ⟨c, y, rfl, hb, h92, h35, h10⟩ := sign_begin h2
      have hsg := sign_again h2 (ts.flatMap render)
      rw [List.cons_append] at hsg
      obtain ⟨o, e1, e2⟩ := ih ht (out ++ [⟨2, c :: y, [], nl (c :: (y ++ 9 :: ts.flatMap render))⟩]) (by rw [hung_snoc]; simp only [beq_self_eq_true, Bool.true_and]; exact beq_eq_false_iff_ne.2 h6)
      refine ⟨⟨2, c :: y, [], nl (c :: (y ++ 9 :: ts.flatMap render))⟩ :: o, ?_, by simp [e2]⟩
      have e : render ⟨2, c :: y, b, n⟩ ++ ts.flatMap render = 32 :: c :: (y ++ 9 :: ts.flatMap render) := by simp [render]
      rw [e, run_blank _ _ _ _ (.inl rfl), run_at, step]
      simp only [if_neg hb, if_neg (show ¬ (c = 92 ∧ (y ++ 9 :: ts.flatMap render).head? = some 10) from fun h => h92 h.1), if_neg h35, if_neg h10, hsg]
      rw [run_blank _ _ _ _ (.inr rfl), e1]
      simp
    · simp only at h1 h2
      subst h1
      subst h2
      obtain ⟨o, e1, e2⟩ := ih ht (out ++ [⟨3, [], [], nl (10 :: ts.flatMap render)⟩]) (by rw [hung_snoc]; rfl)
      refine ⟨⟨3, [], [], nl (10 :: ts.flatMap render)⟩ :: o, ?_, by simp [e2]⟩
      have e : render ⟨3, [], b, n⟩ ++ ts.flatMap render = 32 :: 35 :: 32 :: 39 :: 32 :: 110 :: 111 :: 116 :: 101 :: 10 :: ts.flatMap render := by simp [render]
      have esk : skip (32 :: 39 :: 32 :: 110 :: 111 :: 116 :: 101 :: 10 :: ts.flatMap render) = 10 :: ts.flatMap render := by simp [skip]
      rw [e, run_blank _ _ _ _ (.inl rfl), run_at, step]
      simp only [show ¬ ((35 : UInt8) = 32 ∨ (35 : UInt8) = 9) by decide, show ¬ ((35 : UInt8) = 92) by decide, false_and, if_false, if_true, esk]
      rw [run_at, step]
      simp only [show ¬ ((10 : UInt8) = 32 ∨ (10 : UInt8) = 9) by decide, show ¬ ((10 : UInt8) = 92) by decide, show ¬ ((10 : UInt8) = 35) by decide, false_and, if_false, if_true, bodies]
      rw [e1]
      simp
    · exact absurd h1 h5
/-- Tokens put behind each other with blanks between are those tokens. -/
theorem all_blanks {s : L} {o : List Tok} (h : all s = .ok o) (h5 : ∀ t ∈ o, t.kind ≠ 5 ∧ t.text ≠ [60, 60]) : ∃ m, all (o.flatMap render) = .ok m ∧ m.map (fun t : Tok => (t.kind, t.text)) = o.map fun t : Tok => (t.kind, t.text) := by
  obtain ⟨out, rfl, h1⟩ := isTok_all h
  obtain ⟨m, e1, e2⟩ := run_render out (fun t ht => ⟨h1 t ht, h5 t (List.mem_append_left _ ht)⟩) [] rfl
  refine ⟨m, ?_, e2⟩
  have e : (out ++ [(⟨4, [], [], 0⟩ : Tok)]).flatMap render = out.flatMap render := by simp [render]
  rw [e]
  exact e1
end Lx
end Go.Proofs.YtipojbknkfkgoaaGreatDoor
