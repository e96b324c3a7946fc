/- The lexer as plain mathematics: texts in single quotes; joins. No premises. -/
import Derived.Test.YtnjabmacbgehlaaDoorLxT
namespace Go.Proofs.YtnjabmacbgehlaaDoor
namespace Lx
theorem hung_snoc (out : List Tok) (t : Tok) : hung (out ++ [t]) = (t.kind == 2 && t.text == [60, 60]) := by
  simp [hung]
theorem run_blank (l : L) (out : List Tok) (here : List Nat) (c : UInt8) (hc : c = 32 ∨ c = 9) : run (c :: l) out here = run l out here := by
  rw [run_at, step]
  simp only [if_pos hc]
theorem run_join (l : L) (out : List Tok) (here : List Nat) : run (92 :: 10 :: l) out here = run l out here := by
  rw [run_at, step]
  simp
theorem run_nil (out : List Tok) : run [] out [] = .ok (out ++ [⟨4, [], [], 0⟩]) := by
  rw [run_at, step]
  simp
/-- A word that is no number ahead of a sign, and that no here-document waits for. -/
theorem run_word (c : UInt8) (l t r : L) (out : List Tok) (here : List Nat) (hs : stop c = false) (h92 : ¬ (c = 92 ∧ l.head? = some 10)) (h35 : c ≠ 35) (hw : word (c :: l) = .ok (t, r)) (hio : io t ((c :: l).length - r.length) r = false) :
    run (c :: l) out here = run r (out ++ [⟨1, t, [], nl (c :: l)⟩]) (if hung out = true then here ++ [out.length] else here) := by
  simp only [stop, Bool.or_eq_false_iff, beq_eq_false_iff_ne, ne_eq] at hs
  obtain ⟨⟨⟨⟨⟨⟨⟨⟨⟨a1, a2⟩, a3⟩, a4⟩, a5⟩, a6⟩, a7⟩, a8⟩, a9⟩, a10⟩ := hs
  have hsg : sign (c :: l) = none := by simp [sign, a4, a5, a6, a7, a8, a9, a10]
  rw [run_at, step]
  simp only [if_neg (show ¬ (c = 32 ∨ c = 9) by rintro (h | h); exact a1 h; exact a2 h), if_neg h92, if_neg h35, if_neg a3, hsg, if_neg a5, hw, hio, Bool.false_eq_true, if_false]
/-- Texts in single quotes, a blank behind each. -/
def quotesL (ls : List L) : L := ls.flatMap fun x => 39 :: x ++ [39, 32]
def quotesT : List L → List Tok
  | [] => [⟨4, [], [], 0⟩]
  | x :: ls => ⟨1, 39 :: x ++ [39], [], nl (quotesL (x :: ls))⟩ :: quotesT ls
theorem run_quotes (ls : List L) (h : ∀ x ∈ ls, ∀ c ∈ x, c ≠ 39) (out : List Tok) (ho : hung out = false) : run (quotesL ls) out [] = .ok (out ++ quotesT ls) := by
  induction ls generalizing out with
  | nil => exact run_nil out
  | cons x ls ih =>
    have e : quotesL (x :: ls) = 39 :: (x ++ 39 :: 32 :: quotesL ls) := by simp [quotesL]
    have hw := word_quotes x (h x (by simp)) (32 :: quotesL ls) rfl
    rw [List.cons_append] at hw
    rw [quotesT, e, run_word 39 _ _ _ out [] (by decide) (fun h => absurd h.1 (by decide)) (by decide) hw (by simp [io, digits]), ho]
    simp only [Bool.false_eq_true, if_false]
    rw [run_blank _ _ _ _ (.inl rfl), ih (fun x hx => h x (by simp [hx])) _ (by rw [hung_snoc]; rfl)]
    simp
theorem all_quotes (ls : List L) (h : ∀ x ∈ ls, ∀ c ∈ x, c ≠ 39) : all (quotesL ls) = .ok (quotesT ls) := run_quotes ls h [] rfl
theorem quotesT_len (ls : List L) : (quotesT ls).length = ls.length + 1 := by
  induction ls with
  | nil => rfl
  | cons x ls ih => simp [quotesT, ih]
theorem quotesT_at (ls : List L) (i : Nat) (x : L) (h : ls[i]? = some x) : ∃ n, (quotesT ls)[i]? = some ⟨1, 39 :: x ++ [39], [], n⟩ := by
  induction ls generalizing i with
  | nil => cases h
  | cons y ls ih =>
    cases i with
    | zero => simp only [List.getElem?_cons_zero, Option.some.injEq] at h; subst h; exact ⟨_, rfl⟩
    | succ i => exact ih i h
theorem quotesT_last (ls : List L) : (quotesT ls)[ls.length]? = some ⟨4, [], [], 0⟩ := by
  induction ls with
  | nil => rfl
  | cons x ls ih => exact ih
/-- A byte that begins a plain word. -/
def good (c : UInt8) : Bool := plain c && c != 35
theorem plain_parts {c : UInt8} (h : plain c = true) : stop c = false ∧ c ≠ 92 ∧ c ≠ 10 := by
  simp only [plain, stop, Bool.and_eq_true, Bool.not_eq_true', Bool.or_eq_false_iff, beq_eq_false_iff_ne, ne_eq] at h ⊢
  exact ⟨h.1, h.2.1.1.1.1, h.1.1.1.1.1.1.1.1.2⟩
theorem nl_plain (x : L) (h : ∀ c ∈ x, plain c = true) (l : L) : nl (x ++ l) = nl l := by
  induction x with
  | nil => rfl
  | cons c x ih =>
    have h1 := (plain_parts (h c (by simp))).2.2
    simp only [List.cons_append, nl, if_neg h1, ih (fun c hc => h c (by simp [hc])), Nat.zero_add]
theorem word_end : word [] = .ok ([], []) := by rw [word_at]; rfl
theorem word_gap (l : L) (h : ends l = true) : word l = .ok ([], l) := by rw [word_at, h, if_pos rfl]
/-- A plain word, behind which no sign stands. -/
theorem run_plain (a t l r : L) (ha : a ≠ []) (h : ∀ c ∈ a, good c = true) (hw : word (a ++ l) = .ok (t, r)) (hr : r.head? ≠ some 60 ∧ r.head? ≠ some 62) (out : List Tok) (ho : hung out = false) : run (a ++ l) out [] = run r (out ++ [⟨1, t, [], nl l⟩]) [] := by
  obtain ⟨c, x, rfl⟩ := List.exists_cons_of_ne_nil ha
  have hp : ∀ b ∈ c :: x, plain b = true := fun b hb => by have := h b hb; simp only [good, Bool.and_eq_true] at this; exact this.1
  have hc := h c (by simp)
  simp only [good, Bool.and_eq_true, bne_iff_ne, ne_eq] at hc
  have hpp := plain_parts hc.1
  have e := run_word c (x ++ l) t r out [] hpp.1 (fun h => hpp.2.1 h.1) hc.2 hw (by simp [io, hr.1, hr.2])
  rw [show nl (c :: (x ++ l)) = nl l from nl_plain (c :: x) hp l, ho] at e
  simpa using e
/-- A join within a word. -/
theorem all_join (a b : L) (ha : a ≠ []) (h : ∀ c ∈ a ++ b, good c = true) : all (a ++ 92 :: 10 :: b) = .ok [⟨1, a ++ b, [], 1⟩, ⟨4, [], [], 0⟩] := by
  have hp : ∀ c ∈ a ++ b, plain c = true := fun c hc => by have := h c hc; simp only [good, Bool.and_eq_true] at this; exact this.1
  have hw : word (a ++ 92 :: 10 :: b) = .ok (a ++ b, []) := by
    rw [word_plain a (fun c hc => hp c (by simp [hc])), word_join]
    have := word_plain b (fun c hc => hp c (by simp [hc])) []
    rw [List.append_nil, word_end] at this
    rw [this]; simp
  have hn : nl (92 :: 10 :: b) = 1 := by
    have := nl_plain b (fun c hc => hp c (by simp [hc])) []
    rw [List.append_nil] at this
    simp [nl, this]
  unfold all
  rw [run_plain a _ _ _ ha (fun c hc => h c (by simp [hc])) hw ⟨nofun, nofun⟩ [] rfl, run_nil, hn]
  rfl
/-- A join between two words. -/
theorem all_apart (a b : L) (ha : a ≠ []) (hb : b ≠ []) (h : ∀ c ∈ a ++ b, good c = true) : all (a ++ 32 :: 92 :: 10 :: 32 :: b) = .ok [⟨1, a, [], 1⟩, ⟨1, b, [], 0⟩, ⟨4, [], [], 0⟩] := by
  have hp : ∀ c ∈ a ++ b, plain c = true := fun c hc => by have := h c hc; simp only [good, Bool.and_eq_true] at this; exact this.1
  have hw : word (a ++ 32 :: 92 :: 10 :: 32 :: b) = .ok (a, 32 :: 92 :: 10 :: 32 :: b) := by
    rw [word_plain a (fun c hc => hp c (by simp [hc])), word_gap _ rfl]; simp
  have hw2 : word (b ++ []) = .ok (b, []) := by
    rw [word_plain b (fun c hc => hp c (by simp [hc])), word_end]; simp
  have hn0 : nl b = 0 := by
    have := nl_plain b (fun c hc => hp c (by simp [hc])) []
    rw [List.append_nil] at this
    exact this
  have hn : nl (32 :: 92 :: 10 :: 32 :: b) = 1 := by simp [nl, hn0]
  have h2 := run_plain b _ [] _ hb (fun c hc => h c (by simp [hc])) hw2 ⟨nofun, nofun⟩ [⟨1, a, [], 1⟩] rfl
  rw [List.append_nil] at h2
  unfold all
  rw [run_plain a _ _ _ ha (fun c hc => h c (by simp [hc])) hw ⟨by simp, by simp⟩ [] rfl, hn, run_blank _ _ _ _ (.inl rfl), run_join, run_blank _ _ _ _ (.inl rfl)]
  rw [show ([] : List Tok) ++ [⟨1, a, [], 1⟩] = [⟨1, a, [], 1⟩] from rfl, h2, run_nil]
  rfl
end Lx
end Go.Proofs.YtnjabmacbgehlaaDoor
