/- A script with another one behind it: its tokens, and the other one's behind them. No premises. -/
import Derived.Test.YtipojbknkfkgoaaGreatDoorSTwoL
import Derived.Test.YtipojbknkfkgoaaGreatDoorNz
import Derived.Test.YtipojbknkfkgoaaGreatDoorNk
namespace Go.Proofs.YtipojbknkfkgoaaGreatDoor
namespace Lx
/-- A token but for where it stands. -/
def co (t : Tok) : Nat × L × L := (t.kind, t.text, t.body)
theorem co_at {o o' : List Tok} (h : o'.map co = o.map co) (k : Nat) : o'[k]?.map co = o[k]?.map co := by
  have := congrArg (fun l => l[k]?) h
  simpa [List.getElem?_map] using this
theorem co_text {o o' : List Tok} (h : o'.map co = o.map co) (k : Nat) : o'[k]?.map Tok.text = o[k]?.map Tok.text := by
  have := congrArg (fun x => x.map fun y : Nat × L × L => y.2.1) (co_at h k)
  simpa [Option.map_map, Function.comp_def, co] using this
theorem co_len {o o' : List Tok} (h : o'.map co = o.map co) : o'.length = o.length := by
  have := congrArg List.length h
  simpa using this
theorem co_lay {o o' : List Tok} (h : o'.map co = o.map co) (k : Nat) (b : L) : (lay k b o').map co = (lay k b o).map co := by
  apply List.ext_getElem?
  intro i
  rw [List.getElem?_map, List.getElem?_map, lay_at, lay_at]
  have := co_at h i
  cases e : o[i]? with
  | none => rw [e] at this; simp at this; simp [this]
  | some t =>
    rw [e] at this
    cases e' : o'[i]? with
    | none => rw [e'] at this; cases this
    | some u =>
      rw [e'] at this
      simp only [Option.map_some, Option.some.injEq, co, Prod.mk.injEq] at this ⊢
      obtain ⟨h1, h2, h3⟩ := this
      by_cases hk : k = i
      · simp [hk, h1, h2]
      · simp [hk, h1, h2, h3]
theorem co_hung {o o' : List Tok} (h : o'.map co = o.map co) : hung o' = hung o := by
  unfold hung
  have h1 : o'.getLast?.map co = o.getLast?.map co := by
    rw [← List.getLast?_map, ← List.getLast?_map, h]
  cases e : o.getLast? with
  | none => rw [e] at h1; simp at h1; simp [h1]
  | some t =>
    rw [e] at h1
    cases e' : o'.getLast? with
    | none => rw [e'] at h1; cases h1
    | some u =>
      rw [e'] at h1
      simp only [Option.map_some, Option.some.injEq, co, Prod.mk.injEq] at h1
      simp only [h1.1, h1.2.1]
theorem co_snoc {o o' : List Tok} (h : o'.map co = o.map co) {t u : Tok} (ht : co u = co t) : (o' ++ [u]).map co = (o ++ [t]).map co := by
  rw [List.map_append, List.map_append, h]
  simp [ht]
theorem cut_more {l : L} (h : (10 : UInt8) ∈ l) (b : L) : cut (l ++ b) = ((cut l).1, (cut l).2 ++ b) := by
  induction l with
  | nil => cases h
  | cons c r ih =>
    rw [List.cons_append, cut, cut]
    by_cases e : c = 10
    · rw [if_pos e, if_pos e]
    · rw [if_neg e, if_neg e]
      have hr : (10 : UInt8) ∈ r := by
        rcases List.mem_cons.1 h with h | h
        · exact absurd h.symm e
        · exact h
      rw [ih hr]
theorem doc_nil (last : L) : doc last [] = none := by rw [doc_at]; simp
theorem doc_more (last : L) (n : Nat) : ∀ (l bd r : L), l.length < n → En l → doc last l = some (bd, r) → (r = [] ∨ En r) ∧ ∀ b, doc last (l ++ b) = some (bd, r ++ b) := by
  induction n with
  | zero => exact fun l _ _ h => absurd h (by omega)
  | succ n ih =>
    intro l bd r hn hl h
    have hne := hl.ne
    have hlb : ∀ b, l ++ b ≠ [] := fun b => by simp [hne]
    have hlen := cut_len l hne
    have hcut : (cut l).2 = [] ∨ En (cut l).2 := by
      by_cases e : (cut l).2 = []
      · exact .inl e
      · exact .inr (hl.suf (cut_suffix l) e)
    rw [doc_at, if_neg hne] at h
    by_cases e : (cut l).1 = last
    · rw [if_pos e] at h
      cases h
      refine ⟨hcut, fun b => ?_⟩
      rw [doc_at, if_neg (hlb b), cut_more hl.mem]
      simp only [if_pos e]
    · rw [if_neg e] at h
      cases e2 : doc last (cut l).2 with
      | none => rw [e2] at h; cases h
      | some x =>
        obtain ⟨bd1, r1⟩ := x
        rw [e2] at h
        cases h
        rcases hcut with h0 | h0
        · rw [h0, doc_nil] at e2; cases e2
        · obtain ⟨h1, h2⟩ := ih _ _ _ (by omega) h0 e2
          refine ⟨h1, fun b => ?_⟩
          rw [doc_at, if_neg (hlb b), cut_more hl.mem]
          simp only [if_neg e, h2 b]
          rfl
theorem bodies_more (b : L) : ∀ (ks : List Nat) (out out' : List Tok) (l r : L) (o : List Tok), (l = [] ∨ En l) → out'.map co = out.map co → bodies ks out l = some (o, r) → (r = [] ∨ En r) ∧ ∃ o', o'.map co = o.map co ∧ bodies ks out' (l ++ b) = some (o', r ++ b)
  | [], out, out', l, r, o, hl, hc, h => by cases h; exact ⟨hl, out', hc, rfl⟩
  | k :: ks, out, out', l, r, o, hl, hc, h => by
    unfold bodies at h
    cases e : doc (bare ((out[k]?.map Tok.text).getD [])) l with
    | none => rw [e] at h; cases h
    | some x =>
      obtain ⟨bd, r1⟩ := x
      rw [e] at h
      have hEl : En l := by
        rcases hl with rfl | hl
        · rw [doc_nil] at e; cases e
        · exact hl
      obtain ⟨h1, h2⟩ := doc_more _ (l.length + 1) _ _ _ (by omega) hEl e
      obtain ⟨h3, o', h4, h5⟩ := bodies_more b ks (lay k bd out) (lay k bd out') r1 r o h1 (co_lay hc k bd) h
      refine ⟨h3, o', h4, ?_⟩
      unfold bodies
      rw [co_text hc, h2 b]
      exact h5
theorem skip_end {r : L} (h : (10 : UInt8) ∈ r) (b : L) : skip (r ++ b) = skip r ++ b ∧ skip r ≠ [] := by
  induction r with
  | nil => cases h
  | cons c r ih =>
    rw [List.cons_append, skip, skip]
    by_cases e : c = 10
    · rw [if_pos e, if_pos e]; exact ⟨rfl, by simp⟩
    · rw [if_neg e, if_neg e]
      refine ih ?_
      rcases List.mem_cons.1 h with h | h
      · exact absurd h.symm e
      · exact h
/-- The last token is a Line. -/
def Lined (q : List Tok) : Prop := ∃ p t, q = p ++ [t] ∧ t.kind = 3 ∧ t.text = []
theorem lined_bodies {ks : List Nat} {out o : List Tok} {t : Tok} {l r : L} (h : bodies ks (out ++ [t]) l = some (o, r)) (hk : t.kind = 3) (ht : t.text = []) : Lined o := by
  obtain ⟨h1, h2⟩ := bodies_kt h
  have h3 := h2 out.length
  rw [List.getElem?_append_right (Nat.le_refl _), Nat.sub_self] at h3
  simp only [List.length_append, List.length_cons, List.length_nil] at h1
  obtain ⟨u, hu⟩ : ∃ u, o[out.length]? = some u := ⟨_, List.getElem?_eq_getElem (by omega)⟩
  rw [hu] at h3
  simp only [List.getElem?_cons_zero, Option.map_some, Option.some.injEq] at h3
  have hkt : u.kind = 3 ∧ u.text = [] := by
    have := h3
    simp only [kt, Prod.mk.injEq] at this
    exact ⟨by rw [this.1, hk], by rw [this.2, ht]⟩
  refine ⟨o.take out.length, u, ?_, hkt⟩
  obtain ⟨hlt, hu'⟩ := List.getElem?_eq_some_iff.1 hu
  rw [← hu', ← List.take_succ_eq_append_getElem hlt, List.take_of_length_le (by omega)]
theorem step_more (b : L) {l l1 : L} {out out' out1 : List Tok} {here here1 : List Nat} (hl : En l) (hb : Nb l) (hc : out'.map co = out.map co) (h : step l out here = .more l1 out1 here1) :
    ((l1 = [] ∧ here1 = [] ∧ Lined out1) ∨ (En l1 ∧ l1 <:+ l)) ∧ ∃ out1', out1'.map co = out1.map co ∧ step (l ++ b) out' here = .more (l1 ++ b) out1' here1 := by
  cases l with
  | nil => cases hl
  | cons c r =>
    rw [List.cons_append]
    unfold step at h ⊢
    simp only at h ⊢
    by_cases c1 : c = 32 ∨ c = 9
    · rw [if_pos c1] at h ⊢
      cases h
      exact ⟨.inr ⟨hl.cons (by rcases c1 with h | h <;> rw [h] <;> decide), List.suffix_cons _ _⟩, out', hc, rfl⟩
    rw [if_neg c1] at h ⊢
    by_cases c2 : c = 92 ∧ r.head? = some 10
    · rw [if_pos c2] at h
      have hr : r ≠ [] := by rintro rfl; cases c2.2
      have hr1 := (head_more hr b).1
      rw [if_pos (show c = 92 ∧ (r ++ b).head? = some 10 by rw [hr1]; exact c2), (head_more hr b).2]
      cases h
      refine ⟨.inr ⟨?_, (List.tail_suffix r).trans (List.suffix_cons _ _)⟩, out', hc, rfl⟩
      have e := head_cons c2.2
      refine hl.suf ((List.tail_suffix r).trans (List.suffix_cons _ _)) fun e2 => ?_
      rw [e2] at e
      exact hb [] (by rw [c2.1, e]; rfl)
    have c2' : ¬ (c = 92 ∧ (r ++ b).head? = some 10) := by
      rintro ⟨a1, a2⟩
      have hr : r ≠ [] := (hl.cons (by rw [a1]; decide)).ne
      rw [(head_more hr b).1] at a2
      exact c2 ⟨a1, a2⟩
    rw [if_neg c2] at h
    rw [if_neg c2']
    by_cases c3 : c = 35
    · rw [if_pos c3] at h ⊢
      cases h
      have hr := hl.cons (c := c) (by rw [c3]; decide)
      obtain ⟨h1, h2⟩ := skip_end hr.mem b
      exact ⟨.inr ⟨hr.suf (skip_suffix r) h2, (skip_suffix r).trans (List.suffix_cons _ _)⟩, out', hc, by rw [h1]⟩
    rw [if_neg c3] at h ⊢
    by_cases c4 : c = 10
    · rw [if_pos c4] at h ⊢
      have hr : r = [] ∨ En r := by
        by_cases e : r = []
        · exact .inl e
        · exact .inr (hl.tail e)
      cases e : bodies here (out ++ [⟨3, [], [], nl (c :: r)⟩]) r with
      | none => rw [e] at h; cases h
      | some x =>
        obtain ⟨o, r1⟩ := x
        rw [e] at h
        cases h
        obtain ⟨h1, o', h2, h3⟩ := bodies_more b here _ (out' ++ [⟨3, [], [], nl (c :: (r ++ b))⟩]) r _ _ hr (co_snoc hc (t := ⟨3, [], [], nl (c :: r)⟩) rfl) e
        rw [h3]
        refine ⟨?_, o', h2, rfl⟩
        rcases h1 with h1 | h1
        · exact .inl ⟨h1, rfl, lined_bodies e rfl rfl⟩
        · exact .inr ⟨h1, (bodies_suffix here e).trans (List.suffix_cons _ _)⟩
    rw [if_neg c4] at h ⊢
    cases e : sign (c :: r) with
    | some x =>
      obtain ⟨t, r1⟩ := x
      rw [e] at h
      cases h
      obtain ⟨h1, h2⟩ := sign_more hl e
      rw [show sign (c :: (r ++ b)) = some (t, l1 ++ b) from h2 b]
      exact ⟨.inr ⟨h1, sign_suffix e⟩, _, co_snoc hc (u := ⟨2, t, [], nl (c :: (r ++ b))⟩) rfl, rfl⟩
    | none =>
      rw [e] at h
      rw [show sign (c :: (r ++ b)) = none from sign_more_none hl e b]
      simp only at h ⊢
      by_cases c5 : c = 38
      · rw [if_pos c5] at h; cases h
      rw [if_neg c5] at h ⊢
      cases e2 : word (c :: r) with
      | error x => rw [e2] at h; cases h
      | ok x =>
        obtain ⟨t, r1⟩ := x
        rw [e2] at h
        simp only at h
        obtain ⟨h1, h2⟩ := word_more ((c :: r).length + 1) (c :: r) t r1 (by omega) hl hb e2
        rw [show word (c :: (r ++ b)) = .ok (t, r1 ++ b) from h2 b]
        simp only
        have hs : r1 <:+ c :: r := (word_fine (c :: r)).1 t r1 e2
        have hio : io t ((c :: (r ++ b)).length - (r1 ++ b).length) (r1 ++ b) = io t ((c :: r).length - r1.length) r1 := by
          unfold io
          rw [(head_more h1.ne b).1, show (c :: (r ++ b)).length - (r1 ++ b).length = (c :: r).length - r1.length by simp only [List.length_cons, List.length_append]; have := hs.length_le; simp only [List.length_cons] at this; omega]
        rw [hio, co_hung hc, co_len hc]
        by_cases c6 : io t ((c :: r).length - r1.length) r1 = true
        · rw [if_pos c6] at h ⊢
          cases h
          exact ⟨.inr ⟨h1, hs⟩, _, co_snoc hc (u := ⟨5, t, [], nl (c :: (r ++ b))⟩) rfl, rfl⟩
        · rw [if_neg c6] at h ⊢
          cases h
          exact ⟨.inr ⟨h1, hs⟩, _, co_snoc hc (u := ⟨1, t, [], nl (c :: (r ++ b))⟩) rfl, rfl⟩
theorem run_more (b : L) (n : Nat) : ∀ (l : L) (out out' o : List Tok) (here : List Nat), l.length < n → En l → Nb l → out'.map co = out.map co → run l out here = .ok o →
    ∃ q q', o = q ++ [⟨4, [], [], 0⟩] ∧ q'.map co = q.map co ∧ Lined q ∧ run (l ++ b) out' here = run b q' [] := by
  induction n with
  | zero => exact fun l _ _ _ _ h => absurd h (by omega)
  | succ n ih =>
    intro l out out' o here hn hl hb hc h
    rw [run_at] at h
    cases e : step l out here with
    | fail x y => rw [e] at h; cases h
    | done x =>
      unfold step at e
      cases l with
      | nil => cases hl
      | cons c r =>
        simp only at e
        repeat' (split at e)
        all_goals cases e
    | more l1 out1 here1 =>
      rw [e] at h
      have hlt := step_lt e
      obtain ⟨h1, out1', h2, h3⟩ := step_more b hl hb hc e
      rw [run_at, h3]
      simp only
      rcases h1 with ⟨rfl, rfl, h4⟩ | ⟨h4, h5⟩
      · simp only at h
        rw [run_nil] at h
        cases h
        exact ⟨out1, out1', rfl, h2, h4, by rw [List.nil_append]⟩
      · exact ih l1 out1 out1' o here1 (by omega) h4 (hb.suf h5) h2 h
/-- The tokens of a script with another one behind it. -/
theorem all_two {a b : L} {o ob : List Tok} (ha : ∀ m, a ≠ m ++ [92]) (h : all (a ++ [10]) = .ok o) (hb : all b = .ok ob) : ∃ q q', o = q ++ [⟨4, [], [], 0⟩] ∧ q'.map co = q.map co ∧ Lined q ∧ all (a ++ 10 :: b) = .ok (q' ++ ob) := by
  have hE : En (a ++ [10]) := by unfold En; simp
  have hN : Nb (a ++ [10]) := fun m e => by
    have e : a ++ [10] = (m ++ [92]) ++ [10] := by rw [e]; simp
    exact ha m (List.append_cancel_right e)
  obtain ⟨q, q', h1, h2, h3, h4⟩ := run_more b ((a ++ [10]).length + 1) (a ++ [10]) [] [] o [] (by omega) hE hN rfl h
  refine ⟨q, q', h1, h2, h3, ?_⟩
  have h5 : hung q' = false := by
    rw [co_hung h2]
    obtain ⟨p, t, rfl, ht, _⟩ := h3
    rw [hung_snoc, ht]
    rfl
  have h6 := run_ahead q' h5 b [] [] (fun k hk => by cases hk)
  rw [show run b [] [] = .ok ob from hb] at h6
  unfold all
  rw [show a ++ 10 :: b = (a ++ [10]) ++ b by simp, h4]
  simpa using h6
end Lx
end Go.Proofs.YtipojbknkfkgoaaGreatDoor
