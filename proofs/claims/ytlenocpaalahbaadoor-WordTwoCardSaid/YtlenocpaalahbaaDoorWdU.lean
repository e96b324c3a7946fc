/- A word, two quotes, and another word. No program. -/
import Derived.Test.YtlenocpaalahbaaDoorWdS
namespace Go.Proofs.YtlenocpaalahbaaDoor
open Ws
namespace Wd
/-- A step that does the same with more behind. -/
def Fs (z : B) (f : R × S → R × S) : Prop := ∀ (r : R) (s : S), s.l ≠ [] → (f (r, s)).2.e = 0 → f (r, pl z s) = ((f (r, s)).1, pl z (f (r, s)).2) ∧ s.e = 0
def Fd (f : R × S → R × S) : Prop := ∀ x : R × S, x.2.l ≠ [] → (f x).2.l.length < x.2.l.length
section
variable {z : B} {f : R × S → R × S}
theorem loop_st {go : S → Bool} (hg : ∀ s, go s = true → s.l ≠ []) (hf : Fs z f) : ∀ n (x : R × S), (loop go f n x).2.e = 0 → x.2.e = 0
  | 0, _, h => h
  | n + 1, x, h => by
    rw [loop] at h
    split at h
    · rename_i hgo
      have := loop_st hg hf n (f x) h
      exact (hf x.1 x.2 (hg _ hgo) this).2
    · exact h
theorem more_pl {t : B} (ht : (39 : UInt8) ∉ t) {s : S} (hs : s.l ≠ []) : more t (pl z s) = more t s := by
  unfold more
  rw [ahead_pl ht]
  have h1 : left (pl z s) = true := by unfold left pl; simp
  have h2 : left s = true := by
    unfold left
    cases hl : s.l with
    | nil => exact absurd hl hs
    | cons c t => rfl
  rw [h1, h2]
/-- A loop up to a sign. -/
theorem loop_in {t : B} (ht : (39 : UInt8) ∉ t) (ht0 : t ≠ []) (hf : Fs z f) (hd : Fd f) : ∀ (n n' : Nat) (r : R) (s : S), s.l.length ≤ n → (pl z s).l.length ≤ n' → (need t (loop (more t) f n (r, s)).2).e = 0 → loop (more t) f n' (r, pl z s) = ((loop (more t) f n (r, s)).1, pl z (loop (more t) f n (r, s)).2)
  | 0, n', r, s, hn, _, h => by
    have h0 : s.l = [] := List.eq_nil_of_length_eq_zero (by omega)
    have := ahead_le (need_st h).2
    rw [show (loop (more t) f 0 (r, s)).2 = s from rfl, h0] at this
    exact absurd (List.eq_nil_of_length_eq_zero (by simpa using this)) ht0
  | n + 1, n', r, s, hn, hn', h => by
    rw [loop] at h ⊢
    by_cases hgo : more t s = true
    · rw [if_pos hgo] at h ⊢
      have hs := more_ne hgo
      have he := loop_st (fun _ h => more_ne (t := t) h) hf n (f (r, s)) (need_st h).1
      obtain ⟨h1, _⟩ := hf r s hs he
      cases n' with
      | zero => unfold pl at hn'; simp at hn'
      | succ n' =>
        rw [loop, if_pos (by rw [more_pl ht hs]; exact hgo), h1]
        have hlt := hd (r, s) hs
        exact loop_in ht ht0 hf hd n n' (f (r, s)).1 (f (r, s)).2 (by dsimp only at hlt; omega) (by unfold pl at hn' ⊢; simp at hn' ⊢; dsimp only at hlt; omega) h
    · rw [if_neg hgo] at h ⊢
      have ha := (need_st h).2
      exact loop_stop (y := (r, pl z s)) (by
        show more t (pl z s) = false
        unfold more
        rw [ahead_pl ht, ha]
        simp)
/-- A loop up to the end goes on. -/
theorem loop_out (hf : Fs z f) (hd : Fd f) : ∀ (n n' : Nat) (r : R) (s : S), s.l.length ≤ n → (pl z s).l.length ≤ n' → (loop left f n (r, s)).2.e = 0 → ∃ m, (39 :: z).length ≤ m ∧ loop left f n' (r, pl z s) = loop left f m ((loop left f n (r, s)).1, ⟨39 :: z, 0⟩)
  | 0, n', r, s, hn, hn', h => by
    have h0 : s.l = [] := List.eq_nil_of_length_eq_zero (by omega)
    have e1 : pl z s = ⟨39 :: z, 0⟩ := by unfold pl; rw [h0, show s.e = 0 from h]; rfl
    exact ⟨n', by rw [e1] at hn'; exact hn', by rw [e1]; rfl⟩
  | n + 1, n', r, s, hn, hn', h => by
    rw [loop] at h ⊢
    by_cases hgo : left s = true
    · rw [if_pos hgo] at h ⊢
      have hs := left_ne hgo
      have he := loop_st (fun _ h => left_ne h) hf n (f (r, s)) h
      obtain ⟨h1, _⟩ := hf r s hs he
      cases n' with
      | zero => unfold pl at hn'; simp at hn'
      | succ n' =>
        rw [loop, if_pos (by unfold left pl; simp), h1]
        have hlt := hd (r, s) hs
        exact loop_out hf hd n n' (f (r, s)).1 (f (r, s)).2 (by dsimp only at hlt; omega) (by unfold pl at hn' ⊢; simp at hn' ⊢; dsimp only at hlt; omega) h
    · rw [if_neg hgo] at h ⊢
      have h0 : s.l = [] := left_nil (by simpa using hgo)
      have e1 : pl z s = ⟨39 :: z, 0⟩ := by unfold pl; rw [h0, show s.e = 0 from h]; rfl
      exact ⟨n', by rw [e1] at hn'; exact hn', by rw [e1]⟩
end
section
variable {br : S → P × S} (hb : Bs br) (hl : ∀ s, (br s).2.l.length ≤ s.l.length)
include hb
theorem content_fs (z B0 : B) : Fs z (content br B0) := fun _ _ _ h => content_pl hb h
include hl
theorem double_pl {z : B} {r : R} {s : S} (h : (double br (r, s)).2.e = 0) : double br (r, pl z s) = ((double br (r, s)).1, pl z (double br (r, s)).2) ∧ s.e = 0 := by
  unfold double at h ⊢
  dsimp only at h ⊢
  rw [ahead_pl (by decide)]
  have h1 := loop_in (z := z) (t := [34]) (by decide) (by simp) (content_fs hb z inQuotes) (fun x hx => (content_m hl inQuotes x hx).1) s.l.length (pl z s).l.length (if ahead [34] s = true then put 2 [] r else r) s (Nat.le_refl _) (Nat.le_refl _) h
  rw [h1, need_pl (by decide) h]
  exact ⟨rfl, loop_st (fun _ h => more_ne h) (content_fs hb z inQuotes) _ _ (need_st h).1⟩
theorem part_pl {z : B} : Fs z (part br) := fun r s hs h => by
  have key : (next s).2.e = 0 := by
    unfold part at h
    dsimp only at h
    repeat' split at h
    · exact next_st h
    · exact upTo_st h
    · exact (double_pl hb hl (z := z) h).2
    · exact (dollar_pl hb (z := z) h).2
    · exact absurd h (fail_nz (by omega) _)
    · exact h
  refine ⟨?_, next_st key⟩
  have hn := next_pl (z := z) key
  unfold part at h ⊢
  dsimp only at h ⊢
  rw [hn]
  dsimp only
  by_cases c1 : (next s).1 = [92]
  · rw [if_pos c1] at h ⊢
    rw [if_pos c1, next_pl h]
  · rw [if_neg c1] at h ⊢
    rw [if_neg c1]
    by_cases c2 : (next s).1 = [39]
    · rw [if_pos c2] at h ⊢
      rw [if_pos c2, upTo_pl h]
    · rw [if_neg c2] at h ⊢
      rw [if_neg c2]
      by_cases c3 : (next s).1 = [34]
      · rw [if_pos c3] at h ⊢
        rw [if_pos c3]
        exact (double_pl hb hl h).1
      · rw [if_neg c3] at h ⊢
        rw [if_neg c3]
        by_cases c4 : (next s).1 = [36]
        · rw [if_pos c4] at h ⊢
          rw [if_pos c4]
          exact (dollar_pl hb h).1
        · rw [if_neg c4] at h ⊢
          rw [if_neg c4]
          by_cases c5 : (next s).1 = [96]
          · rw [if_pos c5] at h
            exact absurd h (fail_nz (by omega) _)
          · rw [if_neg c5, if_neg c5]
theorem word_pl {z : B} {s : S} (h : (word br s).2.e = 0) : word br (pl z s) = ((word br s).1, pl z (word br s).2) ∧ s.e = 0 := by
  have h1 := loop_in (z := z) (t := [125]) (by decide) (by simp) (part_pl hb hl) (fun x hx => (part_m hl x hx).1) s.l.length (pl z s).l.length ⟨[], 0, []⟩ s (Nat.le_refl _) (Nat.le_refl _) h
  refine ⟨?_, loop_st (fun _ h => more_ne h) (part_pl hb hl (z := z)) _ _ (need_st h).1⟩
  unfold word wordIn
  rw [h1]
  exact Prod.ext rfl (need_pl (by decide) h)
end
theorem brace_pl : ∀ d, Bs (brace d)
  | 0 => fun z s h => absurd h (fail_nz (by omega) s)
  | d + 1 => fun z s h => by
    rw [show brace (d + 1) s = braceF (word (brace d)) s from rfl] at h ⊢
    rw [show brace (d + 1) (pl z s) = braceF (word (brace d)) (pl z s) from rfl]
    unfold braceF at h ⊢
    rw [measured_pl]
    dsimp only
    by_cases c1 : (measured s).1 ≠ []
    · rw [if_pos c1] at h ⊢
      rw [if_pos c1]
      exact ⟨rfl, measured_st h⟩
    · rw [if_neg c1] at h ⊢
      rw [if_neg c1]
      have key : (named s).2.e = 0 := by
        split at h
        · exact h
        · exact op_st (word_pl (brace_pl d) (brace_len d) (z := z) h).2
      rw [named_pl key]
      dsimp only
      rw [ahead_pl (by decide)]
      by_cases c2 : ahead [125] (named s).2 = true
      · rw [if_pos c2] at h ⊢
        rw [if_pos c2]
        rw [show skip 1 (pl z (named s).2) = pl z (skip 1 (named s).2) from pl_skip (t := [125]) c2]
        exact ⟨rfl, (named_st key).1⟩
      · rw [if_neg c2] at h ⊢
        rw [if_neg c2]
        obtain ⟨h1, h2⟩ := word_pl (brace_pl d) (brace_len d) (z := z) h
        rw [op_pl h2]
        dsimp only
        rw [h1]
        exact ⟨rfl, (named_st key).1⟩
/-! ### the same steps from another row -/
/-- What was put since: the row at the left goes on from P0s and a quoted text t1. -/
inductive Go (ps : List P) (t1 : B) : R → R → Prop where
  | none : Go ps t1 ⟨ps, 2, t1⟩ ⟨[], 0, []⟩
  | quo (u : B) : Go ps t1 ⟨ps, 2, t1 ++ u⟩ ⟨[], 2, u⟩
  | first (u : B) (x : List P) (k : Nat) (t : B) : Go ps t1 ⟨ps ++ .mk 2 (t1 ++ u) [] false [] :: x, k, t⟩ ⟨.mk 2 u [] false [] :: x, k, t⟩
  | more (x : List P) (k : Nat) (t : B) (h : x ≠ [] → ∀ p, x.head? = some p → p.k ≠ 2) (h2 : x = [] → k = 1) : Go ps t1 ⟨ps ++ .mk 2 t1 [] false [] :: x, k, t⟩ ⟨x, k, t⟩
theorem Go.put {ps : List P} {t1 : B} {r q : R} (h : Go ps t1 r q) {k : Nat} (hk : k = 1 ∨ k = 2) (t : B) : Go ps t1 (put k t r) (put k t q) := by
  cases h with
  | none =>
    rcases hk with rfl | rfl
    · exact .more [] 1 t (fun e => absurd rfl e) (fun _ => rfl)
    · exact .quo t
  | quo u =>
    rcases hk with rfl | rfl
    · exact .first u [] 1 t
    · unfold Wd.put
      simp only [if_true, List.append_assoc]
      exact .quo (u ++ t)
  | first u x k' t' =>
    unfold Wd.put
    by_cases e : k = k'
    · simp only [e, if_true]
      exact .first u x k' (t' ++ t)
    · simp only [e, if_false]
      unfold Wd.close
      by_cases h0 : 0 < k'
      · simp only [h0, if_true, List.append_assoc, List.cons_append]
        exact .first u _ k t
      · simp only [h0, if_false]
        exact .first u x k t
  | more x k' t' h h2 =>
    unfold Wd.put
    by_cases e : k = k'
    · simp only [e, if_true]
      exact .more x k' (t' ++ t) h h2
    · simp only [e, if_false]
      unfold Wd.close
      by_cases h0 : 0 < k'
      · simp only [h0, if_true, List.append_assoc, List.cons_append]
        refine .more _ k t (fun _ p hp => ?_) (fun e => by simp at e)
        cases x with
        | nil =>
          simp at hp
          subst hp
          have := h2 rfl
          show k' ≠ 2
          omega
        | cons y x => exact h (by simp) p (by simpa using hp)
      · simp only [h0, if_false]
        refine .more x k t h fun e => ?_
        have := h2 e
        omega
theorem Go.add {ps : List P} {t1 : B} {r q : R} (h : Go ps t1 r q) {p : P} (hp : p.k ≠ 2) : Go ps t1 (add p r) (add p q) := by
  cases h with
  | none =>
    have e1 : Wd.add p ⟨ps, 2, t1⟩ = ⟨ps ++ .mk 2 t1 [] false [] :: [p], 0, []⟩ := by unfold Wd.add Wd.close; simp
    rw [e1]
    exact .more [p] 0 [] (fun _ y hy => by simp at hy; subst hy; exact hp) (fun e => by simp at e)
  | quo u =>
    unfold Wd.add Wd.close
    simp only [show (0 : Nat) < 2 by omega, if_true, List.append_assoc, List.cons_append, List.nil_append]
    exact .first u [p] 0 []
  | first u x k' t' =>
    unfold Wd.add Wd.close
    by_cases h0 : 0 < k'
    · simp only [h0, if_true, List.append_assoc, List.cons_append]
      exact .first u _ 0 []
    · simp only [h0, if_false, List.append_assoc, List.cons_append]
      exact .first u _ 0 []
  | more x k' t' h h2 =>
    unfold Wd.add Wd.close
    by_cases h0 : 0 < k'
    · simp only [h0, if_true, List.append_assoc, List.cons_append]
      refine .more _ 0 [] (fun _ y hy => ?_) (fun e => by simp at e)
      cases x with
      | nil =>
        simp at hy
        subst hy
        have := h2 rfl
        show k' ≠ 2
        omega
      | cons a x => exact h (by simp) y (by simpa using hy)
    · simp only [h0, if_false, List.append_assoc, List.cons_append]
      refine .more _ 0 [] (fun _ y hy => ?_) (fun e => by simp at e)
      cases x with
      | nil => have := h2 rfl; omega
      | cons a x => exact h (by simp) y (by simpa using hy)
section
variable {br : S → P × S} {ps : List P} {t1 : B} (hk : ∀ s, (br s).1.k ≠ 2)
include hk
theorem value_k (s : S) : (value br s).1.k ≠ 2 := by
  unfold value
  split
  · exact hk _
  · split
    · exact fun e => by cases e
    · split
      · exact fun e => by cases e
      · exact fun e => by cases e
theorem dollar_g {k : Nat} (h2 : k = 1 ∨ k = 2) {r q : R} {s : S} (h : Go ps t1 r q) : Go ps t1 (dollar br k (r, s)).1 (dollar br k (q, s)).1 ∧ (dollar br k (r, s)).2 = (dollar br k (q, s)).2 := by
  unfold dollar
  dsimp only
  split
  · exact ⟨h.put h2 _, rfl⟩
  · exact ⟨h.add (value_k hk s), rfl⟩
theorem content_g (B0 : B) {r q : R} {s : S} (h : Go ps t1 r q) : Go ps t1 (content br B0 (r, s)).1 (content br B0 (q, s)).1 ∧ (content br B0 (r, s)).2 = (content br B0 (q, s)).2 := by
  unfold content
  dsimp only
  split
  · split
    · exact ⟨h.put (.inr rfl) _, rfl⟩
    · exact ⟨h.put (.inr rfl) _, rfl⟩
  · split
    · exact dollar_g hk (.inr rfl) h
    · split
      · exact ⟨h, rfl⟩
      · exact ⟨h.put (.inr rfl) _, rfl⟩
omit hk in
theorem loop_g {go : S → Bool} {f : R × S → R × S} (hf : ∀ (r q : R) (s : S), Go ps t1 r q → Go ps t1 (f (r, s)).1 (f (q, s)).1 ∧ (f (r, s)).2 = (f (q, s)).2) : ∀ n (r q : R) (s : S), Go ps t1 r q → Go ps t1 (loop go f n (r, s)).1 (loop go f n (q, s)).1 ∧ (loop go f n (r, s)).2 = (loop go f n (q, s)).2
  | 0, r, q, s, h => ⟨h, rfl⟩
  | n + 1, r, q, s, h => by
    rw [loop, loop]
    by_cases hg : go s = true
    · rw [if_pos hg, if_pos hg]
      obtain ⟨h1, h2⟩ := hf r q s h
      have := loop_g (go := go) hf n (f (r, s)).1 (f (q, s)).1 (f (r, s)).2 h1
      rw [show f (r, s) = ((f (r, s)).1, (f (r, s)).2) from rfl, show f (q, s) = ((f (q, s)).1, (f (r, s)).2) by rw [h2]]
      exact this
    · rw [if_neg hg, if_neg hg]
      exact ⟨h, rfl⟩
theorem double_g {r q : R} {s : S} (h : Go ps t1 r q) : Go ps t1 (double br (r, s)).1 (double br (q, s)).1 ∧ (double br (r, s)).2 = (double br (q, s)).2 := by
  unfold double
  dsimp only
  have hg : Go ps t1 (if ahead [34] s = true then put 2 [] r else r) (if ahead [34] s = true then put 2 [] q else q) := by
    split
    · exact h.put (.inr rfl) _
    · exact h
  obtain ⟨h1, h2⟩ := loop_g (go := more [34]) (fun r q s h => content_g hk inQuotes h) s.l.length _ _ s hg
  exact ⟨h1, by rw [h2]⟩
theorem part_g {r q : R} {s : S} (h : Go ps t1 r q) : Go ps t1 (part br (r, s)).1 (part br (q, s)).1 ∧ (part br (r, s)).2 = (part br (q, s)).2 := by
  unfold part
  dsimp only
  split
  · exact ⟨h.put (.inr rfl) _, rfl⟩
  · split
    · exact ⟨h.put (.inr rfl) _, rfl⟩
    · split
      · exact double_g hk h
      · split
        · exact dollar_g hk (.inl rfl) h
        · split
          · exact ⟨h, rfl⟩
          · exact ⟨h.put (.inl rfl) _, rfl⟩
end
theorem brace_k (d : Nat) (s : S) : (brace d s).1.k ≠ 2 := by
  cases d with
  | zero => exact fun e => by cases e
  | succ d =>
    rw [show brace (d + 1) s = braceF (word (brace d)) s from rfl]
    unfold braceF
    split
    · exact fun e => by cases e
    · split
      · exact fun e => by cases e
      · exact fun e => by cases e
theorem loop_fuel {go : S → Bool} {f : R × S → R × S} (hg : ∀ s, go s = true → s.l ≠ []) (hd : Fd f) : ∀ (n n' : Nat) (x : R × S), x.2.l.length ≤ n → x.2.l.length ≤ n' → loop go f n x = loop go f n' x
  | n, n', x, hn, hn' => by
    by_cases h : go x.2 = true
    · have h0 := List.length_pos_iff.2 (hg _ h)
      have hlt := hd x (hg _ h)
      match n, n', hn, hn' with
      | n + 1, n' + 1, hn, hn' =>
        rw [loop, loop, if_pos h, if_pos h]
        exact loop_fuel hg hd n n' (f x) (by omega) (by omega)
      | 0, _, hn, _ => omega
      | _ + 1, 0, _, hn' => omega
    · rw [loop_stop (by simpa using h), loop_stop (by simpa using h)]
/-- How three rows of parts hang together. -/
structure Two (l m n : List P) : Prop where
  lo : l.length ≤ n.length
  hi : n.length ≤ l.length + m.length + 1
  ml : m.length ≤ n.length
  left : ∀ (i : Nat) (p q : P), l[i]? = some p → n[i]? = some q → q.k = p.k ∧ q.o = p.o ∧ (i + 1 < l.length → q.t = p.t)
  right : ∀ (i : Nat) (p q : P), m[i]? = some p → n[n.length - m.length + i]? = some q → q.k = p.k ∧ q.o = p.o ∧ (0 < i → q.t = p.t)
theorem two_of {ps : List P} {t1 : B} {l m n : List P} (hl : l = ps ∨ l = ps ++ [.mk 2 t1 [] false []]) (h : (∃ u x, m = .mk 2 u [] false [] :: x ∧ n = ps ++ .mk 2 (t1 ++ u) [] false [] :: x) ∨ n = ps ++ .mk 2 t1 [] false [] :: m) : Two l m n := by
  have hn : ∃ t2 x, n = ps ++ .mk 2 t2 [] false [] :: x := by
    rcases h with ⟨u, x, _, e⟩ | e
    · exact ⟨_, _, e⟩
    · exact ⟨_, _, e⟩
  have hleft : ∀ (i : Nat) (p q : P), l[i]? = some p → n[i]? = some q → q.k = p.k ∧ q.o = p.o ∧ (i + 1 < l.length → q.t = p.t) := fun i p q h1 h2 => by
    obtain ⟨t2, x, e⟩ := hn
    subst e
    by_cases hi : i < ps.length
    · rw [List.getElem?_append_left hi] at h2
      have h3 : ps[i]? = some p := by
        rcases hl with rfl | rfl
        · exact h1
        · rwa [List.getElem?_append_left hi] at h1
      rw [h3] at h2
      cases h2
      exact ⟨rfl, rfl, fun _ => rfl⟩
    · rcases hl with rfl | rfl
      · have := (List.getElem?_eq_some_iff.1 h1).1; omega
      · have h4 := (List.getElem?_eq_some_iff.1 h1).1
        simp at h4
        have : i = ps.length := by omega
        subst this
        simp at h1 h2
        subst h1 h2
        exact ⟨rfl, rfl, fun h => by simp at h⟩
  rcases h with ⟨u, x, rfl, rfl⟩ | rfl
  · refine ⟨?_, ?_, by simp, hleft, fun i p q h1 h2 => ?_⟩
    · rcases hl with rfl | rfl <;> simp
    · rcases hl with rfl | rfl <;> simp <;> omega
    · have e1 : (ps ++ P.mk 2 (t1 ++ u) [] false [] :: x).length - (P.mk 2 u [] false [] :: x).length = ps.length := by simp
      rw [e1, List.getElem?_append_right (by omega), show ps.length + i - ps.length = i by omega] at h2
      cases i with
      | zero =>
        simp at h1 h2
        subst h1 h2
        exact ⟨rfl, rfl, fun h => by omega⟩
      | succ i =>
        simp only [List.getElem?_cons_succ] at h1 h2
        rw [h1] at h2
        cases h2
        exact ⟨rfl, rfl, fun _ => rfl⟩
  · refine ⟨?_, ?_, by simp; omega, hleft, fun i p q h1 h2 => ?_⟩
    · rcases hl with rfl | rfl <;> simp
    · rcases hl with rfl | rfl <;> simp <;> omega
    · have e1 : (ps ++ P.mk 2 t1 [] false [] :: m).length - m.length = ps.length + 1 := by simp; omega
      rw [e1, List.getElem?_append_right (by omega), show ps.length + 1 + i - ps.length = i + 1 by omega] at h2
      simp only [List.getElem?_cons_succ] at h2
      rw [h1] at h2
      cases h2
      exact ⟨rfl, rfl, fun _ => rfl⟩
theorem go_all {ps : List P} {t1 : B} {r q : R} (h : Go ps t1 r q) : (∃ u x, all q = .mk 2 u [] false [] :: x ∧ all r = ps ++ .mk 2 (t1 ++ u) [] false [] :: x) ∨ all r = ps ++ .mk 2 t1 [] false [] :: all q := by
  unfold all close
  cases h with
  | none => right; simp
  | quo u => left; exact ⟨u, [], by simp, by simp⟩
  | first u x k t =>
    left
    by_cases h0 : 0 < k
    · exact ⟨u, x ++ [.mk k t [] false []], by simp [h0], by simp [h0]⟩
    · exact ⟨u, x, by simp [h0], by simp [h0]⟩
  | more x k t _ _ =>
    right
    by_cases h0 : 0 < k
    · simp [h0]
    · simp [h0]
theorem told_ok {x : R × S} {l : List P} (h : told x = (l, 0)) : x.2.e = 0 ∧ l = all x.1 := by
  unfold told at h
  by_cases he : x.2.e = 0
  · rw [if_neg (by simpa using he)] at h
    cases h
    exact ⟨he, rfl⟩
  · rw [if_pos he] at h
    injection h with _ h2
    exact absurd h2 he
/-- A word, two quotes, another word. -/
theorem parse_two {a b : B} {l m : List P} (ha : parse a = (l, 0)) (hb : parse b = (m, 0)) (h1 : a ≠ [126]) (h2 : b.head? ≠ some 126) : ∃ n, parse (a ++ 39 :: 39 :: b) = (n, 0) ∧ Two l m n := by
  have hfs : Fs (39 :: b) (part (brace 8)) := part_pl (brace_pl 8) (brace_len 8)
  have hfd : Fd (part (brace 8)) := fun x hx => (part_m (brace_len 8) x hx).1
  have hst : start (a ++ 39 :: 39 :: b) = ((start a).1, pl (39 :: b) (start a).2) := by
    unfold start
    rw [pre_pl [126, 47] a (by decide)]
    have e1 : a ++ 39 :: 39 :: b ≠ [126] := fun e => by
      have := congrArg List.length e
      simp at this
      omega
    by_cases hp : Lib.hasPrefix a [126, 47] = true
    · rw [if_pos (.inr hp), if_pos (.inr hp)]
      have hah : ahead [126] ⟨a, 0⟩ = true := by
        unfold ahead
        unfold Lib.hasPrefix at hp ⊢
        cases a with
        | nil => simp at hp
        | cons c a => simp only [List.isPrefixOf, Bool.and_eq_true] at hp ⊢; exact ⟨hp.1, trivial⟩
      have := need_pl (z := 39 :: b) (t := [126]) (by decide) (s := ⟨a, 0⟩) (by unfold need; rw [if_pos hah]; rfl)
      exact Prod.ext rfl this
    · rw [if_neg (fun h => h.elim e1 hp), if_neg (fun h => h.elim h1 hp)]
      rfl
  have hlen : (start a).2.l.length ≤ a.length := by
    unfold start
    split
    · exact need_len [126] ⟨a, 0⟩
    · exact Nat.le_refl _
  obtain ⟨z, hz⟩ : ∃ z, z = loop left (part (brace 8)) a.length (start a) := ⟨_, rfl⟩
  have hza : told z = (l, 0) := by rw [hz]; exact ha
  obtain ⟨he, hl⟩ := told_ok hza
  obtain ⟨k, hk, hout⟩ := loop_out hfs hfd a.length (a ++ 39 :: 39 :: b).length (start a).1 (start a).2 hlen (by unfold pl; simp; omega) (by rw [hz] at he; exact he)
  rw [show ((start a).1, (start a).2) = start a from rfl, ← hz] at hout
  have hpr : parse (a ++ 39 :: 39 :: b) = told (loop left (part (brace 8)) k (z.1, ⟨39 :: 39 :: b, 0⟩)) := by
    unfold parse
    rw [hst, hout]
  cases k with
  | zero => simp at hk
  | succ k =>
    have hup : upTo 39 ⟨39 :: b, 0⟩ = ([], ⟨b, 0⟩) := upTo_at (s := []) (by simp) 0
    rw [loop, if_pos (show left (z.1, (⟨39 :: 39 :: b, 0⟩ : S)).2 = true from rfl), part_sq (x := ⟨39 :: 39 :: b, 0⟩) (t := 39 :: b) rfl, hup, loop_fuel (fun _ h => left_ne h) hfd k b.length (put 2 [] z.1, ⟨b, 0⟩) (by simp at hk; dsimp only; omega) (Nat.le_refl _)] at hpr
    have hbs : told (loop left (part (brace 8)) b.length (R0, ⟨b, 0⟩)) = (m, 0) := by rw [← start_ne h2]; exact hb
    obtain ⟨hbe, hm⟩ := told_ok hbs
    have hput : ∃ ps t1, put 2 [] z.1 = ⟨ps, 2, t1⟩ ∧ (l = ps ∨ l = ps ++ [.mk 2 t1 [] false []]) := by
      rw [hl]
      unfold put
      by_cases h2 : 2 = z.1.k
      · rw [if_pos h2]
        refine ⟨z.1.ps, z.1.t ++ [], by rw [← h2], .inr ?_⟩
        unfold all close
        rw [if_pos (by omega)]
        simp [← h2]
      · rw [if_neg h2]
        exact ⟨_, _, rfl, .inl rfl⟩
    obtain ⟨ps, t1, hp1, hp2⟩ := hput
    rw [hp1] at hpr
    obtain ⟨g1, g2⟩ := loop_g (ps := ps) (t1 := t1) (go := left) (fun r q s h => part_g (brace_k 8) h) b.length ⟨ps, 2, t1⟩ R0 ⟨b, 0⟩ .none
    refine ⟨all (loop left (part (brace 8)) b.length (⟨ps, 2, t1⟩, ⟨b, 0⟩)).1, ?_, two_of hp2 ?_⟩
    · rw [hpr]
      unfold told
      rw [g2, if_neg (by simpa using hbe)]
    · rw [hm]
      exact go_all g1
end Wd
end Go.Proofs.YtlenocpaalahbaaDoor
