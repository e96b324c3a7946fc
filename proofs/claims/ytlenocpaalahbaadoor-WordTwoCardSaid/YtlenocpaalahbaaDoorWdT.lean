/- Parts are as they should be. No program. -/
import Derived.Test.YtlenocpaalahbaaDoorWdA
namespace Go.Proofs.YtlenocpaalahbaaDoor
open Ws
namespace Wd
/-- A part by itself. -/
structure One (first : Bool) (i : Nat) (p : P) : Prop where
  lo : 1 ≤ p.k
  hi : p.k ≤ 5
  tl : p.k = 5 → i = 0 ∧ first = true ∧ p.t = []
  op : p.k ≠ 3 → p.o = [] ∧ p.w = []
  lt : p.k = 1 → p.t ≠ []
inductive Td : Bool → List P → Prop where
  | mk (first : Bool) (ps : List P) (h1 : ∀ (i : Nat) (p : P), ps[i]? = some p → One first i p) (h2 : ∀ (i : Nat) (p q : P), ps[i]? = some p → ps[i + 1]? = some q → p.k ≤ 2 → q.k ≠ p.k) (h3 : ∀ p ∈ ps, Td false p.w) : Td first ps
theorem Td.nil (first : Bool) : Td first [] := .mk first [] (fun i p h => by simp at h) (fun i p q h => by simp at h) nofun
theorem Td.add {first : Bool} {ps : List P} {p : P} (h : Td first ps) (h1 : One first ps.length p) (h2 : ∀ q, ps.getLast? = some q → q.k ≤ 2 → p.k ≠ q.k) (h3 : Td false p.w) : Td first (ps ++ [p]) := by
  cases h with
  | mk _ _ a1 a2 a3 =>
    refine .mk first _ (fun i q hq => ?_) (fun i q q' hq hq' hk => ?_) fun q hq => ?_
    · by_cases hi : i < ps.length
      · rw [List.getElem?_append_left hi] at hq
        exact a1 i q hq
      · rw [List.getElem?_append_right (by omega)] at hq
        have : i - ps.length = 0 := by
          have := (List.getElem?_eq_some_iff.1 hq).1
          simp at this
          omega
        rw [this] at hq
        simp at hq
        subst hq
        rwa [show i = ps.length by omega]
    · by_cases hi : i + 1 < ps.length
      · rw [List.getElem?_append_left (by omega)] at hq
        rw [List.getElem?_append_left hi] at hq'
        exact a2 i q q' hq hq' hk
      · rw [List.getElem?_append_right (by omega)] at hq'
        have h9 := (List.getElem?_eq_some_iff.1 hq').1
        simp at h9
        have h0 : i + 1 - ps.length = 0 := by omega
        rw [h0] at hq'
        simp at hq'
        subst hq'
        rw [List.getElem?_append_left (by omega)] at hq
        refine h2 q ?_ hk
        rw [List.getLast?_eq_getElem?, ← hq]
        congr 1
        omega
    · rcases List.mem_append.1 hq with h9 | h9
      · exact a3 q h9
      · simp only [List.mem_singleton] at h9
        subst h9
        exact h3
/-- A row of parts as it should be. -/
structure Ri (first : Bool) (r : R) : Prop where
  td : Td first r.ps
  k2 : r.k ≤ 2
  k1 : r.k = 1 → r.t ≠ []
  la : ∀ p, r.ps.getLast? = some p → if r.k = 0 then 3 ≤ p.k else p.k ≠ r.k
theorem Ri.close {first : Bool} {r : R} (h : Ri first r) : Td first (close r).ps ∧ ∀ p, (Wd.close r).ps.getLast? = some p → 3 ≤ p.k ∨ p.k = r.k := by
  unfold Wd.close
  by_cases hk : 0 < r.k
  · rw [if_pos hk]
    have h2 := h.k2
    refine ⟨h.td.add ⟨hk, by show r.k ≤ 5; omega, fun e => by have : r.k = 5 := e; omega, fun _ => ⟨rfl, rfl⟩, fun e => h.k1 e⟩ (fun q hq _ => ?_) (Td.nil _), fun p hp => ?_⟩
    · have := h.la q hq
      rw [if_neg (by omega)] at this
      exact fun e => this e.symm
    · simp at hp
      subst hp
      exact .inr rfl
  · rw [if_neg hk]
    refine ⟨h.td, fun p hp => ?_⟩
    have := h.la p hp
    rw [if_pos (by omega)] at this
    exact .inl this
theorem Ri.put {first : Bool} {r : R} (h : Ri first r) {k : Nat} {t : B} (hk : k = 1 ∨ k = 2) (ht : k = 1 → t ≠ []) : Ri first (put k t r) := by
  unfold Wd.put
  by_cases e : k = r.k
  · rw [if_pos e]
    exact ⟨h.td, h.k2, fun e1 => by simp [h.k1 e1], h.la⟩
  · rw [if_neg e]
    obtain ⟨h1, h2⟩ := h.close
    refine ⟨h1, by dsimp only; omega, ht, fun p hp => ?_⟩
    dsimp only at hp ⊢
    rw [if_neg (by omega)]
    rcases h2 p hp with h3 | h3 <;> omega
theorem Ri.add {first : Bool} {r : R} (h : Ri first r) {p : P} (hk : p.k = 3 ∨ p.k = 4) (ho : p.k = 4 → p.o = [] ∧ p.w = []) (hw : Td false p.w) : Ri first (add p r) := by
  unfold Wd.add
  obtain ⟨h1, h2⟩ := h.close
  refine ⟨h1.add ⟨by omega, by omega, fun e => by omega, fun e => ho (by omega), fun e => by omega⟩ (fun q hq hq2 => by omega) hw, by dsimp only; omega, (fun e => by cases e), fun q hq => ?_⟩
  simp at hq
  subst hq
  dsimp only
  rw [if_pos rfl]
  omega
theorem Ri.R0 (first : Bool) : Ri first ⟨[], 0, []⟩ := ⟨Td.nil _, by dsimp only; omega, (fun e => by cases e), fun p hp => by simp at hp⟩
/-! ### what may be wrong -/
def Er (s : S) : Prop := s.e = 0 ∨ s.e = 11 ∨ s.e = 21
theorem Er.fail {s : S} (h : Er s) {n : Nat} (hn : n = 11 ∨ n = 21) : Er (fail n s) := by
  unfold Wd.fail Er
  dsimp only
  rcases h with h | h | h
  · rw [h, if_pos rfl]; omega
  · rw [h]; simp
  · rw [h]; simp
theorem Er.same {s : S} (h : Er s) (l : B) : Er ⟨l, s.e⟩ := h
theorem Er.next {s : S} (h : Er s) : Er (next s).2 := by
  unfold Wd.next
  split
  · exact h.fail (.inl rfl)
  · exact h
theorem Er.skip {s : S} (h : Er s) (n : Nat) : Er (skip n s) := h
theorem Er.need {s : S} (h : Er s) (t : B) : Er (need t s) := by
  unfold Wd.need
  split
  · exact h.skip _
  · exact h.fail (.inl rfl)
theorem Er.upTo {s : S} (h : Er s) (c : UInt8) : Er (upTo c s).2 := by
  unfold Wd.upTo
  split
  · exact h.fail (.inl rfl)
  · exact h.skip _
theorem Er.rk : ∀ (n o : Nat) {s : S}, Er s → Er (rk n o s)
  | 0, _, _, h => h
  | n + 1, o, s, h => by
    rw [Wd.rk]
    split
    · exact Er.rk n _ h.next
    · exact h
theorem Er.measured {s : S} (h : Er s) : Er (measured s).2 := by
  unfold Wd.measured
  repeat' split
  all_goals first | exact h | exact h.skip _
theorem Er.named {s : S} (h : Er s) : Er (named s).2 := by
  unfold Wd.named
  refine Er.need ?_ _
  split
  · exact h.fail (.inl rfl)
  · exact h
theorem Er.op {s : S} (h : Er s) : Er (op s).2 := by
  unfold Wd.op
  split
  · exact h.skip _
  · exact h.fail (.inl rfl)
/-- What a brace gives. -/
def Bt (br : S → P × S) : Prop := ∀ s, Er s → Er (br s).2 ∧ ((br s).1.k = 0 ∨ (br s).1.k = 3) ∧ Td false (br s).1.w
section
variable {br : S → P × S} (hb : Bt br)
include hb
theorem value_t {s : S} (h : Er s) : Er (value br s).2 ∧ ((value br s).1.k = 0 ∨ (value br s).1.k = 3 ∨ (value br s).1.k = 4) ∧ ((value br s).1.k = 4 → (value br s).1.o = [] ∧ (value br s).1.w = []) ∧ Td false (value br s).1.w := by
  unfold value
  split
  · obtain ⟨h1, h2, h3⟩ := hb _ (h.skip 1)
    exact ⟨h1, by omega, fun e => by omega, h3⟩
  · split
    · exact ⟨Er.need (Er.rk _ _ (h.skip 2)) _, .inr (.inr rfl), fun _ => ⟨rfl, rfl⟩, Td.nil _⟩
    · have hp : Er (paren s) := by
        unfold paren
        split
        · exact h.fail (.inl rfl)
        · exact h
      split
      · exact ⟨hp, .inl rfl, (fun e => by cases e), Td.nil _⟩
      · exact ⟨hp.need _, .inr (.inl rfl), (fun e => by cases e), Td.nil _⟩
theorem dollar_t {first : Bool} {k : Nat} (hk : k = 1 ∨ k = 2) {x : R × S} (h : Er x.2) (hr : Ri first x.1) : Er (dollar br k x).2 ∧ Ri first (dollar br k x).1 := by
  obtain ⟨h1, h2, h3, h4⟩ := value_t hb h
  unfold dollar
  dsimp only
  split
  · exact ⟨h1, hr.put hk fun _ => by simp⟩
  · refine ⟨h1, hr.add ?_ h3 h4⟩
    show (value br x.2).1.k = 3 ∨ (value br x.2).1.k = 4
    omega
theorem content_t {first : Bool} (bare : B) {x : R × S} (h : Er x.2) (hr : Ri first x.1) : Er (content br bare x).2 ∧ Ri first (content br bare x).1 := by
  unfold content
  dsimp only
  split
  · split
    · exact ⟨h.next.next, hr.put (.inr rfl) fun e => by cases e⟩
    · exact ⟨h.next.next, hr.put (.inr rfl) fun e => by cases e⟩
  · split
    · exact dollar_t hb (.inr rfl) (x := (x.1, (next x.2).2)) h.next hr
    · split
      · exact ⟨h.next.fail (.inl rfl), hr⟩
      · exact ⟨h.next, hr.put (.inr rfl) fun e => by cases e⟩
omit hb in
theorem loop_t {first : Bool} {go : S → Bool} {f : R × S → R × S} (hf : ∀ x : R × S, go x.2 = true → Er x.2 → Ri first x.1 → Er (f x).2 ∧ Ri first (f x).1) : ∀ n (x : R × S), Er x.2 → Ri first x.1 → Er (loop go f n x).2 ∧ Ri first (loop go f n x).1
  | 0, x, h, hr => ⟨h, hr⟩
  | n + 1, x, h, hr => by
    rw [loop]
    split
    · rename_i hg
      obtain ⟨h1, h2⟩ := hf x hg h hr
      exact loop_t hf n (f x) h1 h2
    · exact ⟨h, hr⟩
theorem double_t {first : Bool} {x : R × S} (h : Er x.2) (hr : Ri first x.1) : Er (double br x).2 ∧ Ri first (double br x).1 := by
  unfold double
  dsimp only
  have := loop_t (go := more [34]) (f := content br inQuotes) (fun y _ h hr => content_t hb inQuotes h hr) x.2.l.length (if ahead [34] x.2 then put 2 [] x.1 else x.1, x.2) h (by split; exact hr.put (.inr rfl) (fun e => by cases e); exact hr)
  exact ⟨this.1.need _, this.2⟩
theorem part_t {first : Bool} {x : R × S} (h0 : x.2.l ≠ []) (h : Er x.2) (hr : Ri first x.1) : Er (part br x).2 ∧ Ri first (part br x).1 := by
  have h4 : (next x.2).1 ≠ [] := by unfold next; cases hl : x.2.l with | nil => exact absurd hl h0 | cons c t => simp
  unfold part
  dsimp only
  split
  · exact ⟨h.next.next, hr.put (.inr rfl) fun e => by cases e⟩
  · split
    · exact ⟨h.next.upTo _, hr.put (.inr rfl) fun e => by cases e⟩
    · split
      · exact double_t hb (x := (x.1, (next x.2).2)) h.next hr
      · split
        · exact dollar_t hb (.inl rfl) (x := (x.1, (next x.2).2)) h.next hr
        · split
          · exact ⟨h.next.fail (.inl rfl), hr⟩
          · exact ⟨h.next, hr.put (.inl rfl) fun _ => h4⟩
theorem word_t {s : S} (h : Er s) : Er (word br s).2 ∧ Td false (word br s).1 := by
  have := loop_t (first := false) (go := more [125]) (f := part br) (fun y hg h hr => part_t hb (more_ne hg) h hr) s.l.length (⟨[], 0, []⟩, s) h (Ri.R0 false)
  exact ⟨this.1.need _, this.2.close.1⟩
end
theorem brace_t : ∀ d, Bt (brace d)
  | 0 => fun s h => ⟨h.fail (.inr rfl), .inl rfl, Td.nil _⟩
  | d + 1 => fun s h => by
    show Er (braceF (word (brace d)) s).2 ∧ _
    rw [show brace (d + 1) s = braceF (word (brace d)) s from rfl]
    unfold braceF
    split
    · exact ⟨h.measured, .inr rfl, Td.nil _⟩
    · split
      · exact ⟨h.named.skip 1, .inr rfl, Td.nil _⟩
      · have := word_t (brace_t d) h.named.op
        exact ⟨this.1, .inr rfl, this.2⟩
/-- Parse's parts are as they should be; what is wrong is one of two. -/
theorem parse_t (raw : B) : ((parse raw).2 = 0 ∧ Td true (parse raw).1) ∨ (((parse raw).2 = 11 ∨ (parse raw).2 = 21) ∧ (parse raw).1 = []) := by
  have hs : Er (start raw).2 ∧ Ri true (start raw).1 := by
    unfold start
    split
    · refine ⟨Er.need (.inl rfl) _, ?_⟩
      have e : add (.mk 5 [] [] false []) R0 = ⟨[.mk 5 [] [] false []], 0, []⟩ := rfl
      rw [e]
      refine ⟨.mk _ _ (fun i p hp => ?_) (fun i p q hp hq => ?_) (fun p hp => ?_), by dsimp only; omega, (fun e => by cases e), fun p hp => ?_⟩
      · have := (List.getElem?_eq_some_iff.1 hp).1
        simp at this
        subst this
        simp at hp
        subst hp
        exact ⟨by decide, by decide, fun _ => ⟨rfl, rfl, rfl⟩, fun _ => ⟨rfl, rfl⟩, fun e => by cases e⟩
      · have := (List.getElem?_eq_some_iff.1 hq).1
        simp at this
      · simp at hp
        subst hp
        exact Td.nil _
      · simp at hp
        subst hp
        show 3 ≤ 5
        omega
    · exact ⟨.inl rfl, Ri.R0 true⟩
  have h := loop_t (go := left) (f := part (brace 8)) (fun y hg h hr => part_t (brace_t 8) (left_ne hg) h hr) raw.length (start raw) hs.1 hs.2
  unfold parse told
  split
  · rename_i he
    refine .inr ⟨?_, rfl⟩
    rcases h.1 with h1 | h1 | h1
    · exact absurd h1 he
    · exact .inl h1
    · exact .inr h1
  · exact .inl ⟨rfl, h.2.close.1⟩
end Wd
end Go.Proofs.YtlenocpaalahbaaDoor
