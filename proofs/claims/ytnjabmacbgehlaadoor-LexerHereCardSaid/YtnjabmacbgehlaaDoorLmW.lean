/- The lexer's reader: one step, told by its first byte. No premises. -/
import Derived.Test.YtnjabmacbgehlaaDoorLmQ
import Derived.Test.YtnjabmacbgehlaaDoorLmU
import Derived.Test.YtnjabmacbgehlaaDoorLmV
namespace Go.Proofs.YtnjabmacbgehlaaDoor
open Go.RowKit Go.Maps
open Lx (nl Tok bodies lay hung)
/-- What holds between steps. -/
structure Inv (S : L) (σ : St) : Prop where
  room : σ.ts.length + σ.l.length ≤ S.length
  deep : σ.d = 0
  within : ∀ k ∈ σ.hs, k < σ.ts.length
  few : σ.hs.length ≤ σ.ts.length
  texts : ∀ t ∈ σ.ts, t.text.length ≤ 5000
  last : ∀ t, σ.ts.getLast? = some t → σ.b = 1 + nl S - t.left
/-- How a step ends. -/
def StepR (B g : Nat) (S : L) (W : World) (x : Lx.Step) (e : Ending) (W' : World) : Prop :=
  match x with
  | .more l' out' here' => e = .returned (.tuple #[]) ∧ (∃ σ' : St, σ'.l = l' ∧ σ'.ts = out' ∧ σ'.hs = here' ∧ Inv S σ' ∧ Mem W' B g S σ') ∧ Below B W W'
  | .fail n k => e = .panicked (flt n (1 + nl S - k : Nat)) ∧ Below B W W'
  | .done _ => False
theorem Mem.line {W : World} {B g : Nat} {S : L} {σ : St} (h : Mem W B g S σ) : ∃ b, b + nl σ.l = 1 + nl S ∧ b = 1 + nl S - nl σ.l ∧ S.length ≤ 4096 := by
  obtain ⟨p, n, vt, vh, vx, ms, mp, h⟩ := h
  exact ⟨n, h.ln, by have := h.ln; omega, h.big⟩
theorem bodies_texts (ks : List Nat) {out o : List Tok} {l r : L} (h : bodies ks out l = some (o, r)) : o.map Tok.text = out.map Tok.text ∧ o.map Tok.left = out.map Tok.left := by
  induction ks generalizing out l with
  | nil => cases h; exact ⟨rfl, rfl⟩
  | cons k ks ih =>
    unfold bodies at h
    cases e : Lx.doc (Lx.bare ((out[k]?.map Tok.text).getD [])) l with
    | none => rw [e] at h; cases h
    | some x =>
      obtain ⟨b, r1⟩ := x
      rw [e] at h
      obtain ⟨h1, h2⟩ := ih h
      exact ⟨h1.trans (Lx.lay_map Tok.text k b out fun _ => rfl), h2.trans (Lx.lay_map Tok.left k b out fun _ => rfl)⟩
theorem texts_of {a b : List Tok} (h : a.map Tok.text = b.map Tok.text) (hb : ∀ t ∈ b, t.text.length ≤ 5000) : ∀ t ∈ a, t.text.length ≤ 5000 := by
  intro t ht
  have : t.text ∈ b.map Tok.text := by rw [← h]; exact List.mem_map_of_mem ht
  obtain ⟨t', ht', e⟩ := List.mem_map.1 this
  rw [← e]; exact hb t' ht'
theorem Inv.snoc {S : L} {σ : St} (h : Inv S σ) {c : UInt8} {r l' : L} (hl : σ.l = c :: r) (hlt : l'.length < σ.l.length) (t : Tok) (htx : t.text.length ≤ 5000) (b : Nat) (hb : b = 1 + nl S - t.left) (σ' : St) (h1 : σ'.l = l') (h2 : σ'.ts = σ.ts ++ [t]) (h3 : σ'.hs = σ.hs) (h4 : σ'.b = b) (h5 : σ'.d = 0) : Inv S σ' := by
  have := h.room
  refine ⟨by rw [h1, h2, List.length_append, List.length_singleton]; omega, h5, ?_, ?_, ?_, ?_⟩
  · rw [h3, h2, List.length_append, List.length_singleton]
    intro k hk; have := h.within k hk; omega
  · rw [h3, h2, List.length_append, List.length_singleton]; have := h.few; omega
  · rw [h2]
    intro x hx
    rcases List.mem_append.1 hx with hx | hx
    · exact h.texts x hx
    · simp at hx; subst hx; exact htx
  · rw [h2]
    intro x hx
    rw [List.getLast?_concat] at hx
    simp at hx
    subst hx
    rw [h4, hb]
theorem Inv.rest {S : L} {σ : St} (h : Inv S σ) {l' : L} (hl : l'.length ≤ σ.l.length) : Inv S { σ with l := l' } :=
  ⟨by have := h.room; show σ.ts.length + l'.length ≤ _; omega, h.deep, h.within, h.few, h.texts, h.last⟩
section
variable {B g : Nat} {S : L} {σ : St} {W : World}
/-- A word, as a step. -/
theorem step_word {c : UInt8} {r : L} (hl : σ.l = c :: r) (hI : Inv S σ) (he : Lx.ends (c :: r) = false) (hs : Lx.step σ.l σ.ts σ.hs = (match Lx.word (c :: r) with
    | .error e => .fail e (nl (c :: r))
    | .ok (t, r') => if Lx.io t ((c :: r).length - r'.length) r' = true then .more r' (σ.ts ++ [⟨5, t, [], nl (c :: r)⟩]) σ.hs else .more r' (σ.ts ++ [⟨1, t, [], nl (c :: r)⟩]) (if hung σ.ts = true then σ.hs ++ [σ.ts.length] else σ.hs)))
    (h : Mem W B g S σ) : Calls Tryd.prog 39 #[.pointer (some ⟨g, 0, none⟩)] W (StepR B g S W (Lx.step σ.l σ.ts σ.hs)) := by
  obtain ⟨b, hb, hb2, hS⟩ := h.line
  have hr := hI.room
  have hf := hI.few
  refine (word_v B g S σ b hb hI.deep (by omega) (by omega) W h).mono ?_
  intro e W' hw
  rw [hs]
  have hl' := hl
  rw [hl] at hw
  cases hx : Lx.word (c :: r) with
  | error n =>
    rw [hx] at hw
    obtain ⟨h1, h2⟩ := hw
    exact ⟨by rw [h1, hb2, hl], h2⟩
  | ok x =>
    obtain ⟨t, r'⟩ := x
    rw [hx] at hw
    obtain ⟨h1, h2, h3, h4⟩ := hw
    have hlt := Lx.word_lt hx he
    rw [hl] at h2
    simp only
    have hin : ∀ (t1 : Tok) (σ' : St), t1.text = t → t1.left = nl (c :: r) → σ'.l = r' → σ'.ts = σ.ts ++ [t1] → σ'.hs = σ.hs → σ'.b = b → σ'.d = 0 → Inv S σ' := fun t1 σ' e1 e2 e3 e4 e5 e6 e7 =>
      hI.snoc hl (by rw [hl]; exact hlt) t1 (by rw [e1]; omega) b (by rw [e2, hb2, hl]) σ' e3 e4 e5 e6 e7
    by_cases hio : Lx.io t ((c :: r).length - r'.length) r' = true
    · rw [if_pos hio] at h2 ⊢
      exact ⟨h1, ⟨{ St.to { σ with b := b, q := [], j := false } (c :: r).length r' t with ts := σ.ts ++ [⟨5, t, [], nl (c :: r)⟩] }, rfl, rfl, rfl, hin ⟨5, t, [], nl (c :: r)⟩ _ rfl rfl rfl rfl rfl rfl hI.deep, h2⟩, h3⟩
    · rw [if_neg hio] at h2 ⊢
      by_cases hh : hung σ.ts = true
      · rw [if_pos hh] at h2 ⊢
        refine ⟨h1, ⟨{ St.to { σ with b := b, q := [], j := false } (c :: r).length r' t with hs := σ.hs ++ [σ.ts.length], ts := σ.ts ++ [⟨1, t, [], nl (c :: r)⟩] }, rfl, rfl, rfl, ?_, h2⟩, h3⟩
        have hi1 := hin ⟨1, t, [], nl (c :: r)⟩ { St.to { σ with b := b, q := [], j := false } (c :: r).length r' t with ts := σ.ts ++ [⟨1, t, [], nl (c :: r)⟩] } rfl rfl rfl rfl rfl rfl hI.deep
        refine ⟨hi1.room, hi1.deep, ?_, ?_, hi1.texts, hi1.last⟩
        · intro k hk
          simp only at hk ⊢
          rw [List.length_append, List.length_singleton]
          rcases List.mem_append.1 hk with hk | hk
          · have := hI.within k hk; omega
          · simp at hk; omega
        · simp only [List.length_append, List.length_singleton]; omega
      · rw [if_neg hh] at h2 ⊢
        exact ⟨h1, ⟨{ St.to { σ with b := b, q := [], j := false } (c :: r).length r' t with ts := σ.ts ++ [⟨1, t, [], nl (c :: r)⟩] }, rfl, rfl, rfl, hin ⟨1, t, [], nl (c :: r)⟩ _ rfl rfl rfl rfl rfl rfl hI.deep, h2⟩, h3⟩
/-- A blank, as a step. -/
theorem step_pass {c : UInt8} {r : L} (hl : σ.l = c :: r) (hI : Inv S σ) (hs : Lx.step σ.l σ.ts σ.hs = .more r σ.ts σ.hs) (h : Mem W B g S σ) : Calls Tryd.prog 30 #[.pointer (some ⟨g, 0, none⟩)] W (StepR B g S W (Lx.step σ.l σ.ts σ.hs)) := by
  rw [hs]
  refine (pass_v B g S σ c r hl W h).mono ?_
  rintro e W' ⟨h1, h2, h3⟩
  exact ⟨h1, ⟨{ σ with l := r }, rfl, rfl, rfl, hI.rest (by rw [hl]; simp), h2⟩, h3⟩
/-- A comment, as a step. -/
theorem step_row (hI : Inv S σ) (hs : Lx.step σ.l σ.ts σ.hs = .more (Lx.skip σ.l) σ.ts σ.hs) (h : Mem W B g S σ) : Calls Tryd.prog 28 #[.pointer (some ⟨g, 0, none⟩)] W (StepR B g S W (Lx.step σ.l σ.ts σ.hs)) := by
  rw [hs]
  refine (passRow_v B g S σ W h).mono ?_
  rintro e W' ⟨h1, h2, h3⟩
  exact ⟨h1, ⟨{ σ with l := Lx.skip σ.l }, rfl, rfl, rfl, hI.rest (Lx.skip_le _), h2⟩, h3⟩
/-- A line's end, as a step. -/
theorem step_line {r : L} (hl : σ.l = 10 :: r) (hI : Inv S σ) (h : Mem W B g S σ) : Calls Tryd.prog 29 #[.pointer (some ⟨g, 0, none⟩)] W (StepR B g S W (Lx.step σ.l σ.ts σ.hs)) := by
  obtain ⟨b, hb, hb2, hS⟩ := h.line
  have hr := hI.room
  have hf := hI.few
  rw [hl] at hr
  simp only [List.length_cons] at hr
  refine (newline_v B g S σ r hl b hb (by omega) hI.within hI.texts (by omega) W h).mono ?_
  intro e W' hw
  have hs : Lx.step σ.l σ.ts σ.hs = (match bodies σ.hs (σ.ts ++ [⟨3, [], [], nl (10 :: r)⟩]) r with
      | none => .fail 20 (nl (10 :: r))
      | some (o, r') => .more r' o []) := by rw [hl]; rfl
  rw [hs]
  rw [hl] at hw
  cases hx : bodies σ.hs (σ.ts ++ [⟨3, [], [], nl (10 :: r)⟩]) r with
  | none =>
    rw [hx] at hw
    obtain ⟨h1, h2⟩ := hw
    exact ⟨by rw [h1, hb2, hl]; rfl, h2⟩
  | some x =>
    obtain ⟨o, r'⟩ := x
    rw [hx] at hw
    obtain ⟨h1, h2, h3⟩ := hw
    have hlen := Lx.bodies_len _ hx
    have hle := Lx.bodies_le _ hx
    obtain ⟨htx, hlf⟩ := bodies_texts _ hx
    rw [List.length_append, List.length_singleton] at hlen
    refine ⟨h1, ⟨{ σ with b := b, l := r', ts := o, hs := [] }, rfl, rfl, rfl, ⟨?_, hI.deep, nofun, Nat.zero_le _, ?_, ?_⟩, h2⟩, h3⟩
    · show o.length + r'.length ≤ _; omega
    · refine texts_of htx ?_
      intro t ht
      rcases List.mem_append.1 ht with ht | ht
      · exact hI.texts t ht
      · simp at ht; subst ht; simp
    · intro t ht
      have e1 : (o.map Tok.left).getLast? = some t.left := by rw [List.getLast?_map, ht]; rfl
      rw [hlf, List.map_append, List.map_singleton, List.getLast?_concat] at e1
      simp at e1
      show b = _
      rw [hb2, hl, ← e1]
/-- A sign, as a step. -/
theorem step_sign {c : UInt8} {r : L} (hl : σ.l = c :: r) (hI : Inv S σ) (hs : Lx.step σ.l σ.ts σ.hs = (match Lx.sign (c :: r) with | some (t, r') => .more r' (σ.ts ++ [⟨2, t, [], nl (c :: r)⟩]) σ.hs | none => .fail 20 (nl (c :: r)))) (h0 : 0 < B) (hg0 : Sgn W) (h : Mem W B g S σ) : Calls Tryd.prog 31 #[.pointer (some ⟨g, 0, none⟩)] W (StepR B g S W (Lx.step σ.l σ.ts σ.hs)) := by
  obtain ⟨b, hb, hb2, hS⟩ := h.line
  have hr := hI.room
  refine (sign_v B g S σ b hb (by omega) W h h0 hg0).mono ?_
  intro e W' hw
  rw [hs]
  rw [hl] at hw
  cases hx : Lx.sign (c :: r) with
  | none =>
    rw [hx] at hw
    obtain ⟨h1, h2⟩ := hw
    exact ⟨by rw [h1, hb2, hl]; rfl, h2⟩
  | some x =>
    obtain ⟨t, r'⟩ := x
    rw [hx] at hw
    obtain ⟨h1, h2, h3⟩ := hw
    have hlt := Lx.sign_lt hx
    have htl : t.length ≤ 2 := by
      have := Lx.sign_in hx
      simp [Lx.signs] at this
      rcases this with rfl | rfl | rfl | rfl | rfl | rfl | rfl | rfl | rfl | rfl | rfl <;> simp
    rw [hl] at h2
    exact ⟨h1, ⟨{ σ with b := b, l := r', ts := σ.ts ++ [⟨2, t, [], nl (c :: r)⟩] }, rfl, rfl, rfl, hI.snoc hl (by rw [hl]; exact hlt) ⟨2, t, [], nl (c :: r)⟩ (by simp only; omega) b (by rw [hb2, hl]) _ rfl rfl rfl rfl hI.deep, h2⟩, h3⟩
end
end Go.Proofs.YtnjabmacbgehlaaDoor
