/- Scripts' trees: two runs of the parser side by side: the relation, and what joins two runs. No premises. -/
import Derived.Test.YtipojbknkfkgoaaGreatDoorNn
namespace Go.Proofs.YtipojbknkfkgoaaGreatDoor
namespace Sx
open Lx (Tok)
/-- The same token, but for where it stands. -/
structure Same (t u : Tok) : Prop where
  kind : u.kind = t.kind
  text : u.text = t.text
  body : t.kind ≠ 3 → u.body = t.body
/-- Nothing but an End is left. -/
def Dead (r : List Tok) : Prop := ∀ t ∈ r, t.kind = 4 ∧ t.text = []
/-- Tokens that are read alike. Where D holds, the one run's may end, and the other one's go on with Q. -/
inductive Rel (D : Prop) (Q : List Tok) : List Tok → List Tok → Prop
  | over {r : List Tok} : D → Dead r → Rel D Q r Q
  | nil : ¬ D → Rel D Q [] []
  | tok {t u : Tok} {p q : List Tok} : Same t u → t.kind ≠ 3 → (D → ¬ Dead p ∧ t.kind ≠ 4) → (t.kind = 5 → (p.headD E).kind ≠ 3) → Rel D Q p q → Rel D Q (t :: p) (u :: q)
  | line {t u : Tok} {p q : List Tok} : t.kind = 3 → u.kind = 3 → t.text = [] → u.text = [] → Rel D Q (dropL p) (dropL q) → Rel D Q (t :: p) (u :: q)
section
variable {D : Prop} {Q r q : List Tok}
theorem Rel.hd (h : Rel D Q r q) (on : D → ¬ Dead r) : Same (r.headD E) (q.headD E) := by
  cases h with
  | over h1 h2 => exact absurd h2 (on h1)
  | nil => exact ⟨rfl, rfl, fun _ => rfl⟩
  | tok h1 h2 h3 h4 h5 => exact h1
  | line h1 h2 h3 h4 h5 => exact ⟨h2.trans h1.symm, h4.trans h3.symm, fun h => absurd h1 h⟩
theorem Rel.line_text (h : Rel D Q r q) (on : D → ¬ Dead r) (hk : (r.headD E).kind = 3) : (r.headD E).text = [] := by
  cases h with
  | over h1 h2 => exact absurd h2 (on h1)
  | nil => cases hk
  | tok h1 h2 h3 h4 h5 => exact absurd hk h2
  | line h1 h2 h3 h4 h5 => exact h3
theorem Rel.tail (h : Rel D Q r q) (on : D → ¬ Dead r) (hk : (r.headD E).kind ≠ 3) : Rel D Q r.tail q.tail ∧ (D → ¬ Dead r.tail) ∧ ((r.headD E).kind = 5 → (r.tail.headD E).kind ≠ 3) := by
  cases h with
  | over h1 h2 => exact absurd h2 (on h1)
  | nil h1 => exact ⟨.nil h1, fun h => absurd h h1, fun h => by cases h⟩
  | tok h1 h2 h3 h4 h5 => exact ⟨h5, fun h => (h3 h).1, h4⟩
  | line h1 h2 h3 h4 h5 => exact absurd h1 hk
theorem Rel.drop (h : Rel D Q r q) (on : D → ¬ Dead r) : Rel D Q (dropL r) (dropL q) := by
  cases h with
  | over h1 h2 => exact absurd h2 (on h1)
  | nil h1 => exact .nil h1
  | tok h1 h2 h3 h4 h5 => unfold dropL; rw [if_neg h2, if_neg (by rw [h1.kind]; exact h2)]; exact .tok h1 h2 h3 h4 h5
  | line h1 h2 h3 h4 h5 => unfold dropL; rw [if_pos h1, if_pos h2]; exact h5
theorem Rel.taildrop (h : Rel D Q r q) (on : D → ¬ Dead r) (hk : (r.headD E).kind = 3) : Rel D Q (dropL r.tail) (dropL q.tail) := by
  cases h with
  | over h1 h2 => exact absurd h2 (on h1)
  | nil h1 => cases hk
  | tok h1 h2 h3 h4 h5 => exact absurd hk h2
  | line h1 h2 h3 h4 h5 => exact h5
theorem Rel.words (h : Rel D Q r q) (on : D → ¬ Dead r) : (wordsL q).1 = (wordsL r).1 ∧ Rel D Q (wordsL r).2 (wordsL q).2 ∧ (D → ¬ Dead (wordsL r).2) := by
  induction h with
  | over h1 h2 => exact absurd h2 (on h1)
  | nil h1 => exact ⟨rfl, .nil h1, on⟩
  | @tok t u p q h1 h2 h3 h4 h5 ih =>
    unfold wordsL
    by_cases hk : t.kind = 1
    · rw [if_pos hk, if_pos (by rw [h1.kind]; exact hk)]
      obtain ⟨i1, i2, i3⟩ := ih fun h => (h3 h).1
      exact ⟨by rw [h1.text, i1], i2, i3⟩
    · rw [if_neg hk, if_neg (by rw [h1.kind]; exact hk)]
      exact ⟨rfl, .tok h1 h2 h3 h4 h5, on⟩
  | @line t u p q h1 h2 h3 h4 h5 ih =>
    unfold wordsL
    rw [if_neg (show ¬ t.kind = 1 by rw [h1]; decide), if_neg (show ¬ u.kind = 1 by rw [h2]; decide)]
    exact ⟨rfl, .line h1 h2 h3 h4 h5, on⟩
theorem Dead.hd {s : St} (h : Dead s.r) : (hd s).kind = 4 ∧ (hd s).text = [] := by
  unfold Sx.hd
  cases e : s.r with
  | nil => exact ⟨rfl, rfl⟩
  | cons t p => rw [e] at h; exact h t (by simp)
theorem Dead.tail (h : Dead r) : Dead r.tail := fun t ht => h t (List.mem_of_mem_tail ht)
theorem Dead.suf (h : Dead r) (hs : q <:+ r) : Dead q := fun t ht => h t (hs.subset ht)
theorem Dead.drop (h : Dead r) : Dead (dropL r) := h.suf (dropL_suf r)
theorem Dead.words (h : Dead r) : (wordsL r) = ([], r) := by
  cases r with
  | nil => rfl
  | cons t p => unfold wordsL; rw [if_neg (by rw [(h t (by simp)).1]; decide)]
end
/-- A node without its place. -/
def strip (n : Node) : Node := { n with left := 0 }
def shift (k : Nat) (n : Node) : Node := { n with kids := n.kids.map (· + k) }
/-- The same node, its kids k further on. -/
def ND (k : Nat) (n n' : Node) : Prop := strip n' = strip (shift k n)
theorem ND.mk {k : Nat} {kd : Nat} {t : L} {f : Bool} {ws : List L} {st : Nat} {rs : List Arw} {ks ks' : List Nat} {l l' : Nat} (h : ks' = ks.map (· + k)) : ND k ⟨kd, t, f, ws, st, rs, ks, l⟩ ⟨kd, t, f, ws, st, rs, ks', l'⟩ := by rw [h]; rfl
theorem ND.redirs {k : Nat} {n n' : Node} (h : ND k n n') (rs : List Arw) (l l' : Nat) : ND k { n with redirs := rs, left := l } { n' with redirs := rs, left := l' } := by
  cases n; cases n'
  unfold ND strip shift at *
  simp only [Node.mk.injEq] at h ⊢
  simp [h]
/-- Two states, and what is left of both is read alike. -/
structure Live (D : Prop) (Q : List Tok) (pre : List Node) (s s' : St) : Prop where
  rel : Rel D Q s.r s'.r
  on : D → ¬ Dead s.r
  d : s'.d = s.d
  ns : s'.ns.map strip = pre.map strip ++ s.ns.map fun n => strip (shift pre.length n)
section
variable {D : Prop} {Q : List Tok} {pre : List Node} {s s' : St}
theorem Live.hd (h : Live D Q pre s s') : Same (hd s) (hd s') := h.rel.hd h.on
theorem Live.isT (h : Live D Q pre s s') (t : L) : isT t s' = isT t s := by unfold Sx.isT; rw [h.hd.text]
theorem Live.len (h : Live D Q pre s s') : s'.ns.length = s.ns.length + pre.length := by
  have := congrArg List.length h.ns
  simp only [List.length_map, List.length_append] at this
  omega
theorem Live.text (h : Live D Q pre s s') (ht : (Sx.hd s).text ≠ []) : (Sx.hd s).kind ≠ 3 := fun hk => ht (h.rel.line_text h.on hk)
theorem Live.go (h : Live D Q pre s s') (hk : (Sx.hd s).kind ≠ 3) : Live D Q pre (go s) (go s') ∧ ((Sx.hd s).kind = 5 → (Sx.hd (Sx.go s)).kind ≠ 3) := by
  obtain ⟨h1, h2, h3⟩ := h.rel.tail h.on hk
  exact ⟨⟨h1, h2, h.d, h.ns⟩, h3⟩
theorem Live.step (h : Live D Q pre s s') (ht : (Sx.hd s).text ≠ []) : Live D Q pre (Sx.go s) (Sx.go s') := (h.go (h.text ht)).1
theorem Live.dl (h : Live D Q pre s s') : (D ∧ Dead (dl s).r) ∨ Live D Q pre (dl s) (dl s') := by
  by_cases hd : D ∧ Dead (Sx.dl s).r
  · exact .inl hd
  · exact .inr ⟨h.rel.drop h.on, fun a b => hd ⟨a, b⟩, h.d, h.ns⟩
theorem Live.at (h : Live D Q pre s s') : atRedir s' = atRedir s ∧ atSimple s' = atSimple s ∧ atAndOr s' = atAndOr s ∧ isComp (Sx.hd s').text = isComp (Sx.hd s).text := by
  have h1 : atRedir s' = atRedir s := by unfold atRedir; rw [h.hd.kind, h.hd.text]
  have h2 : atSimple s' = atSimple s := by unfold atSimple; rw [h.hd.kind, h.hd.text, h1]
  exact ⟨h1, h2, by unfold atAndOr; rw [h.isT, h2, h.hd.text], by rw [h.hd.text]⟩
theorem Live.func (h : Live D Q pre s s') : atFunc s' = atFunc s := by
  unfold atFunc
  rw [h.hd.text]
  cases e : nameB (Sx.hd s).text with
  | false => rfl
  | true => rw [(h.step (fun e1 => by rw [e1, nameB_nil] at e; cases e)).hd.text]
/-- What two runs come to: the same; or the one run has nothing left but an End. -/
def Res (D : Prop) (Q : List Tok) (pre : List Node) {α β : Type} (q : Bool) (V : α → β → Prop) (x : Except Er (α × St)) (x' : Except Er (β × St)) : Prop := match x with
  | .ok (a, s1) => (q = true ∧ D ∧ Dead s1.r) ∨ ∃ a' s1', x' = .ok (a', s1') ∧ V a a' ∧ Live D Q pre s1 s1'
  | .error (k, _) => D ∨ k = 0 ∨ ∃ l, x' = .error (k, l)
end
/-- Two functions do alike. -/
def Lv (D : Prop) (Q : List Tok) (pre : List Node) {α β : Type} (q : Bool) (V : α → β → Prop) (m : M α) (m' : M β) : Prop := ∀ s s', Live D Q pre s s' → Res D Q pre q V (m s) (m' s')
/-- Where nothing but an End is left, that stays so; and not p: there is an error. -/
def Dd {α : Type} (p : Bool) (m : M α) : Prop := ∀ s, Dead s.r → ∀ a s1, m s = .ok (a, s1) → p = true ∧ Dead s1.r
section
variable {D : Prop} {Q : List Tok} {pre : List Node} {α β γ δ : Type}
theorem Res.weak {q : Bool} {V : α → β → Prop} {x : Except Er (α × St)} {x' : Except Er (β × St)} (h : Res D Q pre q V x x') : Res D Q pre true V x x' := by
  unfold Res at *
  split at h
  · rename_i a s1
    rcases h with ⟨h1, h2⟩ | h
    · exact .inl ⟨rfl, h2⟩
    · exact .inr h
  · exact h
theorem Lv.weak {q : Bool} {V : α → β → Prop} {m : M α} {m' : M β} (h : Lv D Q pre q V m m') : Lv D Q pre true V m m' := fun s s' hs => (h s s' hs).weak
theorem Dd.mono {p : Bool} {m : M α} (h : Dd p m) : Dd true m := fun s hs a s1 e => ⟨rfl, (h s hs a s1 e).2⟩
theorem Dd.bnd {p1 p : Bool} {m : M α} {f : α → M γ} (h1 : Dd p1 m) (h2 : ∀ a, Dd p (f a)) : Dd p (bnd m f) := fun s hs a s1 e => by
  obtain ⟨b, s2, e1, e2⟩ := bnd_inv e
  exact h2 b s2 (h1 s hs b s2 e1).2 a s1 e2
theorem Dd.fail {m : M α} {f : α → M γ} {p : Bool} (h1 : Dd false m) : Dd p (Sx.bnd m f) := fun s hs a s1 e => by
  obtain ⟨b, s2, e1, e2⟩ := bnd_inv e
  exact absurd (h1 s hs b s2 e1).1 (by decide)
theorem Dd.err {m : M α} {p : Bool} (h : ∀ s, Dead s.r → ∃ e, m s = .error e) : Dd p m := fun s hs a s1 e => by
  obtain ⟨x, hx⟩ := h s hs
  rw [hx] at e; cases e
theorem res_ok {q : Bool} {V : α → β → Prop} {a : α} {a' : β} {s1 s1' : St} (hv : V a a') (h : Live D Q pre s1 s1') : Res D Q pre q V (.ok (a, s1)) (.ok (a', s1')) := .inr ⟨a', s1', rfl, hv, h⟩
theorem res_err {q : Bool} {V : α → β → Prop} {k l l' : Nat} : Res D Q pre q V (.error (k, l)) (.error (k, l')) := .inr (.inr ⟨l', rfl⟩)
theorem res_zero {q : Bool} {V : α → β → Prop} {l : Nat} {x' : Except Er (β × St)} : Res D Q pre q V (.error (0, l)) x' := .inr (.inl rfl)
theorem res_dead {V : α → β → Prop} {a : α} {s1 : St} {x' : Except Er (β × St)} (hd : D) (h : Dead s1.r) : Res D Q pre true V (.ok (a, s1)) x' := .inl ⟨rfl, hd, h⟩
/-- One behind the other: p tells whether what stands behind goes on where nothing is left. -/
theorem res_bnd {q1 q2 p q : Bool} {V : α → β → Prop} {W : γ → δ → Prop} {m : M α} {m' : M β} {f : α → M γ} {f' : β → M δ} {s s' : St} (h1 : Res D Q pre q1 V (m s) (m' s'))
    (h2 : ∀ a a', V a a' → Lv D Q pre q2 W (f a) (f' a')) (h3 : q1 = true → ∀ a, Dd p (f a)) (hq : (q2 || (q1 && p)) = q) : Res D Q pre q W (bnd m f s) (bnd m' f' s') := by
  unfold Res at h1
  cases e : m s with
  | error x =>
    obtain ⟨k, l⟩ := x
    rw [e] at h1
    rw [bnd_error e]
    rcases h1 with h | h | ⟨l', h⟩
    · exact .inl h
    · exact .inr (.inl h)
    · rw [bnd_error h]; exact .inr (.inr ⟨l', rfl⟩)
  | ok x =>
    obtain ⟨a, s1⟩ := x
    rw [e] at h1
    rw [bnd_ok e]
    rcases h1 with ⟨h, hd, hdd⟩ | ⟨a', s1', h, hv, hl⟩
    · unfold Res
      cases e2 : f a s1 with
      | error x => exact .inl hd
      | ok x =>
        obtain ⟨b, s2⟩ := x
        obtain ⟨hp, hs2⟩ := h3 h a s1 hdd b s2 e2
        refine .inl ⟨?_, hd, hs2⟩
        rw [← hq, h, hp]
        simp
    · rw [bnd_ok h]
      have := h2 a a' hv s1 s1' hl
      cases q2 with
      | false =>
        cases q with
        | false => exact this
        | true => exact this.weak
      | true =>
        have : q = true := by rw [← hq]; rfl
        subst this
        exact h2 a a' hv s1 s1' hl
theorem Lv.bnd {q1 q2 p q : Bool} {V : α → β → Prop} {W : γ → δ → Prop} {m : M α} {m' : M β} {f : α → M γ} {f' : β → M δ} (h1 : Lv D Q pre q1 V m m')
    (h2 : ∀ a a', V a a' → Lv D Q pre q2 W (f a) (f' a')) (h3 : q1 = true → ∀ a, Dd p (f a)) (hq : (q2 || (q1 && p)) = q) : Lv D Q pre q W (bnd m f) (bnd m' f') := fun s s' hs => res_bnd (h1 s s' hs) h2 h3 hq
/-- The first one keeps what is left. -/
theorem Lv.then_ {q : Bool} {V : α → β → Prop} {W : γ → δ → Prop} {m : M α} {m' : M β} {f : α → M γ} {f' : β → M δ} (h1 : Lv D Q pre false V m m')
    (h2 : ∀ a a', V a a' → Lv D Q pre q W (f a) (f' a')) : Lv D Q pre q W (Sx.bnd m f) (Sx.bnd m' f') := h1.bnd h2 (p := false) (fun h => by cases h) (by cases q <;> rfl)
/-- What stands behind refuses an End. -/
theorem Lv.need_ {q1 q : Bool} {V : α → β → Prop} {W : γ → δ → Prop} {m : M α} {m' : M β} {f : α → M γ} {f' : β → M δ} (h1 : Lv D Q pre q1 V m m')
    (h2 : ∀ a a', V a a' → Lv D Q pre q W (f a) (f' a')) (h3 : ∀ a, Dd false (f a)) : Lv D Q pre q W (Sx.bnd m f) (Sx.bnd m' f') := h1.bnd h2 (fun _ => h3) (by cases q <;> cases q1 <;> rfl)
/-- What stands behind goes on. -/
theorem Lv.more_ {q1 q : Bool} {V : α → β → Prop} {W : γ → δ → Prop} {m : M α} {m' : M β} {f : α → M γ} {f' : β → M δ} (h1 : Lv D Q pre q1 V m m')
    (h2 : ∀ a a', V a a' → Lv D Q pre q W (f a) (f' a')) (h3 : ∀ a, Dd true (f a)) : Lv D Q pre true W (Sx.bnd m f) (Sx.bnd m' f') := by
  refine (h1.weak).bnd (fun a a' h => (h2 a a' h).weak) (fun _ => h3) rfl
theorem Lv.ret {V : α → β → Prop} {a : α} {a' : β} (h : V a a') : Lv D Q pre false V (ret a) (ret a') := fun _ _ hs => res_ok h hs
theorem Dd.ret (a : α) : Dd true (Sx.ret a) := fun s hs b s1 e => by cases e; exact ⟨rfl, hs⟩
end
end Sx
end Go.Proofs.YtipojbknkfkgoaaGreatDoor
