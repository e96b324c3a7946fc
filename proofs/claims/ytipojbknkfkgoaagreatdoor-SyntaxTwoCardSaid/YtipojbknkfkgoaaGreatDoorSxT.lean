/- Scripts' trees: each function of the parser, in two runs side by side. No premises. -/
import Derived.Test.YtipojbknkfkgoaaGreatDoorSxS
namespace Go.Proofs.YtipojbknkfkgoaaGreatDoor
namespace Sx
open Lx (Tok)
section
variable {s : St}
theorem Dead.isT (h : Dead s.r) {t : L} (ht : t ≠ []) : isT t s = false := by
  unfold Sx.isT
  rw [h.hd.2]
  cases t with
  | nil => exact absurd rfl ht
  | cons c t => rfl
theorem Dead.redir (h : Dead s.r) : atRedir s = false := by unfold atRedir; rw [h.hd.1, h.hd.2]; rfl
theorem Dead.simple (h : Dead s.r) : atSimple s = false := by unfold atSimple; rw [h.redir, h.hd.1]; rfl
theorem Dead.comp (h : Dead s.r) : isComp (Sx.hd s).text = false := by rw [h.hd.2]; rfl
theorem Dead.andOr (h : Dead s.r) : atAndOr s = false := by unfold atAndOr; rw [h.simple, h.comp, h.isT (by decide)]; rfl
theorem Dead.func (h : Dead s.r) : atFunc s = false := by unfold atFunc; rw [h.hd.2, nameB_nil]; rfl
end
section
variable {D : Prop} {Q : List Tok} {pre : List Node} {α β γ δ : Type}
theorem res_then {q : Bool} {V : α → β → Prop} {W : γ → δ → Prop} {m : M α} {m' : M β} {f : α → M γ} {f' : β → M δ} {s s' : St} (h1 : Res D Q pre false V (m s) (m' s'))
    (h2 : ∀ a a', V a a' → Lv D Q pre q W (f a) (f' a')) : Res D Q pre q W (bnd m f s) (bnd m' f' s') := res_bnd h1 h2 (p := false) (fun h => by cases h) (by cases q <;> rfl)
theorem res_need {q1 q : Bool} {V : α → β → Prop} {W : γ → δ → Prop} {m : M α} {m' : M β} {f : α → M γ} {f' : β → M δ} {s s' : St} (h1 : Res D Q pre q1 V (m s) (m' s'))
    (h2 : ∀ a a', V a a' → Lv D Q pre q W (f a) (f' a')) (h3 : ∀ a, Dd false (f a)) : Res D Q pre q W (bnd m f s) (bnd m' f' s') := res_bnd h1 h2 (fun _ => h3) (by cases q <;> cases q1 <;> rfl)
theorem res_more {q1 q : Bool} {V : α → β → Prop} {W : γ → δ → Prop} {m : M α} {m' : M β} {f : α → M γ} {f' : β → M δ} {s s' : St} (h1 : Res D Q pre q1 V (m s) (m' s'))
    (h2 : ∀ a a', V a a' → Lv D Q pre q W (f a) (f' a')) (h3 : ∀ a, Dd true (f a)) : Res D Q pre true W (bnd m f s) (bnd m' f' s') := res_bnd h1.weak (fun a a' h => (h2 a a' h).weak) (fun _ => h3) rfl
abbrev VI (pre : List Node) (i i' : Nat) : Prop := i' = i + pre.length
abbrev VK (pre : List Node) (ks ks' : List Nat) : Prop := ks' = ks.map (· + pre.length)
abbrev VN (pre : List Node) (n n' : Node) : Prop := ND pre.length n n'
abbrev VU (_ _ : Unit) : Prop := True
abbrev VW (t u : Tok) : Prop := Same t u ∧ t.kind = 1
theorem passed_lv {t : L} (ht : t ≠ []) : Lv D Q pre false Eq (passed t) (passed t) := fun s s' h => by
  unfold passed
  rw [h.isT]
  by_cases e : isT t s = true
  · rw [if_pos e, if_pos e]; exact res_ok rfl (h.step (isT_text e ht))
  · rw [if_neg e, if_neg e]; exact res_ok rfl h
theorem passed_dd {t : L} (ht : t ≠ []) : Dd true (passed t) := fun s hs a s1 e => by
  unfold passed at e
  rw [hs.isT ht, if_neg (by decide)] at e
  cases e
  exact ⟨rfl, hs⟩
theorem need_lv {t : L} (ht : t ≠ []) : Lv D Q pre false VU (need t) (need t) := fun s s' h => by
  unfold need
  rw [h.isT]
  by_cases e : isT t s = true
  · rw [if_pos e, if_pos e]; exact res_ok trivial (h.step (isT_text e ht))
  · rw [if_neg e, if_neg e]; exact res_err
theorem need_dd {t : L} (ht : t ≠ []) : Dd false (need t) := Dd.err fun s hs => by
  unfold need
  rw [hs.isT ht, if_neg (by decide)]
  exact ⟨_, rfl⟩
theorem lines_lv : Lv D Q pre true VU lines lines := fun s s' h => by
  rcases h.dl with ⟨h1, h2⟩ | h1
  · exact res_dead h1 h2
  · exact res_ok trivial h1
theorem lines_dd : Dd true lines := fun s hs a s1 e => by cases e; exact ⟨rfl, hs.drop⟩
theorem parted_lv : Lv D Q pre true Eq parted parted := fun s s' h => by
  unfold parted
  rw [h.isT, h.hd.kind]
  by_cases e : isT [59] s = true ∨ (hd s).kind = 3
  · rw [if_pos e, if_pos e]
    by_cases hk : (hd s).kind = 3
    · by_cases hx : D ∧ Dead (dl (go s)).r
      · exact res_dead hx.1 hx.2
      · exact res_ok rfl ⟨h.rel.taildrop h.on hk, fun a b => hx ⟨a, b⟩, h.d, h.ns⟩
    · rcases (h.step (isT_text (e.resolve_right hk) (by decide))).dl with ⟨h1, h2⟩ | h1
      · exact res_dead h1 h2
      · exact res_ok rfl h1
  · rw [if_neg e, if_neg e]; exact res_ok rfl h
theorem parted_dd : Dd true parted := fun s hs a s1 e => by
  unfold parted at e
  rw [hs.isT (by decide), hs.hd.1, if_neg (by decide)] at e
  cases e
  exact ⟨rfl, hs⟩
theorem word_lv : Lv D Q pre false VW word word := fun s s' h => by
  unfold word
  rw [h.hd.kind]
  by_cases e : (hd s).kind = 1
  · rw [if_pos e, if_pos e]; exact res_ok ⟨h.hd, e⟩ (h.go (by rw [e]; decide)).1
  · rw [if_neg e, if_neg e]; exact res_err
theorem word_dd : Dd false word := Dd.err fun s hs => by
  unfold word
  rw [hs.hd.1, if_neg (by decide)]
  exact ⟨_, rfl⟩
theorem words_lv : Lv D Q pre false Eq words words := fun s s' h => by
  obtain ⟨h1, h2, h3⟩ := h.rel.words h.on
  exact res_ok h1.symm ⟨h2, h3, h.d, h.ns⟩
theorem words_dd : Dd true words := fun s hs a s1 e => by
  cases e
  refine ⟨rfl, ?_⟩
  show Dead (wordsL s.r).2
  rw [hs.words]
  exact hs
theorem add_lv {n n' : Node} (hn : VN pre n n') : Lv D Q pre false (VI pre) (add n) (add n') := fun s s' h => by
  refine res_ok h.len ⟨h.rel, h.on, h.d, ?_⟩
  show (s'.ns ++ [n']).map strip = _ ++ (s.ns ++ [n]).map _
  rw [List.map_append, h.ns, List.map_append, List.append_assoc]
  congr 2
  show [strip n'] = [strip (shift _ n)]
  rw [hn]
theorem add_dd (n : Node) : Dd true (add n) := fun s hs a s1 e => by cases e; exact ⟨rfl, hs⟩
theorem fail_lv {V : α → β → Prop} {q : Bool} (k : Nat) : Lv D Q pre q V (fail k) (fail k) := fun _ _ _ => res_err
theorem fail_dd (k : Nat) : Dd false (fail k : M α) := Dd.err fun _ _ => ⟨_, rfl⟩
theorem redir_lv {s s' : St} (h : Live D Q pre s s') (ha : atRedir s = true) : Res D Q pre false Eq (redir s) (redir s') := by
  have hk3 : (hd s).kind ≠ 3 := fun e => by
    have e1 : (hd s).text = [] := h.rel.line_text h.on e
    unfold atRedir at ha
    rw [e1, e] at ha
    cases ha
  obtain ⟨hg, hg5⟩ := h.go hk3
  unfold redir
  rw [h.hd.kind, h.hd.text]
  by_cases e : (hd s).kind = 5
  · rw [if_pos e, if_pos e, hg.hd.text]
    exact res_then (word_lv _ _ (hg.go (hg5 e)).1) fun w w' hw => Lv.ret (by rw [hw.1.text, hw.1.body (by rw [hw.2]; decide)])
  · rw [if_neg e, if_neg e]
    exact res_then (word_lv _ _ hg) fun w w' hw => Lv.ret (by rw [hw.1.text, hw.1.body (by rw [hw.2]; decide)])
theorem redir_dd : Dd false redir := fun s hs a s1 e => by
  unfold redir at e
  rw [hs.hd.1, if_neg (by decide)] at e
  exact Dd.fail word_dd (go s) hs.tail a s1 e
theorem simF_lv : ∀ (n n' : Nat) (ws : List L) (rs : List Arw), n ≤ n' → Lv D Q pre false Eq (simF n ws rs) (simF n' ws rs)
  | 0, _, _, _, _ => fun _ _ _ => res_zero
  | n + 1, 0, _, _, hn => absurd hn (by omega)
  | n + 1, n' + 1, ws, rs, hn => fun s s' h => by
    show Res D Q pre false Eq (if (hd s).kind = 1 then _ else _) (if (hd s').kind = 1 then _ else _)
    rw [h.hd.kind, h.hd.text]
    by_cases e : (hd s).kind = 1
    · rw [if_pos e, if_pos e]; exact simF_lv n n' _ _ (by omega) _ _ (h.go (by rw [e]; decide)).1
    · rw [if_neg e, if_neg e, h.at.1]
      by_cases e2 : atRedir s = true
      · rw [if_pos e2, if_pos e2]
        exact res_then (redir_lv h e2) fun x x' hx => by subst hx; exact simF_lv n n' _ _ (by omega)
      · rw [if_neg e2, if_neg e2]; exact res_ok rfl h
theorem simF_dd : ∀ (n : Nat) (ws : List L) (rs : List Arw), Dd true (simF n ws rs)
  | 0, _, _ => Dd.err fun _ _ => ⟨_, rfl⟩
  | n + 1, ws, rs => fun s hs a s1 e => by
    unfold simF at e
    rw [hs.hd.1, if_neg (by decide), hs.redir, if_neg (by decide)] at e
    cases e
    exact ⟨rfl, hs⟩
theorem simple_lv {n n' : Nat} (hn : n ≤ n') : Lv D Q pre false (VI pre) (simple n) (simple n') := fun s s' h =>
  (simF_lv n n' [] [] hn).then_ (fun p p' hp => by subst hp; exact add_lv (ND.mk rfl)) s s' h
theorem redF_lv : ∀ (n n' : Nat) (rs : List Arw), n ≤ n' → Lv D Q pre false Eq (redF n rs) (redF n' rs)
  | 0, _, _, _ => fun _ _ _ => res_zero
  | n + 1, 0, _, hn => absurd hn (by omega)
  | n + 1, n' + 1, rs, hn => fun s s' h => by
    show Res D Q pre false Eq (if atRedir s = true then _ else _) (if atRedir s' = true then _ else _)
    rw [h.at.1]
    by_cases e2 : atRedir s = true
    · rw [if_pos e2, if_pos e2]
      exact res_then (redir_lv h e2) fun x x' hx => by subst hx; exact redF_lv n n' _ (by omega)
    · rw [if_neg e2, if_neg e2]; exact res_ok rfl h
theorem redF_dd : ∀ (n : Nat) (rs : List Arw), Dd true (redF n rs)
  | 0, _ => Dd.err fun _ _ => ⟨_, rfl⟩
  | n + 1, rs => fun s hs a s1 e => by
    unfold redF at e
    rw [hs.redir, if_neg (by decide)] at e
    cases e
    exact ⟨rfl, hs⟩
theorem name_lv : Lv D Q pre false Eq name name := fun s s' h => by
  unfold name
  rw [h.hd.text]
  by_cases e : nameB (hd s).text = true
  · rw [if_pos e, if_pos e]; exact res_ok rfl (h.step (fun e1 => by rw [e1, nameB_nil] at e; cases e))
  · rw [if_neg e, if_neg e]; exact res_err
theorem name_dd : Dd false name := Dd.err fun s hs => by
  unfold name
  rw [hs.hd.2, nameB_nil, if_neg (by decide)]
  exact ⟨_, rfl⟩
theorem altF_lv : ∀ (n n' : Nat) (ws : List L), n ≤ n' → Lv D Q pre false Eq (altF n ws) (altF n' ws)
  | 0, _, _, _ => fun _ _ _ => res_zero
  | n + 1, 0, _, hn => absurd hn (by omega)
  | n + 1, n' + 1, ws, hn => (passed_lv (by decide)).then_ fun b b' hb => by
    subst hb
    cases b with
    | true => exact word_lv.then_ fun w w' hw => by rw [hw.1.text]; exact altF_lv n n' _ (by omega)
    | false => exact Lv.ret rfl
theorem altF_dd : ∀ (n : Nat) (ws : List L), Dd true (altF n ws)
  | 0, _ => Dd.err fun _ _ => ⟨_, rfl⟩
  | n + 1, ws => (passed_dd (by decide)).bnd fun b => by
    cases b with
    | true => exact Dd.fail word_dd
    | false => exact Dd.ret _
end
section
variable {D : Prop} {Q : List Tok} {pre : List Node} {a a' : M Nat} (ha : Lv D Q pre true (VI pre) a a')
theorem lst_dd (a : M Nat) : Dd false (lst a) := lines_dd.bnd fun _ => Dd.err fun s hs => by
  show ∃ e, (if atAndOr s = true then a s else _) = _
  rw [hs.andOr, if_neg (by decide)]
  exact ⟨_, rfl⟩
include ha in
theorem lst_lv : Lv D Q pre true (VI pre) (lst a) (lst a') := lines_lv.need_ (fun _ _ _ s s' h => by
    show Res D Q pre true (VI pre) (if atAndOr s = true then _ else _) (if atAndOr s' = true then _ else _)
    rw [h.at.2.2.1]
    by_cases e : atAndOr s = true
    · rw [if_pos e, if_pos e]; exact ha s s' h
    · rw [if_neg e, if_neg e]; exact res_err)
  fun _ => Dd.err fun s hs => by
    show ∃ e, (if atAndOr s = true then a s else _) = _
    rw [hs.andOr, if_neg (by decide)]
    exact ⟨_, rfl⟩
include ha in
theorem group_lv : Lv D Q pre false (VN pre) (group a) (group a') := (need_lv (by decide)).then_ fun _ _ _ => (lst_lv ha).need_ (fun i i' hi => (need_lv (by decide)).then_ fun _ _ _ => Lv.ret (ND.mk (by rw [hi]; rfl))) fun i => Dd.fail (need_dd (by decide))
include ha in
theorem sub_lv : Lv D Q pre false (VN pre) (sub a) (sub a') := (need_lv (by decide)).then_ fun _ _ _ => (lst_lv ha).need_ (fun i i' hi => (need_lv (by decide)).then_ fun _ _ _ => Lv.ret (ND.mk (by rw [hi]; rfl))) fun i => Dd.fail (need_dd (by decide))
include ha in
theorem branch_lv : ∀ (n n' : Nat), n ≤ n' → ∀ s s', Live D Q pre s s' → (hd s).text ≠ [] → Res D Q pre true (VN pre) (branchF a n s) (branchF a' n' s')
  | 0, _, _ => fun _ _ _ _ => res_zero
  | n + 1, 0, hn => absurd hn (by omega)
  | n + 1, n' + 1, hn => fun s s' h ht => by
    refine (lst_lv ha).need_ (q := true) (W := VN pre) (fun i i' hi => (need_lv (by decide)).then_ fun _ _ _ => (lst_lv ha).more_ (q := true) (fun j j' hj s2 s2' h2 => ?_) fun j s2 hs2 b s3 e => ?_) (fun i => Dd.fail (need_dd (by decide))) _ _ (h.step ht)
    · show Res D Q pre true (VN pre) (if isT kELIF s2 = true then _ else _) (if isT kELIF s2' = true then _ else _)
      rw [h2.isT]
      by_cases e : isT kELIF s2 = true
      · rw [if_pos e, if_pos e]
        exact res_more (branch_lv n n' (by omega) s2 s2' h2 (isT_text e (by decide))) (fun nd nd' hnd => (add_lv hnd).then_ fun k k' hk => Lv.ret (ND.mk (by rw [hi, hj, hk]; rfl))) fun nd => (add_dd nd).bnd fun _ => Dd.ret _
      · rw [if_neg e, if_neg e]
        refine (passed_lv (by decide)).then_ (fun b b' hb => ?_) s2 s2' h2
        subst hb
        cases b with
        | true => exact (lst_lv ha).more_ (fun k k' hk => Lv.ret (ND.mk (by rw [hi, hj, hk]; rfl))) fun _ => Dd.ret _
        | false => exact (Lv.ret (ND.mk (by rw [hi, hj]; rfl))).weak
    · have e : (if isT kELIF s2 = true then _ else _) = _ := e
      rw [hs2.isT (by decide), if_neg (by decide)] at e
      refine (passed_dd (t := kELSE) (by decide)).bnd (fun b => ?_) s2 hs2 b s3 e
      cases b with
      | true => exact Dd.fail (lst_dd a)
      | false => exact Dd.ret _
include ha in
theorem choice_lv {n n' : Nat} (hn : n ≤ n') {s s' : St} (h : Live D Q pre s s') (ht : (hd s).text ≠ []) : Res D Q pre false (VN pre) (choice a n s) (choice a' n' s') :=
  res_need (branch_lv ha n n' hn s s' h ht) (fun nd nd' hnd => (need_lv (by decide)).then_ fun _ _ _ => Lv.ret hnd) fun _ => Dd.fail (need_dd (by decide))
theorem branch_dd (a : M Nat) : ∀ n, Dd false (branchF a n)
  | 0 => Dd.err fun _ _ => ⟨_, rfl⟩
  | _ + 1 => fun s hs b s1 e => Dd.fail (lst_dd a) (go s) hs.tail b s1 e
theorem choice_dd (a : M Nat) (n : Nat) : Dd false (choice a n) := Dd.fail (branch_dd a n)
theorem body_dd (a : M Nat) : Dd false (body a) := Dd.fail (need_dd (by decide))
include ha in
theorem body_lv : Lv D Q pre false (VI pre) (body a) (body a') := (need_lv (by decide)).then_ fun _ _ _ => (lst_lv ha).need_ (fun i i' hi => (need_lv (by decide)).then_ fun _ _ _ => Lv.ret hi) fun i => Dd.fail (need_dd (by decide))
include ha in
theorem loop_lv {s s' : St} (h : Live D Q pre s s') (ht : (hd s).text ≠ []) : Res D Q pre false (VN pre) (loop a s) (loop a' s') := by
  unfold loop
  rw [h.isT]
  exact (lst_lv ha).need_ (fun i i' hi => (body_lv ha).then_ fun j j' hj => Lv.ret (ND.mk (by rw [hi, hj]; rfl))) (fun i => Dd.fail (body_dd a)) _ _ (h.step ht)
theorem loop_dd (a : M Nat) : Dd false (loop a) := fun s hs b s1 e => Dd.fail (lst_dd a) (go s) hs.tail b s1 e
theorem each2_dd (a : M Nat) (t : L) (f : Bool) (ws : List L) : Dd false (each2 a t f ws) := lines_dd.bnd fun _ => Dd.fail (body_dd a)
include ha in
theorem each2_lv (t : L) (f : Bool) (ws : List L) : Lv D Q pre false (VN pre) (each2 a t f ws) (each2 a' t f ws) := lines_lv.need_ (fun _ _ _ => (body_lv ha).then_ fun i i' hi => Lv.ret (ND.mk (by rw [hi]; rfl))) fun _ => Dd.fail (body_dd a)
theorem each_dd (a : M Nat) : Dd false (each a) := Dd.fail (need_dd (by decide))
include ha in
theorem each_lv : Lv D Q pre false (VN pre) (each a) (each a') := by
  refine (need_lv (t := kFOR) (by decide)).then_ fun _ _ _ => name_lv.then_ fun t t' ht => (passed_lv (t := [59]) (by decide)).then_ fun b b' hb => ?_
  subst ht
  subst hb
  cases b with
  | true => exact each2_lv ha t true []
  | false =>
    rw [if_neg Bool.false_ne_true, if_neg Bool.false_ne_true]
    refine lines_lv.need_ (fun _ _ _ => (passed_lv (t := kIN) (by decide)).then_ fun c c' hc => ?_) fun _ => (passed_dd (t := kIN) (by decide)).bnd fun c => ?_
    · subst hc
      cases c with
      | true =>
        rw [if_pos rfl, if_pos rfl]
        refine words_lv.then_ fun ws ws' hws => ?_
        subst hws
        refine parted_lv.need_ (fun p p' hp => ?_) fun p => ?_
        · subst hp
          cases p with
          | true => exact each2_lv ha t false ws
          | false => exact fail_lv 20
        · cases p with
          | true => exact each2_dd a t false ws
          | false => exact fail_dd 20
      | false => exact each2_lv ha t true []
    · cases c with
      | true =>
        rw [if_pos rfl]
        refine words_dd.bnd fun ws => parted_dd.bnd fun p => ?_
        cases p with
        | true => exact each2_dd a t false ws
        | false => exact fail_dd 20
      | false => exact each2_dd a t true []
theorem item_dd (a : M Nat) (n : Nat) : Dd false (item a n) := fun s hs b s1 e => ((passed_dd (t := [40]) (by decide)).bnd fun _ => Dd.fail word_dd) s hs b s1 e
include ha in
theorem item_lv {n n' : Nat} (hn : n ≤ n') : Lv D Q pre true (VI pre) (item a n) (item a' n') := fun s s' h =>
  ((passed_lv (by decide)).then_ fun _ _ _ => word_lv.then_ fun w w' hw => by
    rw [hw.1.text]
    exact (altF_lv n n' _ hn).then_ fun ws ws' hws => by
      subst hws
      exact (need_lv (by decide)).then_ fun _ _ _ => ha.more_ (fun k k' hk => add_lv (ND.mk (by rw [hk]; rfl))) fun k => add_dd _) s s' h
theorem items_dd (a : M Nat) (n : Nat) : ∀ (m : Nat) (ks : List Nat), Dd false (itemsF a n m ks)
  | 0, _ => Dd.err fun _ _ => ⟨_, rfl⟩
  | m + 1, ks => fun s hs b s1 e => by
    unfold itemsF at e
    rw [hs.isT (by decide), if_neg (by decide)] at e
    exact Dd.fail (item_dd a n) s hs b s1 e
include ha in
theorem items_lv {n n' : Nat} (hn : n ≤ n') : ∀ (m m' : Nat) (ks ks' : List Nat), m ≤ m' → VK pre ks ks' → Lv D Q pre true (VK pre) (itemsF a n m ks) (itemsF a' n' m' ks')
  | 0, _, _, _, _, _ => fun _ _ _ => res_zero
  | m + 1, 0, _, _, hm, _ => absurd hm (by omega)
  | m + 1, m' + 1, ks, ks', hm, hk => fun s s' h => by
    show Res D Q pre true (VK pre) (if isT kESAC s = true then _ else _) (if isT kESAC s' = true then _ else _)
    rw [h.isT]
    by_cases e : isT kESAC s = true
    · rw [if_pos e, if_pos e]; exact res_ok hk h
    · rw [if_neg e, if_neg e]
      refine res_more (item_lv ha hn s s' h) (q := true) (fun k k' hkk => (passed_lv (by decide)).then_ fun b b' hb => ?_) fun k => (passed_dd (by decide)).bnd fun b => ?_
      · have hks : VK pre (ks ++ [k]) (ks' ++ [k']) := by unfold VK at *; rw [hk, hkk, List.map_append]; rfl
        subst hb
        cases b with
        | true => exact lines_lv.need_ (fun _ _ _ => items_lv hn m m' _ _ (by omega) hks) fun _ => items_dd a n m _
        | false => exact (Lv.ret hks).weak
      · cases b with
        | true => exact lines_dd.bnd fun _ => (items_dd a n m _).mono
        | false => exact Dd.ret _
theorem mtch_dd (a : M Nat) (n : Nat) : Dd false (mtch a n) := Dd.fail (need_dd (by decide))
include ha in
theorem mtch_lv {n n' : Nat} (hn : n ≤ n') : Lv D Q pre false (VN pre) (mtch a n) (mtch a' n') := (need_lv (by decide)).then_ fun _ _ _ => word_lv.then_ fun w w' hw => by
  rw [hw.1.text]
  exact lines_lv.need_ (fun _ _ _ => (need_lv (by decide)).then_ fun _ _ _ => lines_lv.need_ (fun _ _ _ => (items_lv ha hn n n' [] [] hn rfl).need_ (fun ks ks' hks => (need_lv (by decide)).then_ fun _ _ _ => Lv.ret (ND.mk hks)) fun _ => Dd.fail (need_dd (by decide))) fun _ => Dd.fail (items_dd a n n [])) fun _ => Dd.fail (need_dd (by decide))
include ha in
theorem read_lv {n n' : Nat} (hn : n ≤ n') (t : L) {s s' : St} (h : Live D Q pre s s') (ht : (hd s).text ≠ []) : Res D Q pre false (VN pre) (read a n t s) (read a' n' t s') := by
  unfold read
  by_cases e1 : t = [123]
  · rw [if_pos e1, if_pos e1]; exact group_lv ha s s' h
  rw [if_neg e1, if_neg e1]
  by_cases e2 : t = [40]
  · rw [if_pos e2, if_pos e2]; exact sub_lv ha s s' h
  rw [if_neg e2, if_neg e2]
  by_cases e3 : t = kIF
  · rw [if_pos e3, if_pos e3]; exact choice_lv ha hn h ht
  rw [if_neg e3, if_neg e3]
  by_cases e4 : t = kWHILE
  · rw [if_pos e4, if_pos e4]; exact loop_lv ha h ht
  rw [if_neg e4, if_neg e4]
  by_cases e5 : t = kUNTIL
  · rw [if_pos e5, if_pos e5]; exact loop_lv ha h ht
  rw [if_neg e5, if_neg e5]
  by_cases e6 : t = kFOR
  · rw [if_pos e6, if_pos e6]; exact each_lv ha s s' h
  rw [if_neg e6, if_neg e6]
  exact mtch_lv ha hn s s' h
theorem comp_dd (a : M Nat) (n : Nat) : Dd false (compound a n) := Dd.err fun s hs => by
  unfold compound
  rw [hs.comp, if_neg (by decide)]
  exact ⟨_, rfl⟩
include ha in
theorem comp_lv {n n' : Nat} (hn : n ≤ n') : Lv D Q pre false (VI pre) (compound a n) (compound a' n') := fun s s' h => by
  unfold compound
  rw [h.at.2.2.2, h.d, h.hd.text]
  by_cases e : isComp (hd s).text = true
  · rw [if_pos e, if_pos e]
    by_cases e4 : s.d = 40
    · rw [if_pos e4, if_pos e4]; exact res_err
    · rw [if_neg e4, if_neg e4]
      refine res_then (read_lv ha hn (hd s).text (s := { s with d := s.d + 1 }) (s' := { s' with d := s.d + 1 }) ⟨h.rel, h.on, rfl, h.ns⟩ (isComp_ne e)) fun nd nd' hnd s2 s2' h2 => ?_
      refine (redF_lv n n' [] hn).then_ (fun rs rs' hrs => ?_) { s2 with d := s2.d - 1 } { s2' with d := s2'.d - 1 } ⟨h2.rel, h2.on, by simp only [h2.d], h2.ns⟩
      subst hrs
      exact add_lv (hnd.redirs _ _ _)
  · rw [if_neg e, if_neg e]; exact res_err
theorem func_dd (a : M Nat) (n : Nat) : Dd false (func a n) := fun s hs b s1 e => by
  unfold func at e
  by_cases e4 : s.d = 40
  · rw [if_pos e4] at e; cases e
  · rw [if_neg e4] at e
    exact Dd.fail (need_dd (by decide)) (go { s with d := s.d + 1 }) hs.tail b s1 e
include ha in
theorem func_lv {n n' : Nat} (hn : n ≤ n') {s s' : St} (h : Live D Q pre s s') (ht : (hd s).text ≠ []) : Res D Q pre false (VI pre) (func a n s) (func a' n' s') := by
  unfold func
  rw [h.d, h.hd.text]
  by_cases e4 : s.d = 40
  · rw [if_pos e4, if_pos e4]; exact res_err
  · rw [if_neg e4, if_neg e4]
    have h0 : Live D Q pre { s with d := s.d + 1 } { s' with d := s.d + 1 } := ⟨h.rel, h.on, rfl, h.ns⟩
    refine ((need_lv (by decide)).then_ fun _ _ _ => (need_lv (by decide)).then_ fun _ _ _ => lines_lv.need_ (fun _ _ _ => (comp_lv ha hn).then_ fun k k' hk s2 s2' h2 => ?_) fun _ => Dd.fail (comp_dd a n)) _ _ (h0.step ht)
    exact add_lv (ND.mk (by rw [hk]; rfl)) { s2 with d := s2.d - 1 } { s2' with d := s2'.d - 1 } ⟨h2.rel, h2.on, by simp only [h2.d], h2.ns⟩
theorem cmd_dd (a : M Nat) (n : Nat) : Dd false (command a n) := fun s hs b s1 e => by
  unfold command at e
  rw [hs.func, if_neg (by decide), hs.simple, if_neg (by decide)] at e
  exact comp_dd a n s hs b s1 e
include ha in
theorem cmd_lv {n n' : Nat} (hn : n ≤ n') : Lv D Q pre false (VI pre) (command a n) (command a' n') := fun s s' h => by
  unfold command
  rw [h.func, h.at.2.1]
  by_cases e : atFunc s = true
  · rw [if_pos e, if_pos e]
    refine func_lv ha hn h fun e1 => ?_
    unfold atFunc at e
    rw [e1, nameB_nil] at e
    cases e
  · rw [if_neg e, if_neg e]
    by_cases e2 : atSimple s = true
    · rw [if_pos e2, if_pos e2]; exact simple_lv hn s s' h
    · rw [if_neg e2, if_neg e2]; exact comp_lv ha hn s s' h
theorem pipeF_dd (a : M Nat) (n : Nat) : ∀ (m : Nat) (ks : List Nat), Dd true (pipeF a n m ks)
  | 0, _ => Dd.err fun _ _ => ⟨_, rfl⟩
  | m + 1, ks => (passed_dd (by decide)).bnd fun b => by
    cases b with
    | true => exact (show Dd true (bnd lines fun _ => bnd (command a n) fun k => pipeF a n m (ks ++ [k])) from lines_dd.bnd fun _ => Dd.fail (cmd_dd a n))
    | false => exact Dd.ret _
include ha in
theorem pipeF_lv {n n' : Nat} (hn : n ≤ n') : ∀ (m m' : Nat) (ks ks' : List Nat), m ≤ m' → VK pre ks ks' → Lv D Q pre false (VK pre) (pipeF a n m ks) (pipeF a' n' m' ks')
  | 0, _, _, _, _, _ => fun _ _ _ => res_zero
  | m + 1, 0, _, _, hm, _ => absurd hm (by omega)
  | m + 1, m' + 1, ks, ks', hm, hk => (passed_lv (by decide)).then_ fun b b' hb => by
    subst hb
    cases b with
    | true =>
      have hks : ∀ k k', VI pre k k' → VK pre (ks ++ [k]) (ks' ++ [k']) := fun k k' hkk => by unfold VK at *; rw [hk, hkk, List.map_append]; rfl
      exact lines_lv.need_ (fun _ _ _ => (cmd_lv ha hn).then_ fun k k' hkk => pipeF_lv hn m m' _ _ (by omega) (hks k k' hkk)) fun _ => Dd.fail (cmd_dd a n)
    | false => exact Lv.ret hk
theorem pl_dd (a : M Nat) (n : Nat) : Dd false (pipeline a n) := fun s hs b s1 e => ((passed_dd (t := [33]) (by decide)).bnd fun _ => Dd.fail (cmd_dd a n)) s hs b s1 e
include ha in
theorem pl_lv {n n' : Nat} (hn : n ≤ n') : Lv D Q pre false (VI pre) (pipeline a n) (pipeline a' n') := fun s s' h =>
  ((passed_lv (by decide)).then_ fun f f' hf => (cmd_lv ha hn).then_ fun k k' hk => (pipeF_lv ha hn n n' [k] [k'] hn (by rw [hk]; rfl)).then_ fun ks ks' hks => by
    subst hf
    unfold VK at hks
    have hl : ks'.length = ks.length := by rw [hks, List.length_map]
    by_cases e : f = false ∧ ks.length = 1
    · rw [if_pos e, if_pos (show f = false ∧ ks'.length = 1 by rw [hl]; exact e)]
      refine Lv.ret ?_
      rw [hks]
      match ks, e.2 with
      | [x], _ => rfl
    · rw [if_neg e, if_neg (show ¬ (f = false ∧ ks'.length = 1) by rw [hl]; exact e)]
      exact add_lv (ND.mk hks)) s s' h
theorem ao_dd (a : M Nat) (n ln : Nat) : ∀ (m i : Nat), Dd true (aoF a n ln m i)
  | 0, _ => Dd.err fun _ _ => ⟨_, rfl⟩
  | m + 1, i => fun s hs b s1 e => by
    unfold aoF at e
    rw [hs.isT (by decide), hs.isT (by decide), if_neg (by decide)] at e
    cases e
    exact ⟨rfl, hs⟩
include ha in
theorem ao_lv {n n' : Nat} (hn : n ≤ n') (ln ln' : Nat) : ∀ (m m' i i' : Nat), m ≤ m' → VI pre i i' → Lv D Q pre false (VI pre) (aoF a n ln m i) (aoF a' n' ln' m' i')
  | 0, _, _, _, _, _ => fun _ _ _ => res_zero
  | m + 1, 0, _, _, hm, _ => absurd hm (by omega)
  | m + 1, m' + 1, i, i', hm, hi => fun s s' h => by
    unfold aoF
    rw [h.isT, h.isT]
    by_cases e : isT [38, 38] s = true ∨ isT [124, 124] s = true
    · rw [if_pos e, if_pos e]
      have ht : (hd s).text ≠ [] := by
        rcases e with e | e
        · exact isT_text e (by decide)
        · exact isT_text e (by decide)
      exact (lines_lv.need_ (fun _ _ _ => (pl_lv ha hn).then_ fun j j' hj => (add_lv (ND.mk (by rw [hi, hj]; rfl))).then_ fun k k' hk => ao_lv hn ln ln' m m' k k' (by omega) hk) fun _ => Dd.fail (pl_dd a n)) _ _ (h.step ht)
    · rw [if_neg e, if_neg e]; exact res_ok hi h
theorem andOr_dd (a : M Nat) (n : Nat) : Dd false (andOr a n) := fun s hs b s1 e => Dd.fail (pl_dd a n) s hs b s1 e
include ha in
theorem andOr_lv {n n' : Nat} (hn : n ≤ n') : Lv D Q pre false (VI pre) (andOr a n) (andOr a' n') := fun s s' h =>
  ((pl_lv ha hn).then_ fun i i' hi => ao_lv ha hn _ _ n n' i i' hn hi) s s' h
theorem listF_dd (a : M Nat) (n : Nat) : ∀ (m : Nat) (ks : List Nat), Dd true (listF a n m ks)
  | 0, _ => Dd.err fun _ _ => ⟨_, rfl⟩
  | m + 1, ks => fun s hs b s1 e => by
    unfold listF at e
    rw [hs.andOr, if_neg (by decide)] at e
    cases e
    exact ⟨rfl, hs⟩
include ha in
theorem listF_lv {n n' : Nat} (hn : n ≤ n') (P : List Nat) : ∀ (m m' : Nat) (ks ks' : List Nat), m ≤ m' → ks' = P ++ ks.map (· + pre.length) → Lv D Q pre true (fun ks ks' => ks' = P ++ ks.map (· + pre.length)) (listF a n m ks) (listF a' n' m' ks')
  | 0, _, _, _, _, _ => fun _ _ _ => res_zero
  | m + 1, 0, _, _, hm, _ => absurd hm (by omega)
  | m + 1, m' + 1, ks, ks', hm, hk => fun s s' h => by
    unfold listF
    rw [h.at.2.2.1]
    by_cases e : atAndOr s = true
    · rw [if_pos e, if_pos e]
      refine res_then (andOr_lv ha hn s s' h) fun k k' hkk => parted_lv.more_ (q := true) (fun b b' hb => ?_) fun b => ?_
      · have hks : ks' ++ [k'] = P ++ (ks ++ [k]).map (· + pre.length) := by rw [hk, hkk, List.map_append, ← List.append_assoc]; rfl
        subst hb
        cases b with
        | true => exact listF_lv hn P m m' _ _ (by omega) hks
        | false => exact (show Lv D Q pre false (fun ks ks' => ks' = P ++ ks.map (· + pre.length)) (ret (ks ++ [k])) (ret (ks' ++ [k'])) from Lv.ret hks).weak
      · cases b with
        | true => exact listF_dd a n m _
        | false => exact Dd.ret _
    · rw [if_neg e, if_neg e]; exact res_ok hk h
theorem anyL_dd (a : M Nat) (n : Nat) : Dd true (anyL a n) := lines_dd.bnd fun _ s hs b s1 e => ((listF_dd a n n []).bnd fun _ => add_dd _) s hs b s1 e
include ha in
theorem anyL_lv {n n' : Nat} (hn : n ≤ n') : Lv D Q pre true (VI pre) (anyL a n) (anyL a' n') :=
  lines_lv.more_ (q := true) (fun _ _ _ s s' h => ((listF_lv ha hn [] n n' [] [] hn rfl).more_ (fun _ _ hks => add_lv (ND.mk hks)) fun _ => add_dd _) s s' h) fun _ s hs b s1 e => ((listF_dd a n n []).bnd fun _ => add_dd _) s hs b s1 e
end
theorem any_dd : ∀ n, Dd true (anyF n)
  | 0 => Dd.err fun _ _ => ⟨_, rfl⟩
  | n + 1 => anyL_dd (anyF n) (n + 1)
theorem any_lv {D : Prop} {Q : List Tok} {pre : List Node} : ∀ (n n' : Nat), n ≤ n' → Lv D Q pre true (VI pre) (anyF n) (anyF n')
  | 0, _, _ => fun _ _ _ => res_zero
  | n + 1, 0, hn => absurd hn (by omega)
  | n + 1, n' + 1, hn => anyL_lv (any_lv n n' (by omega)) hn
end Sx
end Go.Proofs.YtipojbknkfkgoaaGreatDoor
