/- The tree of two scripts, one behind the other. No premises. -/
import Derived.Test.YtipojbknkfkgoaaGreatDoorSxT
import Derived.Test.YtipojbknkfkgoaaGreatDoorSTwoM
namespace Go.Proofs.YtipojbknkfkgoaaGreatDoor
open Lx (Tok nl co)
namespace Sx
theorem Rel.dead {D : Prop} {Q r q : List Tok} (h : Rel D Q r q) (hd : D) (hr : Dead r) : q = Q := by
  cases h with
  | over _ _ => rfl
  | nil h1 => exact absurd hd h1
  | @tok t u p q h1 h2 h3 h4 h5 => exact absurd (hr t (by simp)).1 (h3 hd).2
  | @line t u p q h1 h2 h3 h4 h5 => have := (hr t (by simp)).1; rw [h1] at this; cases this
theorem Rel.not4 {D : Prop} {Q r q : List Tok} (h : Rel D Q r q) (hd : D) (on : ¬ Dead r) : (r.headD E).kind ≠ 4 := by
  cases h with
  | over _ h2 => exact absurd h2 on
  | nil h1 => exact absurd hd h1
  | tok h1 h2 h3 h4 h5 => exact (h3 hd).2
  | line h1 h2 h3 h4 h5 => intro h; rw [List.headD_cons, h1] at h; cases h
theorem good_head {t u : Tok} {r : List Tok} (h : good (t :: u :: r) = true) : t.kind ≠ 4 ∧ (t.kind = 5 → isArrow u.text = true) ∧ good (u :: r) = true := by
  simp only [good, Bool.and_eq_true, Bool.or_eq_true, bne_iff_ne, ne_eq] at h
  exact ⟨h.1.1, fun e => h.1.2.resolve_left (fun h2 => h2 e), h.2⟩
theorem arrow_line {u : Tok} (h : isArrow u.text = true) (hl : u.kind = 3 → u.text = []) : u.kind ≠ 3 := fun e => by rw [hl e] at h; cases h
/-- A script's own tokens are read alike. -/
theorem rel_self {r : List Tok} (hg : good r = true) (hl : ∀ t ∈ r, t.kind = 3 → t.text = []) : Rel False [] r r := by
  induction r with
  | nil => cases hg
  | cons t p ih =>
    cases p with
    | nil =>
      simp only [good, Bool.and_eq_true, beq_iff_eq] at hg
      exact .tok ⟨rfl, rfl, fun _ => rfl⟩ (by rw [hg.1]; decide) nofun (fun h => by rw [hg.1] at h; cases h) (.nil id)
    | cons u r =>
      obtain ⟨h1, h2, h3⟩ := good_head hg
      have h4 := ih h3 fun x hx => hl x (by simp [hx])
      by_cases hk : t.kind = 3
      · exact .line hk hk (hl t (by simp) hk) (hl t (by simp) hk) (h4.drop nofun)
      · exact .tok ⟨rfl, rfl, fun _ => rfl⟩ hk nofun (fun h5 => arrow_line (h2 h5) (hl u (by simp))) h4
theorem lined_tail {t : Tok} {p : List Tok} (h : Lx.Lined (t :: p)) (hp : p ≠ []) : Lx.Lined p := by
  obtain ⟨x, u, e, h1, h2⟩ := h
  cases x with
  | nil => cases e; exact absurd rfl hp
  | cons y x => cases e; exact ⟨x, u, rfl, h1, h2⟩
theorem lined_live {p : List Tok} (h : Lx.Lined p) (r : List Tok) : ¬ Dead (p ++ r) := fun hd => by
  obtain ⟨x, u, rfl, h1, _⟩ := h
  have := (hd u (by simp)).1
  rw [h1] at this
  cases this
/-- A script's tokens, and those of it and another one behind it. -/
theorem two_rel (ob : List Tok) : ∀ (q q' : List Tok), q'.map co = q.map co → good (q ++ [E]) = true → (∀ t ∈ q, t.kind = 3 → t.text = []) → Lx.Lined q → Rel True (dropL ob) (q ++ [E]) (q' ++ ob)
  | [], _, _, _, _, h => by obtain ⟨x, u, e, _⟩ := h; simp at e
  | t :: p, [], hc, _, _, _ => by simp at hc
  | t :: p, u :: p', hc, hg, hl, hd => by
    simp only [List.map_cons, List.cons.injEq] at hc
    obtain ⟨hc1, hc2⟩ := hc
    simp only [co, Prod.mk.injEq] at hc1
    obtain ⟨k1, k2, k3⟩ := hc1
    have hlt := hl t (by simp)
    cases p with
    | nil =>
      have hp' : p' = [] := by cases p' with
        | nil => rfl
        | cons _ _ => simp at hc2
      subst hp'
      have hk : t.kind = 3 := by
        obtain ⟨x, v, e, h1, _⟩ := hd
        cases x with
        | nil => cases e; exact h1
        | cons y x => simp at e
      refine .line hk (k1.trans hk) (hlt hk) (by rw [k2]; exact hlt hk) ?_
      show Rel True (dropL ob) (dropL [E]) (dropL ob)
      rw [show dropL [E] = [E] by rw [dropL, if_neg (by decide)]]
      exact .over trivial fun x hx => by rw [List.mem_singleton] at hx; subst hx; exact ⟨rfl, rfl⟩
    | cons v p =>
      have hne : v :: p ≠ [] := by simp
      have hd2 := lined_tail hd hne
      obtain ⟨g1, g2, g3⟩ := good_head (t := t) (u := v) (r := p ++ [E]) hg
      have ih := two_rel ob (v :: p) p' hc2 g3 (fun x hx => hl x (by simp [hx])) hd2
      have hlive := lined_live hd2 [E]
      by_cases hk : t.kind = 3
      · exact .line hk (k1.trans hk) (hlt hk) (by rw [k2]; exact hlt hk) (ih.drop fun _ => hlive)
      · exact .tok ⟨k1, k2, fun _ => k3⟩ hk (fun _ => ⟨hlive, g1⟩) (fun h5 => arrow_line (g2 h5) (hl v (by simp))) ih
/-- Nothing is moved. -/
theorem shift_none (ns : List Node) : (ns.map fun n => strip (shift ([] : List Node).length n)) = ns.map strip := List.map_congr_left fun n _ => by unfold shift strip; simp
/-- The top list: where the first script's run ends, the other run stands ahead of the second one. -/
theorem top_list {a a' : M Nat} {Q : List Tok} (hun : UnA a) (ha : Lv True Q [] true (VI []) a a') {F F' : Nat} (hF : F ≤ F') : ∀ (m : Nat) (ks : List Nat) (s s' : St) (ks1 : List Nat) (s1 : St) (m' : Nat),
    good s.r = true → listF a F m ks s = .ok (ks1, s1) → (hd s1).kind = 4 → ((Dead s.r ∧ s'.r = Q ∧ s'.d = s.d ∧ s'.ns.map strip = s.ns.map strip) ∨ Live True Q [] s s') → s.r.length ≤ m' →
    ∃ m'' s'', listF a' F' m' ks s' = listF a' F' m'' ks1 s'' ∧ s''.r = Q ∧ s''.d = s.d ∧ s''.ns.map strip = s1.ns.map strip ∧ m' + s1.r.length ≤ m'' + s.r.length ∧ 1 ≤ s1.r.length
  | 0, _, _, _, _, _, _, _, h, _, _, _ => by cases h
  | m + 1, ks, s, s', ks1, s1, m', hg, h, h4, hr, hm => by
    have hpos : 1 ≤ s.r.length := by
      cases e : s.r with
      | nil => rw [e] at hg; cases hg
      | cons _ _ => simp
    unfold listF at h
    rcases hr with ⟨h1, h2, h3, h5⟩ | hl
    · rw [h1.andOr, if_neg (by decide)] at h
      cases h
      exact ⟨m', s', rfl, h2, h3, h5, Nat.le_refl _, hpos⟩
    · by_cases e : atAndOr s = true
      · rw [if_pos e] at h
        obtain ⟨k, s2, hk, h⟩ := bnd_inv h
        obtain ⟨b, s3, hb, h⟩ := bnd_inv h
        have w1 := andOr_un hun F hg hk
        have w2 := (parted_un w1.gd hb).1
        have l1 := w1.len (by decide)
        have l2 := w2.le
        have hres := andOr_lv ha hF s s' hl
        rw [hk] at hres
        obtain ⟨hx, _⟩ | ⟨k', s2', hk', hv, hl2⟩ := hres
        · cases hx
        · have hkk : k' = k := by simpa [VI] using hv
          subst hkk
          unfold parted at hb
          by_cases e2 : isT [59] s2 = true ∨ (hd s2).kind = 3
          · rw [if_pos e2] at hb
            cases hb
            have e2' : isT [59] s2' = true ∨ (hd s2').kind = 3 := by rw [hl2.isT, hl2.hd.kind]; exact e2
            have hrel : Rel True Q (dl (go s2)).r (dl (go s2')).r := by
              by_cases hk3 : (hd s2).kind = 3
              · exact hl2.rel.taildrop hl2.on hk3
              · have hs := hl2.step (isT_text (e2.resolve_right hk3) (by decide))
                exact hs.rel.drop hs.on
            obtain ⟨m2, rfl⟩ : ∃ m2, m' = m2 + 1 := ⟨m' - 1, by omega⟩
            have hnext : (Dead (dl (go s2)).r ∧ (dl (go s2')).r = Q ∧ (dl (go s2')).d = (dl (go s2)).d ∧ (dl (go s2')).ns.map strip = (dl (go s2)).ns.map strip) ∨ Live True Q [] (dl (go s2)) (dl (go s2')) := by
              have hns : s2'.ns.map strip = s2.ns.map strip := by rw [hl2.ns, shift_none]; rfl
              by_cases hdd : Dead (dl (go s2)).r
              · exact .inl ⟨hdd, hrel.dead trivial hdd, hl2.d, hns⟩
              · exact .inr ⟨hrel, fun _ => hdd, hl2.d, hl2.ns⟩
            rw [if_pos rfl] at h
            obtain ⟨m'', s'', r1, r2, r3, r4, r5, r6⟩ := top_list hun ha hF m (ks ++ [k']) (dl (go s2)) (dl (go s2')) ks1 s1 m2 w2.gd h h4 hnext (by omega)
            refine ⟨m'', s'', ?_, r2, ?_, r4, by omega, r6⟩
            · rw [← r1]
              show (if atAndOr s' = true then _ else _) = _
              rw [hl.at.2.2.1, if_pos e, bnd_ok hk']
              show bnd parted _ s2' = _
              rw [bnd_ok (show parted s2' = .ok (true, dl (go s2')) from if_pos e2')]
              rfl
            · rw [r3]
              show s2.d = s.d
              exact w1.d
          · rw [if_neg e2] at hb
            cases hb
            rw [if_neg Bool.false_ne_true] at h
            cases h
            exact absurd h4 (hl2.rel.not4 trivial (hl2.on trivial))
      · rw [if_neg e] at h
        cases h
        exact absurd h4 (hl.rel.not4 trivial (hl.on trivial))
theorem parse_inv {ts : List Tok} {ns : List Node} (h : parse ts = .ok ns) : ∃ ks s1, listF (anyF ts.length) (ts.length + 1) (ts.length + 1) [] ⟨dropL ts, 0, []⟩ = .ok (ks, s1) ∧ (hd s1).kind = 4 ∧ ns = s1.ns ++ [{ kind := 5, kids := ks, left := (hd ⟨dropL ts, 0, []⟩).left }] := by
  unfold parse script at h
  cases e : bnd (anyF (ts.length + 1)) (fun _ => fun s => if (hd s).kind = 4 then .ok ((), s) else .error (20, (hd s).left)) ⟨ts, 0, []⟩ with
  | error x => rw [e] at h; cases h
  | ok x =>
    obtain ⟨u, s2⟩ := x
    rw [e] at h
    cases h
    obtain ⟨i, s3, h1, h2⟩ := bnd_inv e
    have h1 : bnd (listF (anyF ts.length) (ts.length + 1) (ts.length + 1) []) (fun ks => add { kind := 5, kids := ks, left := (hd ⟨dropL ts, 0, []⟩).left }) ⟨dropL ts, 0, []⟩ = .ok (i, s3) := h1
    obtain ⟨ks, s1, h3, h4⟩ := bnd_inv h1
    cases h4
    by_cases hk : (hd s1).kind = 4
    · have h2 : (if (hd s1).kind = 4 then (.ok ((), { s1 with ns := s1.ns ++ [{ kind := 5, kids := ks, left := (hd ⟨dropL ts, 0, []⟩).left }] }) : Except Er (Unit × St)) else .error (20, (hd s1).left)) = .ok (u, s2) := h2
      rw [if_pos hk] at h2
      cases h2
      exact ⟨ks, s1, h3, hk, rfl⟩
    · have h2 : (if (hd s1).kind = 4 then (.ok ((), { s1 with ns := s1.ns ++ [{ kind := 5, kids := ks, left := (hd ⟨dropL ts, 0, []⟩).left }] }) : Except Er (Unit × St)) else .error (20, (hd s1).left)) = .ok (u, s2) := h2
      rw [if_neg hk] at h2
      cases h2
theorem parse_of {ts : List Tok} {ks : List Nat} {s1 : St} (h : listF (anyF ts.length) (ts.length + 1) (ts.length + 1) [] ⟨dropL ts, 0, []⟩ = .ok (ks, s1)) (hk : (hd s1).kind = 4) : parse ts = .ok (s1.ns ++ [{ kind := 5, kids := ks, left := (hd ⟨dropL ts, 0, []⟩).left }]) := by
  have e : anyF (ts.length + 1) ⟨ts, 0, []⟩ = .ok (s1.ns.length, { s1 with ns := s1.ns ++ [{ kind := 5, kids := ks, left := (hd ⟨dropL ts, 0, []⟩).left }] }) := by
    show bnd (listF (anyF ts.length) (ts.length + 1) (ts.length + 1) []) (fun ks => add { kind := 5, kids := ks, left := (hd ⟨dropL ts, 0, []⟩).left }) ⟨dropL ts, 0, []⟩ = _
    rw [bnd_ok h]
    rfl
  unfold parse script
  rw [bnd_ok e]
  simp only [show (hd { s1 with ns := s1.ns ++ [{ kind := 5, kids := ks, left := (hd ⟨dropL ts, 0, []⟩).left }] }) = hd s1 from rfl, if_pos hk]
/-- Two scripts' nodes, one script's behind the other's, but for both lists, that become one. -/
def joined (xs ys : List Node) (kA kB : List Nat) : List Node := xs ++ ys.map (shift xs.length) ++ [{ kind := 5, kids := kA ++ kB.map (· + xs.length) }]
theorem parse_two {q q' ob : List Tok} {nsA nsB : List Node} (hc : q'.map co = q.map co) (hg : good (q ++ [E]) = true) (hl : ∀ t ∈ q, t.kind = 3 → t.text = []) (hq : Lx.Lined q) (hgb : good ob = true) (hlb : ∀ t ∈ ob, t.kind = 3 → t.text = [])
    (hA : parse (q ++ [E]) = .ok nsA) (hB : parse ob = .ok nsB) :
    ∃ xs ys kA kB lA lB nsV, nsA = xs ++ [{ kind := 5, kids := kA, left := lA }] ∧ nsB = ys ++ [{ kind := 5, kids := kB, left := lB }] ∧ parse (q' ++ ob) = .ok nsV ∧ nsV.map strip = (joined xs ys kA kB).map strip := by
  obtain ⟨kA, sA, a1, a2, a3⟩ := parse_inv hA
  obtain ⟨kB, sB, b1, b2, b3⟩ := parse_inv hB
  have hlen : q'.length = q.length := Lx.co_len hc
  have hrel := two_rel ob q q' hc hg hl hq
  have hlive := lined_live hq [E]
  have hdrop := hrel.drop fun _ => hlive
  have hst : (Dead (dropL (q ++ [E])) ∧ dropL (q' ++ ob) = dropL ob ∧ (0 : Nat) = 0 ∧ ([] : List Node).map strip = ([] : List Node).map strip) ∨ Live True (dropL ob) [] ⟨dropL (q ++ [E]), 0, []⟩ ⟨dropL (q' ++ ob), 0, []⟩ := by
    by_cases hdd : Dead (dropL (q ++ [E]))
    · exact .inl ⟨hdd, hdrop.dead trivial hdd, rfl, rfl⟩
    · exact .inr ⟨hdrop, fun _ => hdd, rfl, rfl⟩
  have hFF : (q ++ [E]).length + 1 ≤ (q' ++ ob).length + 1 := by
    have : 1 ≤ ob.length := by
      cases e : ob with
      | nil => rw [e] at hgb; cases hgb
      | cons _ _ => simp
    simp only [List.length_append, List.length_cons, List.length_nil, hlen]
    omega
  have hd1 : (dropL (q ++ [E])).length ≤ q.length + 1 := by have := (dropL_suf (q ++ [E])).length_le; simpa using this
  obtain ⟨m'', s'', r1, r2, r3, r4, r5, r6⟩ := top_list (anyF_un _) (any_lv (D := True) (Q := dropL ob) (pre := []) (q ++ [E]).length (q' ++ ob).length (by omega)) hFF ((q ++ [E]).length + 1) [] ⟨dropL (q ++ [E]), 0, []⟩ ⟨dropL (q' ++ ob), 0, []⟩ kA sA ((q' ++ ob).length + 1) (good_dropL hg) a1 a2 hst (by show (dropL (q ++ [E])).length ≤ _; simp only [List.length_append, hlen]; omega)
  have r5 : (q' ++ ob).length + 1 + sA.r.length ≤ m'' + (dropL (q ++ [E])).length := r5
  have hm'' : ob.length + 1 ≤ m'' := by simp only [List.length_append, hlen] at r5; omega
  have hliveB : Live False [] s''.ns ⟨dropL ob, 0, []⟩ s'' := ⟨by rw [r2]; exact (rel_self hgb hlb).drop nofun, nofun, r3, by simp⟩
  have hres := listF_lv (any_lv (D := False) (Q := []) (pre := s''.ns) ob.length (q' ++ ob).length (by simp)) (show ob.length + 1 ≤ (q' ++ ob).length + 1 by simp) kA (ob.length + 1) m'' [] kA hm'' (by simp) ⟨dropL ob, 0, []⟩ s'' hliveB
  rw [b1] at hres
  obtain ⟨_, hx, _⟩ | ⟨k2, s2, h1, h2, h3⟩ := hres
  · exact hx.elim
  · have hns : s''.ns.length = sA.ns.length := by have := congrArg List.length r4; simpa using this
    refine ⟨sA.ns, sB.ns, kA, kB, _, _, _, a3, b3, parse_of (r1.trans h1) (by rw [h3.hd.kind]; exact b2), ?_⟩
    unfold joined
    rw [List.map_append, h3.ns, List.map_append, List.map_append, r4, List.map_map, hns]
    congr 1
    rw [h2, hns]
    rfl
end Sx
namespace syntaxTwo
abbrev L := List UInt8
theorem lines_bare {s : L} {o : List Tok} (h : Lx.all s = .ok o) : ∀ t ∈ o, t.kind = 3 → t.text = [] := by
  obtain ⟨out, rfl, ho⟩ := Lx.isTok_all h
  intro t ht hk
  rcases List.mem_append.1 ht with ht | ht
  · rcases ho t ht with ⟨h1, _⟩ | ⟨h1, _⟩ | ⟨_, h1⟩ | h1
    · rw [h1] at hk; cases hk
    · rw [h1] at hk; cases hk
    · exact h1
    · rw [h1] at hk; cases hk
  · rw [List.mem_singleton] at ht; rw [ht]
theorem trees {a b : L} (ha : ∀ m, a ≠ m ++ [92]) {nsA nsB : List Sx.Node} (hA : Sx.tree (a ++ [10]) = .ok nsA) (hB : Sx.tree b = .ok nsB) :
    ∃ xs ys kA kB lA lB nsV, nsA = xs ++ [{ kind := 5, kids := kA, left := lA }] ∧ nsB = ys ++ [{ kind := 5, kids := kB, left := lB }] ∧ Sx.tree (a ++ 10 :: b) = .ok nsV ∧ nsV.map Sx.strip = (Sx.joined xs ys kA kB).map Sx.strip := by
  unfold Sx.tree at hA hB ⊢
  cases e1 : Lx.all (a ++ [10]) with
  | error x => rw [e1] at hA; cases hA
  | ok o =>
    cases e2 : Lx.all b with
    | error x => rw [e2] at hB; cases hB
    | ok ob =>
      rw [e1] at hA
      rw [e2] at hB
      obtain ⟨q, q', rfl, h2, h3, h4⟩ := Lx.all_two ha e1 e2
      rw [h4]
      exact Sx.parse_two h2 (Lx.all_good e1) (fun t ht => lines_bare e1 t (by simp [ht])) h3 (Lx.all_good e2) (lines_bare e2) hA hB
end syntaxTwo
end Go.Proofs.YtipojbknkfkgoaaGreatDoor
