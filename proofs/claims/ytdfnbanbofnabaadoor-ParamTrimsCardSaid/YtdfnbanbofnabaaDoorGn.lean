/- More of patterns: the document's way through a set, two patterns behind one another, quoted texts, the text of signs as a test. No premises. -/
import Derived.Test.YtdfnbanbofnabaaDoorGm
namespace Go.Proofs.YtdfnbanbofnabaaDoor.Gl
/-- What signs tell, as a test. -/
def tb : List Sg → L → Bool
  | [], s => s.isEmpty
  | x :: g, s => if isStar x = true then (List.range (s.length + 1)).any fun k => tb g (s.drop k) else match s with
    | [] => false
    | c :: s' => tk x c && tb g s'
theorem tb_star {x : Sg} {g : List Sg} {s : L} (h : isStar x = true) : tb (x :: g) s = (List.range (s.length + 1)).any fun k => tb g (s.drop k) := by
  cases s <;> simp [tb, h]
theorem tb_nil {x : Sg} {g : List Sg} (h : isStar x = false) : tb (x :: g) [] = false := by simp [tb, h]
theorem tb_one {x : Sg} {g : List Sg} {c : UInt8} {s : L} (h : isStar x = false) : tb (x :: g) (c :: s) = (tk x c && tb g s) := by simp [tb, h]
theorem tb_iff : ∀ (g : List Sg) (s : L), tb g s = true ↔ Tells g s
  | [], s => by simp [tb, Tells]
  | x :: g, s => by
    have ih := tb_iff g
    cases hx : isStar x with
    | true =>
      rw [tells_star hx, tb_star hx, List.any_eq_true]
      constructor
      · rintro ⟨k, hk, h⟩
        rw [List.mem_range] at hk
        exact ⟨k, by omega, (ih _).1 h⟩
      · rintro ⟨k, hk, h⟩
        exact ⟨k, by rw [List.mem_range]; omega, (ih _).2 h⟩
    | false =>
      rw [tells_one hx]
      cases s with
      | nil => rw [tb_nil hx]; simp
      | cons c s =>
        rw [tb_one hx, Bool.and_eq_true]
        constructor
        · rintro ⟨h1, h2⟩; exact ⟨c, s, rfl, h1, (ih _).1 h2⟩
        · rintro ⟨c', s', h1, h2, h3⟩
          simp only [List.cons.injEq] at h1
          obtain ⟨rfl, rfl⟩ := h1
          exact ⟨h2, (ih _).2 h3⟩
theorem tb_false {g : List Sg} {s : L} : tb g s = false ↔ ¬ Tells g s := by rw [← tb_iff]; simp
theorem tb_eq {g h : List Sg} {s t : L} (e : Tells g s ↔ Tells h t) : tb g s = tb h t := by
  rw [Bool.eq_iff_iff, tb_iff, tb_iff, e]
/-- The document's member: where it ends. -/
def mb (t m : L) (k : Nat) : Nat := if isAt t m (k + 1) 45 = true ∧ k + 2 < t.length ∧ isAt t m (k + 2) 93 = false then k + 3 else k + 1
theorem mb_gt (t m : L) (k : Nat) : k < mb t m k ∧ mb t m k ≤ k + 3 := by unfold mb; split <;> omega
theorem close_hit {t m : L} {k : Nat} (h : isAt t m k 93 = true) : close t m k = some k := close_some.2 ⟨Nat.le_refl _, h, fun j h1 h2 => by omega⟩
theorem close_skip {t m : L} {k : Nat} (h : isAt t m k 93 = false) : close t m k = close t m (k + 1) := by
  cases hc : close t m (k + 1) with
  | none =>
    rw [close_none] at hc ⊢
    intro j hj
    by_cases e : j = k
    · rw [e]; exact h
    · exact hc j (by omega)
  | some e =>
    rw [close_some] at hc ⊢
    refine ⟨by omega, hc.2.1, fun j h1 h2 => ?_⟩
    by_cases e : j = k
    · rw [e]; exact h
    · exact hc.2.2 j (by omega) h2
theorem close_end {t m : L} {k : Nat} (h : t.length ≤ k) : close t m k = none := close_none.2 fun j hj => by
  cases e : isAt t m j 93 with
  | false => rfl
  | true => have := isAt_lt e; omega
theorem dash_no {t m : L} {k : Nat} (h : isAt t m k 45 = true) : isAt t m k 93 = false := by
  cases e : isAt t m k 93 with
  | false => rfl
  | true => exact absurd (isAt_one h e) (by decide)
theorem close_mb (t m : L) (k : Nat) : close t m (mb t m k) = close t m (k + 1) := by
  unfold mb
  split
  · rename_i h
    rw [close_skip (dash_no h.1), close_skip h.2.2]
  · rfl
/-- Within a set the document's members are the chapter's. -/
theorem mb_mems {t m : L} {f k e : Nat} (hc : close t m (f + 1) = some e) (h1 : f ≤ k) (h2 : k < e) : mems t m k e = (t.getD k 0, t.getD (mb t m k - 1) 0) :: mems t m (mb t m k) e ∧ mb t m k ≤ e := by
  obtain ⟨g1, g2, g3⟩ := close_some.1 hc
  have he := isAt_lt g2
  by_cases hd : isAt t m (k + 1) 45 = true
  · have hne : k + 1 ≠ e := fun e1 => by rw [e1] at hd; exact absurd (isAt_one hd g2) (by decide)
    by_cases h3 : k + 2 < e
    · have hm : mb t m k = k + 3 := by unfold mb; rw [if_pos ⟨hd, by omega, g3 _ (by omega) h3⟩]
      rw [hm, mems_two hd h3]
      exact ⟨rfl, by omega⟩
    · have hm : mb t m k = k + 1 := by
        unfold mb
        rw [if_neg]
        rintro ⟨_, _, h4⟩
        rw [show k + 2 = e by omega, g2] at h4
        cases h4
      rw [hm, mems_one h2 (fun h => h3 h.2)]
      exact ⟨rfl, by omega⟩
  · have hm : mb t m k = k + 1 := by unfold mb; rw [if_neg (fun h => hd h.1)]
    rw [hm, mems_one h2 (fun h => hd h.1)]
    exact ⟨rfl, by omega⟩
/-- The last place of what may end a set, and one more. -/
def Last (t m : L) (n : Nat) : Prop := n ≤ t.length ∧ (0 < n → isAt t m (n - 1) 93 = true) ∧ ∀ j, n ≤ j → isAt t m j 93 = false
theorem last_none {t m : L} {n k : Nat} (h : Last t m n) (hk : n ≤ k) : close t m k = none := close_none.2 fun j hj => h.2.2 j (by omega)
theorem last_some {t m : L} {n k : Nat} (h : Last t m n) (hk : k < n) : ∃ e, close t m k = some e ∧ e < n := by
  cases hc : close t m k with
  | none =>
    have := close_none.1 hc (n - 1) (by omega)
    rw [h.2.1 (by omega)] at this
    cases this
  | some e =>
    refine ⟨e, rfl, ?_⟩
    obtain ⟨g1, g2, g3⟩ := close_some.1 hc
    by_cases he : e < n
    · exact he
    · rw [h.2.2 e (by omega)] at g2; cases g2
/-- The document's Plain. -/
def odd (t m : L) (i : Nat) : Bool := !isLit (sgAt t m i).1
theorem odd_next {t m : L} {i : Nat} (h : odd t m i = false) : (sgAt t m i).2 = i + 1 := by
  unfold odd sgAt at h
  unfold sgAt
  split
  · rfl
  · split
    · rfl
    · split
      · split
        · rfl
        · rename_i h1 h2 h3 _ e he
          rw [if_neg h1, if_neg h2, if_pos h3, he] at h
          simp [isLit] at h
      · rfl
theorem plain_all {t m : L} : ∀ (n i : Nat), t.length ≤ i + n → ((sgF t m i).all isLit = true ↔ ∀ j, i ≤ j → j < t.length → odd t m j = false)
  | 0, i, hn => by
    rw [sgF_end (by omega)]
    simp
    intro j h1 h2
    omega
  | n + 1, i, hn => by
    by_cases hi : i < t.length
    · rw [sgF_at hi, List.all_cons, Bool.and_eq_true]
      constructor
      · rintro ⟨h1, h2⟩ j h3 h4
        have ho : odd t m i = false := by unfold odd; rw [h1]; rfl
        rw [odd_next ho] at h2
        by_cases e : j = i
        · rw [e]; exact ho
        · exact (plain_all n (i + 1) (by omega)).1 h2 j (by omega) h4
      · intro h
        have ho := h i (Nat.le_refl _) hi
        rw [odd_next ho]
        exact ⟨by unfold odd at ho; simpa using ho, (plain_all n (i + 1) (by omega)).2 fun j h1 h2 => h j (by omega) h2⟩
    · rw [sgF_end (by omega)]
      simp
      intro j h1 h2
      omega
section
variable {pt pm qt qm : L}
theorem isAt_right (hl : pm.length = pt.length) (j : Nat) (c : UInt8) : isAt (pt ++ qt) (pm ++ qm) (pt.length + j) c = isAt qt qm j c := by
  unfold isAt
  rw [List.getElem?_append_right (by omega), List.getElem?_append_right (by omega), show pt.length + j - pt.length = j by omega, show pt.length + j - pm.length = j by omega]
theorem isAt_left (hl : pm.length = pt.length) {j : Nat} (hj : j < pt.length) (c : UInt8) : isAt (pt ++ qt) (pm ++ qm) j c = isAt pt pm j c := by
  unfold isAt
  rw [List.getElem?_append_left hj, List.getElem?_append_left (by omega)]
theorem getD_right (j : Nat) : (pt ++ qt).getD (pt.length + j) 0 = qt.getD j 0 := by
  rw [List.getD_eq_getElem?_getD, List.getElem?_append_right (by omega), show pt.length + j - pt.length = j by omega, List.getD_eq_getElem?_getD]
theorem getD_left {j : Nat} (hj : j < pt.length) : (pt ++ qt).getD j 0 = pt.getD j 0 := by
  rw [List.getD_eq_getElem?_getD, List.getElem?_append_left hj, List.getD_eq_getElem?_getD]
theorem close_right (hl : pm.length = pt.length) (k : Nat) : close (pt ++ qt) (pm ++ qm) (pt.length + k) = (close qt qm k).map (pt.length + ·) := by
  cases hc : close qt qm k with
  | none =>
    rw [Option.map_none, close_none]
    intro j hj
    rw [show j = pt.length + (j - pt.length) by omega, isAt_right hl]
    exact close_none.1 hc _ (by omega)
  | some e =>
    obtain ⟨g1, g2, g3⟩ := close_some.1 hc
    rw [Option.map_some, close_some]
    refine ⟨by omega, by rw [isAt_right hl]; exact g2, fun j h1 h2 => ?_⟩
    rw [show j = pt.length + (j - pt.length) by omega, isAt_right hl]
    exact g3 _ (by omega) (by omega)
theorem mem_right (hl : pm.length = pt.length) (e : Nat) : ∀ (f a : Nat), mem (pt ++ qt) (pm ++ qm) (pt.length + e) f (pt.length + a) = mem qt qm e f a
  | 0, _ => rfl
  | f + 1, a => by
    unfold mem
    rw [Nat.add_assoc pt.length a 1, Nat.add_assoc pt.length a 2, Nat.add_assoc pt.length a 3, isAt_right hl, getD_right, getD_right, mem_right hl e f, mem_right hl e f]
    simp only [Nat.add_lt_add_iff_left]
theorem sgAt_right (hl : pm.length = pt.length) (i : Nat) : sgAt (pt ++ qt) (pm ++ qm) (pt.length + i) = ((sgAt qt qm i).1, pt.length + (sgAt qt qm i).2) := by
  have hf : fst (pt ++ qt) (pm ++ qm) (pt.length + i) = pt.length + fst qt qm i := by
    unfold fst
    rw [Nat.add_assoc, isAt_right hl]
    split <;> omega
  unfold sgAt
  rw [hf, Nat.add_assoc, Nat.add_assoc, isAt_right hl, isAt_right hl, isAt_right hl, isAt_right hl, getD_right, close_right hl]
  split
  · rfl
  · split
    · rfl
    · split
      · cases hc : close qt qm (fst qt qm i + 1) with
        | none => rfl
        | some e =>
          simp only [Option.map_some, Prod.mk.injEq, Sg.set.injEq, true_and]
          refine ⟨?_, by omega⟩
          unfold mems
          rw [show pt.length + e - (pt.length + fst qt qm i) = e - fst qt qm i by omega, mem_right hl]
      · rfl
theorem sgF_right (hl : pm.length = pt.length) : ∀ (n i : Nat), qt.length ≤ i + n → sgF (pt ++ qt) (pm ++ qm) (pt.length + i) = sgF qt qm i
  | 0, i, h => by rw [sgF_end (t := qt) (by omega), sgF_end (t := pt ++ qt) (by rw [List.length_append]; omega)]
  | n + 1, i, h => by
    by_cases hi : i < qt.length
    · have hn := sgAt_next (m := qm) hi
      rw [sgF_at hi, sgF_at (by rw [List.length_append]; omega), sgAt_right hl]
      simp only
      rw [sgF_right hl n _ (by omega)]
    · rw [sgF_end (t := qt) (by omega), sgF_end (t := pt ++ qt) (by rw [List.length_append]; omega)]
/-- No set begins in a pattern: its signs stand as they are, whatever follows. -/
theorem sgF_app (hl : pm.length = pt.length) (ho : ∀ i : Nat, pt[i]? ≠ some 91) : ∀ (n i : Nat), pt.length ≤ i + n → i ≤ pt.length → sgF (pt ++ qt) (pm ++ qm) i = sgF pt pm i ++ sgF qt qm 0
  | 0, i, h, h2 => by
    have : i = pt.length + 0 := by omega
    rw [this, sgF_right hl qt.length 0 (by omega), sgF_end (t := pt) (by omega)]
    rfl
  | n + 1, i, h, h2 => by
    by_cases hi : i < pt.length
    · have hb : isAt pt pm i 91 = false := by
        unfold isAt
        have := ho i
        cases e : (pt[i]? == some 91) with
        | false => rfl
        | true => exact absurd (beq_iff_eq.1 e) this
      have e1 : sgAt (pt ++ qt) (pm ++ qm) i = sgAt pt pm i := by
        unfold sgAt
        rw [isAt_left hl hi, isAt_left hl hi, isAt_left hl hi, hb, getD_left hi]
        rfl
      have e2 : (sgAt pt pm i).2 = i + 1 := by
        unfold sgAt
        rw [hb]
        split
        · rfl
        · split <;> rfl
      rw [sgF_at hi, sgF_at (by rw [List.length_append]; omega), e1, e2, sgF_app hl ho n (i + 1) (by omega) (by omega)]
      rfl
    · have : i = pt.length + 0 := by omega
      rw [this, sgF_right hl qt.length 0 (by omega), sgF_end (t := pt) (by omega)]
      rfl
end
/-- Quoted bytes are themselves. -/
theorem sgF_lits {t m : L} : ∀ (n i : Nat), i + n ≤ t.length → (∀ j, i ≤ j → j < i + n → m[j]? = some 113) → sgF t m i = ((t.drop i).take n).map .lit ++ sgF t m (i + n)
  | 0, i, _, _ => by simp
  | n + 1, i, h, hq => by
    have hi : i < t.length := by omega
    have hz : ∀ c, isAt t m i c = false := fun c => by
      unfold isAt
      rw [hq i (Nat.le_refl _) (by omega)]
      simp
    have e1 : sgAt t m i = (.lit (t.getD i 0), i + 1) := by
      unfold sgAt
      rw [hz, hz, hz]
      rfl
    rw [sgF_at hi, e1]
    simp only
    rw [sgF_lits n (i + 1) (by omega) (fun j h1 h2 => hq j (by omega) (by omega)), List.drop_eq_getElem_cons hi, List.take_succ_cons, List.map_cons, show i + 1 + n = i + (n + 1) by omega, List.getD_eq_getElem?_getD, List.getElem?_eq_getElem hi]
    rfl
theorem free_lits (s : L) : Free (s.map Sg.lit) := by
  intro x hx
  obtain ⟨c, _, rfl⟩ := List.mem_map.1 hx
  rfl
theorem bg_lits : ∀ (s t : L), bg (s.map Sg.lit) t = true ↔ s.length ≤ t.length ∧ t.take s.length = s
  | [], t => by simp [bg]
  | c :: s, [] => by simp [bg]
  | c :: s, d :: t => by
    have ih := bg_lits s t
    simp only [List.map_cons, bg, tk, Bool.and_eq_true, beq_iff_eq, List.length_cons, List.take_succ_cons, Nat.add_le_add_iff_right, List.cons.injEq]
    rw [ih]
    constructor
    · rintro ⟨h1, h2, h3⟩; exact ⟨h2, h1.symm, h3⟩
    · rintro ⟨h1, h2, h3⟩; exact ⟨h2.symm, h1, h3⟩
theorem tells_lits (s t : L) : Tells (s.map Sg.lit) t ↔ s = t := by
  have := free_app (h := []) (s.map Sg.lit) t (free_lits s)
  rw [List.append_nil] at this
  rw [this, bg_lits]
  constructor
  · rintro ⟨⟨h1, h2⟩, h3⟩
    have h3 : t.drop (s.map Sg.lit).length = [] := h3
    rw [List.length_map, List.drop_eq_nil_iff] at h3
    rw [List.take_of_length_le h3] at h2
    exact h2.symm
  · rintro rfl
    refine ⟨⟨Nat.le_refl _, List.take_length ..⟩, ?_⟩
    show s.drop (s.map Sg.lit).length = []
    simp
theorem tells_any (t : L) : Tells [.star] t := (tells_star rfl).2 ⟨t.length, Nat.le_refl _, by rw [List.drop_length]; exact rfl⟩
theorem tells_begins (s t : L) : Tells (s.map Sg.lit ++ [.star]) t ↔ s.length ≤ t.length ∧ t.take s.length = s := by
  rw [free_app _ _ (free_lits s), bg_lits]
  exact ⟨fun h => h.1, fun h => ⟨h, tells_any _⟩⟩
theorem tells_has (s t : L) : Tells (.star :: (s.map Sg.lit ++ [.star])) t ↔ ∃ k, k + s.length ≤ t.length ∧ (t.drop k).take s.length = s := by
  rw [tells_star rfl]
  constructor
  · rintro ⟨k, hk, h⟩
    obtain ⟨h1, h2⟩ := (tells_begins _ _).1 h
    rw [List.length_drop] at h1
    exact ⟨k, by omega, h2⟩
  · rintro ⟨k, hk, h⟩
    exact ⟨k, by omega, (tells_begins _ _).2 ⟨by rw [List.length_drop]; omega, h⟩⟩
end Go.Proofs.YtdfnbanbofnabaaDoor.Gl
