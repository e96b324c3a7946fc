/- Rows of the call's own that are written over, and appended to, one by one. No premises. -/
import Derived.Test.YtokcgbfncinilaaMat
import Derived.Laws.OwnMore
namespace Go.Proofs.Ytokcgbfncinilaa
open Go.RowKit
section
variable {W W' : World} {base : Nat} {v : Value} {rs : List Value} {ms : List (List UInt8)}
/-- The slice of rows itself lies as it lay where one row grows. -/
theorem Mat.keepV (h : Mat W base v rs ms) {r r' : Value} {n : Nat} {xs ys : List Value} (hro : W.ownsRow base 5 1 r n ys) (hg : Grew W W' base 5 r r' xs) : W'.ownsRow base 26 1 v rs.length rs := by
  refine own_same h.own fun g cur _ hgc => (hg.grown.block g (Array.getElem?_eq_some_iff.1 hgc).1 fun e => ?_).trans hgc
  rcases hro.2 with ⟨rfl, _⟩ | ⟨g', cap, cur', rfl, _, h2, _⟩
  · simp [Value.ownBlock] at e
  · simp [Value.ownBlock] at e
    subst e
    rw [h2] at hgc
    simp at hgc
/-- One row becomes another one. -/
theorem Mat.replace (h : Mat W base v rs ms) {W'' : World} {i : Nat} (hi : i < ms.length) {r r' : Value} (hr : rs[i]? = some r) {l' : List UInt8} (hg : Grew W W' base 5 r r' (l'.map bv))
    (hst : W''.ownsRow base 26 1 v rs.length (rs.set i r')) (hk : ∀ (g : Nat) (cur : Array Value), base ≤ g → W'.heap[g]? = some (.cells cur 5 (0, 0)) → W''.heap[g]? = some (.cells cur 5 (0, 0))) :
    Mat W'' base v (rs.set i r') (ms.set i l') := by
  have hir : i < rs.length := by rw [h.len]; exact hi
  refine ⟨by simpa using hst, by simp [h.len], fun j hj u hu => ?_, fun a b ra rb hab ha hb => ?_⟩
  · have hj' : j < ms.length := by simpa using hj
    by_cases e : i = j
    · subst e
      rw [List.getElem?_set_self hir] at hu
      cases hu
      simp only [List.getElem_set_self]
      have := own_same hg.own hk
      simpa using this
    · rw [List.getElem?_set_ne e] at hu
      rw [List.getElem_set_ne e]
      refine own_same ((h.row j hj' u hu).kept hg.grown ?_) hk
      cases hu' : u.ownBlock with
      | none => exact .inl rfl
      | some k => exact .inr fun e' => h.apart i j r u e hr hu k e'.symm hu'
  · have key : ∀ (k : Nat) (u : Value), (rs.set i r')[k]? = some u → (k = i ∧ u = r') ∨ (k ≠ i ∧ rs[k]? = some u) := fun k u hu => by
      by_cases e : i = k
      · subst e
        rw [List.getElem?_set_self hir] at hu
        cases hu
        exact .inl ⟨rfl, rfl⟩
      · rw [List.getElem?_set_ne e] at hu
        exact .inr ⟨fun e' => e e'.symm, hu⟩
    have far : ∀ (k : Nat) (u : Value), k ≠ i → rs[k]? = some u → Apart u r' := fun k u hki hu j h1 h2 => by
      have hl : k < ms.length := by rw [← h.len]; exact (List.getElem?_eq_some_iff.1 hu).1
      have h3 := ((h.row k hl u hu).lt j h1).2
      rcases hg.moved with h4 | ⟨q, h4, h5⟩
      · rw [h4] at h2
        exact h.apart k i u r hki hu hr j h1 h2
      · rw [h4] at h2; cases h2; omega
    rcases key a ra ha with ⟨h1, rfl⟩ | ⟨h1, h1'⟩ <;> rcases key b rb hb with ⟨h2, rfl⟩ | ⟨h2, h2'⟩
    · omega
    · exact (far b rb h2 h2').symm
    · exact far a ra h1 h1'
    · exact h.apart a b ra rb hab h1' h2'
/-- One byte of a row is written. -/
theorem Mat.setByte (h : Mat W base v rs ms) {i k g n c : Nat} (hi : i < ms.length) (hr : rs[i]? = some (.slice (some ⟨g, 0, none⟩) n c)) (b : UInt8) :
    Mat (W.setCell ⟨g, k, none⟩ (bv b)) base v rs (ms.set i (ms[i].set k b)) := by
  have hir : i < rs.length := by rw [h.len]; exact hi
  have ho := h.row i hi _ hr
  have hln : ms[i].length = n := by
    rcases ho.2 with ⟨h0, _⟩ | ⟨g', cap, cur, h0, _⟩
    · cases h0
    · injection h0
      rename_i h1 _; exact h1.symm
  rw [hln] at ho
  have hs := ho.stored k (bv b)
  have hg : Grew W (W.setCell ⟨g, k, none⟩ (bv b)) base 5 (.slice (some ⟨g, 0, none⟩) n c) (.slice (some ⟨g, 0, none⟩) n c) ((ms[i].set k b).map bv) :=
    ⟨by have := hs.1; rw [← List.map_set] at this; simpa [hln] using this, hs.2, .inl rfl⟩
  have hset : rs.set i (.slice (some ⟨g, 0, none⟩) n c) = rs := by
    apply List.ext_getElem?
    intro j
    by_cases e : i = j
    · subst e; rw [List.getElem?_set_self hir, hr]
    · rw [List.getElem?_set_ne e]
  have := h.replace hi hr hg (W'' := W.setCell ⟨g, k, none⟩ (bv b)) (by rw [hset]; exact h.keepV ho hg) (fun _ _ _ hgc => hgc)
  rwa [hset] at this
/-- A row has grown, and is stored. -/
theorem Mat.setRow (h : Mat W base v rs ms) {i g n c : Nat} (hv : v = .slice (some ⟨g, 0, none⟩) n c) (hi : i < ms.length) {r r' : Value} (hr : rs[i]? = some r) {l' : List UInt8} (hg : Grew W W' base 5 r r' (l'.map bv)) :
    Mat (W'.setCell ⟨g, i, none⟩ r') base v (rs.set i r') (ms.set i l') := by
  have hV := h.keepV (h.row i hi r hr) hg
  have hn : n = rs.length := by
    subst hv
    rcases hV.2 with ⟨h0, _⟩ | ⟨g', cap, cur, h0, _⟩
    · cases h0
    · injection h0
  subst hv
  subst hn
  have hs := hV.stored i r'
  refine h.replace hi hr hg hs.1 fun g' cur _ hgc => ?_
  have hne : g' ≠ g := by
    rintro rfl
    rcases hV.2 with ⟨h0, _⟩ | ⟨g2, cap, cur2, h0, _, h2, _⟩
    · cases h0
    · injection h0 with h1
      injection h1 with h1
      injection h1 with h1
      subst h1
      rw [h2] at hgc
      simp at hgc
  exact (hs.2.block g' (Array.getElem?_eq_some_iff.1 hgc).1 fun e => by injection e with e; exact hne e).trans hgc
end
end Go.Proofs.Ytokcgbfncinilaa
