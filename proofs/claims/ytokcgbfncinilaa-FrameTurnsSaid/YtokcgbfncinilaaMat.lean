/- A slice of slices of bytes, all of them the call's own, no two in one block. No premises. -/
import Derived.Test.YtokcgbfncinilaaSml
import Derived.Test.YtokcgbfncinilaaRng
import Derived.Deep.Onto
namespace Go.Proofs.Ytokcgbfncinilaa
open Go.RowKit
/-- Two values that lie in no block in common. -/
def Apart (a b : Value) : Prop := ∀ k, a.ownBlock = some k → b.ownBlock ≠ some k
theorem Apart.symm {a b : Value} (h : Apart a b) : Apart b a := fun k hk hk' => h k hk' hk
structure Mat (W : World) (base : Nat) (v : Value) (rs : List Value) (ls : List (List UInt8)) : Prop where
  own : W.ownsRow base 26 1 v rs.length rs
  len : rs.length = ls.length
  row : ∀ (j : Nat) (hj : j < ls.length) (r : Value), rs[j]? = some r → W.ownsRow base 5 1 r ls[j].length (ls[j].map bv)
  apart : ∀ (i j : Nat) (ri rj : Value), i ≠ j → rs[i]? = some ri → rs[j]? = some rj → Apart ri rj
/-- What the call owns stays so where the cells of its own blocks stay. -/
theorem own_same {W W' : World} {base n size : Nat} {e : TypeId} {v : Value} {xs : List Value} (h : W.ownsRow base e size v n xs)
    (hk : ∀ (g : Nat) (cur : Array Value), base ≤ g → W.heap[g]? = some (.cells cur e (0, 0)) → W'.heap[g]? = some (.cells cur e (0, 0))) : W'.ownsRow base e size v n xs := by
  refine ⟨h.1, ?_⟩
  rcases h.2 with h0 | ⟨g, cap, cur, h1, h2, h3, h4⟩
  · exact .inl h0
  · exact .inr ⟨g, cap, cur, h1, h2, hk g cur h2 h3, h4⟩
theorem Mat.nil (W : World) (base : Nat) : Mat W base (.slice none 0 0) [] [] :=
  ⟨World.ownsRow_nil W base _ 1, rfl, fun j hj => by simp at hj, fun i j ri rj _ h => by simp at h⟩
section
variable {W W' : World} {base : Nat} {v : Value} {rs : List Value} {ls : List (List UInt8)}
theorem Mat.same (h : Mat W base v rs ls) (hk : ∀ (g : Nat) (cur : Array Value) (e : TypeId), base ≤ g → W.heap[g]? = some (.cells cur e (0, 0)) → W'.heap[g]? = some (.cells cur e (0, 0))) : Mat W' base v rs ls :=
  ⟨own_same h.own fun g cur => hk g cur _, h.len, fun j hj r hr => own_same (h.row j hj r hr) fun g cur => hk g cur _, h.apart⟩
theorem Mat.below (h : Mat W base v rs ls) (hb : Below W.heap.size W W') : Mat W' base v rs ls :=
  h.same fun g _ _ _ hg => (hb.block g (Array.getElem?_eq_some_iff.1 hg).1).trans hg
theorem Mat.setLow (h : Mat W base v rs ls) {b : Nat} (hb : b < base) (u : Value) : Mat (W.setCell ⟨b, 0, none⟩ u) base v rs ls :=
  h.same fun g _ _ hg hgc => ((grownBy_setCell' W b u).block g (Array.getElem?_eq_some_iff.1 hgc).1 (fun e => by cases e; omega)).trans hgc
theorem Mat.turn {r : Rng} (h : Mat W base v rs ls) (ht : r.Turn W W') : Mat W' base v rs ls := by
  refine h.same fun g cur e _ hgc => (ht.grown.block g (Array.getElem?_eq_some_iff.1 hgc).1 fun e' => ?_).trans hgc
  obtain ⟨⟨x, y, hl, _⟩, _⟩ := ht
  cases e'
  rw [hl] at hgc; cases hgc
/-- One row more: the slice has grown by it. -/
theorem Mat.push (h : Mat W base v rs ls) {r v' : Value} {l : List UInt8} (hr : W.ownsRow base 5 1 r l.length (l.map bv)) (hap : ∀ (i : Nat) ri, rs[i]? = some ri → Apart ri r)
    (hg : Grew W W' base 26 v v' (rs ++ [r])) : Mat W' base v' (rs ++ [r]) (ls ++ [l]) := by
  have hkeep : ∀ {n : Nat} {u : Value} {xs : List Value}, W.ownsRow base 5 1 u n xs → W'.ownsRow base 5 1 u n xs := fun ho => by
    refine own_same ho fun g cur hb hgc => (hg.grown.block g (Array.getElem?_eq_some_iff.1 hgc).1 fun e => ?_).trans hgc
    rcases h.own.2 with ⟨rfl, _⟩ | ⟨g', cap, cur', rfl, _, h2, _⟩
    · simp [Value.ownBlock] at e
    · simp [Value.ownBlock] at e
      subst e
      rw [h2] at hgc
      simp at hgc
  refine ⟨hg.own, by simp [h.len], fun j hj r' hr' => ?_, fun i j ri rj hij hi hj => ?_⟩
  · by_cases hjl : j < ls.length
    · rw [List.getElem?_append_left (by have := h.len; omega)] at hr'
      rw [List.getElem_append_left hjl]
      exact hkeep (h.row j hjl r' hr')
    · have hj' : j = ls.length := by simp at hj; omega
      subst hj'
      rw [← h.len, List.getElem?_concat_length] at hr'
      cases hr'
      simp only [List.getElem_concat_length]
      exact hkeep hr
  · have key : ∀ (k : Nat) (u : Value), (rs ++ [r])[k]? = some u → (k < rs.length ∧ rs[k]? = some u) ∨ (k = rs.length ∧ u = r) := fun k u hu => by
      by_cases hk : k < rs.length
      · rw [List.getElem?_append_left hk] at hu; exact .inl ⟨hk, hu⟩
      · have hk2 := (List.getElem?_eq_some_iff.1 hu).1
        have hk' : k = rs.length := by simp at hk2; omega
        subst hk'
        rw [List.getElem?_concat_length] at hu
        cases hu
        exact .inr ⟨rfl, rfl⟩
    rcases key i ri hi with ⟨_, h1⟩ | ⟨h1, rfl⟩ <;> rcases key j rj hj with ⟨_, h2⟩ | ⟨h2, rfl⟩
    · exact h.apart i j ri rj hij h1 h2
    · exact hap i ri h1
    · exact (hap j rj h2).symm
    · omega
/-- It reads as its rows. -/
theorem Mat.rdL (h : Mat W base v rs ls) : ∃ A c, v = .slice A ls.length c ∧ ls.length ≤ c ∧ RdL W W.heap.size A ls.length ls := by
  obtain ⟨A, c, rfl, h1, h2, _⟩ := own_slice h.own
  rw [h.len] at h1 ⊢
  refine ⟨A, c, rfl, h1, rfl, fun j hj => ?_⟩
  have hjr : j < rs.length := by rw [h.len]; exact hj
  obtain ⟨ad, u, e1, e2, e3, e4⟩ := h2.at_ hjr
  have hrow := h.row j hj u e3
  have hlen : (ls[j].map bv).length = ls[j].length := by simp
  obtain ⟨A', c', rfl, h3, h4, _⟩ := own_map (f := bv) (xs := ls[j]) (by rw [hlen]; exact hrow)
  refine ⟨ad, A', _, c', e1, e2, e4, h4, ?_⟩
  rcases hrow.2 with ⟨_, h0⟩ | ⟨g, cap, cur, hv, _, _, h5, h6, _⟩
  · rw [h0]; simp [maxLen]
  · exact Nat.le_trans h5 h6
end
end Go.Proofs.Ytokcgbfncinilaa
