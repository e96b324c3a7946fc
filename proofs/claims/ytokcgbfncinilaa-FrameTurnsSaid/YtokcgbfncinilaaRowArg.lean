/- An argument that is a slice of slices of bytes, out of its reading. No premises. -/
import Derived.Test.YtokcgbfncinilaaArgs
import Derived.Test.YtokcgbfncinilaaSml
import Derived.Deep.Matrix
namespace Go.Proofs.Ytokcgbfncinilaa
open Go.RowKit Go.ChangeShapes Go.WideShapes Go.ChangeAt
theorem rd_rows {H : Type} {enc : TypeId × Value → H} {P : Program} {w : World} {base : Nat} {held : Bool} {t e q : TypeId} {a : Option Addr} {len cap : Nat} {d : DataW H} {p : List MemPlace}
    (ht : P.underlying t = some (.slice e)) (he : P.underlying e = some (.slice q)) (hq : P.underlying q = some (.int .u8)) (ce : P.cellsOf e = 1) (cq : P.cellsOf q = 1)
    (h : DataW.Trod enc P w base (fun _ => true) held t (.slice a len cap) d p) : ∃ ls : List (List UInt8), RdL w w.heap.size a len ls ∧ len ≤ cap ∧ cap ≤ maxLen := by
  obtain ⟨fuel, hf⟩ := h
  rcases Go.Deep.open_int_rows ht he hq ce cq hf with ⟨hcs, _⟩ | ⟨x, l, c, A, L, C, Z, hcs, _, hl, hm, _, hr⟩
  · simp [Value.cells] at hcs
    obtain ⟨rfl, rfl, rfl⟩ := hcs
    exact ⟨[], ⟨rfl, fun j hj => by simp at hj⟩, Nat.le_refl _, by simp [maxLen]⟩
  · simp [Value.cells] at hcs
    obtain ⟨rfl, rfl, rfl⟩ := hcs
    have each : ∀ r, ∃ bs : List UInt8, r < len → ((Z r).map (Value.int .u8) = bs.map bv) := by
      intro r
      by_cases h : r < len
      · obtain ⟨bs, hb⟩ := bytes_of (Z r) (hr r (by omega)).2.2.2.2.1
        exact ⟨bs, fun _ => hb⟩
      · exact ⟨[], fun h' => absurd h' h⟩
    have hB : ∀ r, (Classical.choose (each r)) = (Classical.choose (each r)) := fun _ => rfl
    refine ⟨(List.range len).map fun r => (Classical.choose (each r)).take (L r), ⟨by simp, fun j hj => ?_⟩, hl, hm⟩
    have hj' : j < len := by simpa using hj
    obtain ⟨h1, h2, h3, h4, h5, h6, h7⟩ := hr j (by omega)
    have hbs := Classical.choose_spec (each j) hj'
    refine ⟨x, A j, L j, C j, rfl, ?_, h1, ?_, by omega⟩
    · have := World.block_lt_of_cell? w _ h1
      rwa [block_add] at this
    · simp only [List.getElem_map, List.getElem_range]
      generalize Classical.choose (each j) = bs at hbs
      have hbl : bs.length = C j := by have := congrArg List.length hbs; simp at this; omega
      refine ⟨by simp; omega, fun h0 => ?_⟩
      rcases ha : A j with _ | a'
      · have := h6 ha; omega
      · have h8 := (h7 a' ha).2
        refine ⟨a', rfl, ?_, fun i u hu => ?_⟩
        · have := World.block_lt_of_cell? w _ (h8 0 (by omega))
          rwa [block_add] at this
        · rw [List.map_take, List.getElem?_take] at hu
          split at hu
          · rename_i hi
            rw [← hbs, List.getElem?_map, List.getElem?_eq_getElem (show i < (Z j).length by omega)] at hu
            simp at hu
            subst hu
            rw [h8 i (by omega)]
            simp [List.getD, List.getElem?_eq_getElem (show i < (Z j).length by omega)]
          · cases hu
end Go.Proofs.Ytokcgbfncinilaa
