/- A slice of structs with one field, that is a byte. No premises. -/
import Derived.Test.YtnffeeipnabdoaaArgs
import Derived.Deep.Slices
namespace Go.Proofs.Ytnffeeipnabdoaa
open Go.RowKit Go.ChangeShapes Go.WideShapes Go.ChangeAt Go.Deep
section
variable {H : Type} {enc : TypeId × Value → H} {P : Program} {w : World} {base : Nat} {spare : Nat → Bool} {held : Bool}
theorem rd_acts {t e f : TypeId} {f0 : Field} {a : Option Addr} {len cap : Nat} {d : DataW H} {p : List MemPlace} (ht : P.underlying t = some (.slice e)) (he : P.underlying e = some (.struct #[f0])) (hf0 : f0.type = f) (ho : f0.offset = 0) (hf : P.underlying f = some (.int .u8)) (hc : P.cellsOf e = 1) (hcf : P.cellsOf f = 1)
    (h : DataW.Trod enc P w base spare held t (.slice a len cap) d p) : ∃ bs : List UInt8, Rd w w.heap.size a len (bs.map bv) ∧ len ≤ cap ∧ cap ≤ maxLen := by
  obtain ⟨fuel, hfu⟩ := h
  rcases open_slice1 ht hc hfu with ⟨hcs, _⟩ | ⟨x, l, c, m, n, V, D, Pl, hcs, _, hl, hm, hmm, _, hcell⟩
  · simp [Value.cells] at hcs
    obtain ⟨rfl, rfl, rfl⟩ := hcs
    exact ⟨[], Rd.nil_, Nat.le_refl _, by simp [maxLen]⟩
  · simp [Value.cells] at hcs
    obtain ⟨rfl, rfl, rfl⟩ := hcs
    have hlm : len ≤ m := by rw [hmm]; split <;> omega
    have hb : ∀ i, i < len → ∃ b : UInt8, w.cell? (x.add i) = some (bv b) := by
      intro i hi
      obtain ⟨h1, h2⟩ := hcell i (by omega)
      obtain ⟨y0, n', _, _, hy⟩ := trod_struct1 he h2
      rw [hf0, ho, hcf] at hy
      obtain ⟨z, hz, _, hw⟩ := DataW.trod_int hf hy
      simp at hz
      obtain ⟨bs, hbs⟩ := bytes_of [z] (by intro q hq; simp at hq; subst hq; exact hw)
      match bs, hbs with
      | [b], hbs => exact ⟨b, by rw [h1, hz]; simp at hbs; rw [hbs]⟩
    obtain ⟨F, hF⟩ := choose_lt (α := UInt8) (p := fun i b => w.cell? (x.add i) = some (bv b)) hb
    refine ⟨(List.range len).map F, ⟨by simp, fun h0 => ⟨x, rfl, ?_, fun j u hu => ?_⟩⟩, hl, hm⟩
    · have := World.block_lt_of_cell? w _ (hF 0 h0)
      rwa [block_add] at this
    · rw [List.getElem?_map, List.getElem?_map] at hu
      by_cases hj : j < len
      · rw [List.getElem?_range hj] at hu
        simp at hu
        rw [hF j hj, hu]
      · rw [List.getElem?_eq_none (by simp; omega)] at hu
        cases hu
end
end Go.Proofs.Ytnffeeipnabdoaa
