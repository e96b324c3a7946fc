/- What the bound on the bulk of what is handed in gives of a slice of texts. -/
import Derived.Test.YteljmlodbnfhbaaRows
import Derived.Test.YteljmlodbnfhbaaArgs
namespace Go.Proofs.Yteljmlodbnfhbaa
open Go.RowKit Go.ChangeShapes Go.WideShapes Go.ChangeAt
theorem bulk_part {H : Type} {d : DataW H} {l : List (DataW H)} (h : d ∈ l) : Rows.uptoBulk d ≤ Rows.uptoBulkAll l := by
  induction l with
  | nil => cases h
  | cons x r ih =>
    simp only [Rows.uptoBulkAll]
    rcases List.mem_cons.1 h with e | e
    · subst e; omega
    · have := ih e; omega
theorem bulk_bound {H : Type} {l : List (DataW H)} (hk : Rows.uptoSmall H l = true) : Rows.uptoBulkAll l ≤ 1048576 := by simpa [Rows.uptoSmall] using hk
theorem bulk_strs {H : Type} : ∀ l : List ByteArray, Rows.uptoBulkAll (strs (H := H) l) = (l.map ByteArray.size).sum + l.length
  | [] => by simp [strs, Rows.uptoBulkAll]
  | s :: l => by
    have := bulk_strs (H := H) l
    simp only [strs, List.map_cons, Rows.uptoBulkAll, Rows.uptoBulk, List.sum_cons, List.length_cons] at this ⊢
    rw [this]
    have e : s.data.toList.length = s.size := rfl
    rw [e]; omega
section
variable {H : Type} {enc : TypeId × Value → H} {P : Program} {w : World} {base : Nat} {spare : Nat → Bool} {held : Bool}
theorem rd_strings_upto {t e : TypeId} {a : Option Addr} {len cap : Nat} {d : DataW H} {p : List MemPlace} (ht : P.underlying t = some (.slice e)) (he : P.underlying e = some .string) (hc : P.cellsOf e = 1)
    (h : DataW.Trod enc P w base spare held t (.slice a len cap) d p) : ∃ l : List ByteArray, Rd w w.heap.size a len (l.map Value.string) ∧ (∀ s ∈ l, s.size ≤ maxLen) ∧ len ≤ cap ∧ cap ≤ maxLen ∧ (l.map ByteArray.size).sum ≤ Rows.uptoBulk d := by
  obtain ⟨l, h1, h2, h3, h4⟩ := rd_strings ht he hc h
  refine ⟨l, h1, h2, h3, h4, ?_⟩
  obtain ⟨fuel, hf⟩ := h
  rcases open_strings ht he hc hf with ⟨hcs, _⟩ | ⟨x, l', c, zs, hcs, _, hl, hm, hz, hx, hcell, hwz⟩
  · simp [Value.cells] at hcs
    obtain ⟨rfl, rfl, rfl⟩ := hcs
    have : l = [] := List.eq_nil_of_length_eq_zero h1.len_map
    subst this; simp
  · simp [Value.cells] at hcs
    obtain ⟨rfl, rfl, rfl⟩ := hcs
    have hlz : len ≤ zs.length := by rw [hz]; split <;> omega
    simp only [Prod.mk.injEq] at hx
    obtain ⟨rfl, _⟩ := hx
    have hzl : zs.take len = l := by
      have hl2 := h1.len_map
      apply List.ext_getElem
      · simp; omega
      · intro i hi1 hi2
        have hil : i < len := by omega
        obtain ⟨ad, hi3, e1, _, e2⟩ := h1.at_map (k := i) hil
        injection e1 with e1
        subst e1
        have e3 := hcell i (by omega)
        rw [e2] at e3
        simp at e3
        rw [e3]
        simp [List.getElem?_eq_getElem (show i < zs.length by omega)]
    rw [hzl]
    have := bulk_strs (H := H) l
    simp only [Rows.uptoBulk]
    omega
end
end Go.Proofs.Yteljmlodbnfhbaa
