/- lexer's Name, and whether a byte may stand in one. No premises. -/
import Derived.Test.YtjidclefpmcgoaaDoorWm
import Derived.BigQuiet
namespace Go.Proofs.YtjidclefpmcgoaaDoor
open Go.RowKit Go.Maps
theorem toList_mkS (l : L) : (mkS l).toList = l := by
  rw [ByteArray.toList_eq]; simp [mkS]
namespace Ar
def letB (c : UInt8) : Bool := (decide (97 ≤ c) && decide (c ≤ 122)) || (decide (65 ≤ c) && decide (c ≤ 90)) || c == 95
def dig (c : UInt8) : Bool := decide (48 ≤ c) && decide (c ≤ 57)
def nm (c : UInt8) : Bool := letB c || dig c
/-- Is it a name? -/
def nameB (l : L) : Bool := match l with
  | [] => false
  | c :: _ => !dig c && l.all fun c => letB c || dig c
theorem byte_le (a c : UInt8) : decide (a ≤ c) = decide ((a.toNat : Int) ≤ (c.toNat : Int)) := by rw [decide_eq_decide, UInt8.le_iff_toNat_le]; omega
/-- []byte of a text: new memory, that reads as it. -/
theorem conv_str (W : World) (t : List UInt8) (N : Nat) (hN : N = W.heap.size) : ∃ c W', (convert 9 89 (.string (mkS t))).run Tryd.prog W = .ok (.slice (some ⟨N, 0, none⟩) t.length c) W' ∧ Later W W' ∧ Rd W' W'.heap.size (some ⟨N, 0, none⟩) t.length (t.map bv) := by
  subst hN
  have h := run_bytes_of_string W 9 89 5 (mkS t) Tryd.underlying9 Tryd.underlying89 Tryd.underlying5
  rw [mkS_size] at h
  refine ⟨_, _, h, Later.trans (Later.drew W) (Later.alloc _ _), by simp, fun h0 => ⟨_, rfl, by simp, fun j u hu => ?_⟩⟩
  rw [add_lit0]
  have hz : W.drew.heap.size = W.heap.size := rfl
  rw [← hz]
  rw [cell_of_row _ _ j _ _ _ (heap_alloc_new W.drew _)]
  rw [List.getElem?_map] at hu
  by_cases hj : j < t.length
  · rw [List.getElem?_eq_getElem hj] at hu
    simp at hu
    subst hu
    unfold bytesRow
    rw [Array.getElem?_append_left (by simp [mkS]; omega)]
    simp [mkS, hj, bv]
  · rw [List.getElem?_eq_none (by omega)] at hu
    cases hu
theorem sget0 (c : UInt8) (r : L) : ∃ h : 0 < (mkS (c :: r)).size, (mkS (c :: r))[0]'h = c := ⟨by rw [mkS_size]; simp, rfl⟩
theorem may_name (c : UInt8) : nameB [95, c] = nm c := by
  unfold nameB nm
  simp [show dig 95 = false by decide, show letB 95 = true by decide]
end Ar
end Go.Proofs.YtjidclefpmcgoaaDoor
