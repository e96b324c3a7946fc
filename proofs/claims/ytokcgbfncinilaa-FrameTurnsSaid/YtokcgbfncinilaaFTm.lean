/- A row of frames of which one is turned is scanned up to that one. No premises. -/
import Derived.Test.YtokcgbfncinilaaFLw
import Derived.Test.YtokcgbfncinilaaTrn
namespace Go.Proofs.Ytokcgbfncinilaa
open Go.RowKit turning
theorem wrapi64_small {x : Int} (h0 : 0 ≤ x) (h1 : x ≤ 4611686018427387904) : IntKind.i64.wrap x = x := by rw [IntKind.wrap_i64]; omega
theorem scan_turned (ls : List (List UInt8)) (k : Nat) (hk : k < ls.length) (hr : ∀ r ∈ ls, r.length ≤ 65536) (m C : List UInt8) (b t f : Nat) (hf : k < f) (hml : m.length = ls[k].length + 4) (hb : b + 32 ≤ 8 * (ls[k].length + 4)) (ht0 : t ≠ 0) (ht : t < 4294967296)
    (h : Turned (ls[k] ++ tailL (crcL (headL ls[k]))) m b t 32) :
    scanF f ((ls.take k).flatMap frameL ++ numL ls[k].length ++ m ++ C) = (ls.take k, endF ls k, 12) := by
  have hne : numL ls[k].length ++ m ++ C ≠ [] := by
    intro h0
    have h1 := congrArg List.length h0
    have h2 := numL_ne ls[k].length
    rw [List.length_append, List.length_append, List.length_nil] at h1
    omega
  have htk := takeF_turned ls[k] m C b t (hr _ (List.getElem_mem hk)) hml hb ht0 ht fun p hp => h.2 p (by rw [List.length_append, tailL_length]; exact hp)
  rw [List.append_assoc, List.append_assoc, ← List.append_assoc (numL ls[k].length)]
  have hl : (ls.take k).length = k := by rw [List.length_take]; omega
  rw [scan_ahead (ls.take k) _ f (fun r hr' => hr r (List.mem_of_mem_take hr')) (by omega), hl]
  obtain ⟨g, hg⟩ : ∃ g, f - k = g + 1 := ⟨f - k - 1, by omega⟩
  rw [hg, scanF, if_neg hne, htk, if_pos (by simp)]
  simp [endF]
/-- All frames, about the one at k. -/
theorem frames_about (ls : List (List UInt8)) (k : Nat) (hk : k < ls.length) : ls.flatMap frameL = (ls.take k).flatMap frameL ++ numL ls[k].length ++ (ls[k] ++ tailL (crcL (headL ls[k]))) ++ (ls.drop (k + 1)).flatMap frameL := by
  conv => lhs; rw [← List.take_append_drop k ls]
  rw [List.flatMap_append, List.drop_eq_getElem_cons hk, flatF_cons]
  simp [frameL, headL]
theorem mid_get {P m C : List UInt8} {p j k : Nat} (hp : P.length = p) (hk : k = p + j) (hj : j < m.length) : ∃ h : k < (P ++ m ++ C).length, (P ++ m ++ C)[k] = m[j] := by
  subst hp
  subst hk
  refine ⟨by simp; omega, ?_⟩
  simp only [List.append_assoc]
  rw [List.getElem_append_right (by omega), List.getElem_append_left (by omega)]
  simp
theorem endF_ge (ls : List (List UInt8)) : ∀ j, j ≤ ls.length → 5 * j ≤ endF ls j
  | 0, _ => by omega
  | j + 1, h => by
    have h1 := endF_ge ls j (by omega)
    have h2 := numL_ne (ls[j]'(by omega)).length
    rw [endF_succ ls j (by omega)]; omega
theorem mid_set {P m C : List UInt8} {p j : Nat} (hp : P.length = p) (hj : j < m.length) (c : UInt8) : (P ++ m ++ C).set (p + j) c = P ++ m.set j c ++ C := by
  subst hp
  simp only [List.append_assoc]
  rw [List.set_append_right _ _ (by omega), Nat.add_sub_cancel_left, List.set_append_left _ _ hj]
end Go.Proofs.Ytokcgbfncinilaa
