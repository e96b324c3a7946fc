/- Sizes of few rows' frames; where a row of frames is cut. No premises. -/
import Derived.Test.YtokcgbfncinilaaFAw
namespace Go.Proofs.Ytokcgbfncinilaa
open Go.RowKit
theorem wrap64_small {x : Int} (h0 : 0 ≤ x) (h1 : x ≤ 4611686018427387904) : wrap64 x = x := by unfold wrap64; omega
/-- As values: such an equation is a rule for the walk, and omega does not look at it. -/
theorem wrap64_v {x : Int} (h0 : 0 ≤ x) (h1 : x ≤ 4611686018427387904) : Value.int .i64 (wrap64 x) = Value.int .i64 x := by rw [wrap64_small h0 h1]
theorem wrapu64_v {x : Nat} (h : x < 18446744073709551616) : Value.int .u64 (IntKind.u64.wrap (x : Int)) = Value.int .u64 (x : Int) := by rw [IntKind.wrap_u64]; congr 1; omega
theorem few_rows {n : Nat} {ls : List (List UInt8)} (h : fewB n ls = true) : n ≤ 20 ∧ ∀ r ∈ ls, r.length ≤ 600 := by
  unfold fewB at h
  rw [Bool.and_eq_true] at h
  exact ⟨of_decide_eq_true h.2, fun r hr => of_decide_eq_true (List.all_eq_true.1 h.1 r hr)⟩
theorem frame_small {r : List UInt8} (h : r.length ≤ 600) : (frameL r).length ≤ 614 ∧ (numL r.length).length ≤ 10 := by
  have := numL_ten (show r.length < 18446744073709551616 by omega)
  rw [frameL_len]; omega
theorem frames_small : ∀ {ls : List (List UInt8)}, (∀ r ∈ ls, r.length ≤ 600) → (ls.flatMap frameL).length ≤ 614 * ls.length
  | [], _ => by simp
  | r :: l, h => by
    have h1 := frames_small (ls := l) fun x hx => h x (List.mem_cons_of_mem _ hx)
    have h2 := (frame_small (h r (List.mem_cons_self ..))).1
    rw [flatF_cons, List.length_append, List.length_cons]; omega
/-- Where the first j frames end. -/
def endF (ls : List (List UInt8)) (j : Nat) : Nat := ((ls.take j).flatMap frameL).length
theorem endF_zero (ls : List (List UInt8)) : endF ls 0 = 0 := rfl
theorem endF_succ (ls : List (List UInt8)) (j : Nat) (h : j < ls.length) : endF ls (j + 1) = endF ls j + ((numL ls[j].length).length + ls[j].length + 4) := by
  unfold endF; rw [flatF_snoc ls j h, List.length_append, frameL_len]
theorem endF_le (ls : List (List UInt8)) (j : Nat) : endF ls j ≤ (ls.flatMap frameL).length := flat_take_len frameL ls j
theorem wholeF_le : ∀ (ls : List (List UInt8)) (k : Nat), wholeF ls k ≤ ls.length
  | [], _ => by simp [wholeF]
  | r :: l, k => by
    rw [wholeF]; split
    · simp
    · have := wholeF_le l (k - (frameL r).length); simp; omega
theorem whole_at : ∀ (ls : List (List UInt8)) (k j : Nat) (h : j < ls.length), j ≤ wholeF ls k → (k < endF ls j + (frameL ls[j]).length → wholeF ls k = j) ∧ (endF ls j + (frameL ls[j]).length ≤ k → j + 1 ≤ wholeF ls k)
  | [], _, _, h, _ => by simp at h
  | r :: l, k, 0, _, _ => by
    rw [endF_zero]
    simp only [List.getElem_cons_zero]
    constructor
    · intro h; rw [wholeF, if_pos (by omega)]
    · intro h; rw [wholeF, if_neg (by omega)]; omega
  | r :: l, k, j + 1, h, hj => by
    have hk : ¬ k < (frameL r).length := by
      intro hk; rw [wholeF, if_pos hk] at hj; omega
    have e : wholeF (r :: l) k = wholeF l (k - (frameL r).length) + 1 := by rw [wholeF, if_neg hk]
    have e2 : endF (r :: l) (j + 1) = (frameL r).length + endF l j := by unfold endF; rw [List.take_succ_cons, flatF_cons, List.length_append]
    have ih := whole_at l (k - (frameL r).length) j (by simpa using h) (by omega)
    rw [e, e2, List.getElem_cons_succ]
    constructor
    · intro h1; rw [ih.1 (by omega)]
    · intro h1; have := ih.2 (by omega); omega
/-- What the call owns, with room that a slice may have. -/
theorem own_mapC {α : Type} {f : α → Value} {w : World} {base : Nat} {e : TypeId} {v : Value} {xs : List α} (h : w.ownsRow base e 1 v (xs.map f).length (xs.map f)) :
    ∃ A c, v = .slice A xs.length c ∧ xs.length ≤ c ∧ c ≤ maxLen ∧ Rd w w.heap.size A xs.length (xs.map f) ∧ ∀ ad, A = some ad → base ≤ ad.block := by
  obtain ⟨A, c, rfl, h1, h2, h3⟩ := own_map h
  refine ⟨A, c, rfl, h1, ?_, h2, fun ad e => (h3 ad e).1⟩
  rcases h.2 with ⟨h0, _⟩ | ⟨g, cap, cur, hv, _, _, _, h6, _⟩
  · injection h0 with _ _ h0; rw [h0]; simp [maxLen]
  · injection hv with _ _ h3; rw [h3]; exact h6
theorem scan_res (ls : List (List UInt8)) (k : Nat) (h : ∀ r ∈ ls, r.length ≤ 65536) (hk : k ≤ (ls.flatMap frameL).length) : scanF k ((ls.flatMap frameL).take k) = (ls.take (wholeF ls k), endF ls (wholeF ls k), if k = endF ls (wholeF ls k) then 0 else 10) :=
  scan_cut ls k k h hk (Nat.le_refl _)
/-- string(b) later on. -/
theorem str_later {w : World} {B n c : Nat} {A : Option Addr} {bs : List UInt8} (h : Rd w B A n (bs.map bv)) (hB : B ≤ w.heap.size) : ∀ W, Below w.heap.size w W → (convert 26 9 (.slice A n c)).run Try.prog W = .ok (.string (mkS bs)) W :=
  fun _ hW => run_str_of (h.below (hW.mono hB)) 26 9 5 Try.underlying26 Try.underlying5 Try.underlying9 c
end Go.Proofs.Ytokcgbfncinilaa
