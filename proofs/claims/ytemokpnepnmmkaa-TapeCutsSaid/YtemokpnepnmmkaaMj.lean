/- Chapter 3's examples hold in any memory; which rows are few. -/
import Derived.Test.YtemokpnepnmmkaaMi
namespace Go.Proofs.Ytemokpnepnmmkaa
open Go.RowKit
namespace frameEx
def ab : List UInt8 := [97, 98]
theorem num2 : numL ab.length = [2] := by unfold ab; rw [numL]; rfl
theorem num0 : numL ([] : List UInt8).length = [0] := by rw [numL]; rfl
theorem len2 : (frameL ab).length = 7 := by rw [frameL_len, num2]; rfl
theorem len0 : (frameL []).length = 5 := by rw [frameL_len, num0]; rfl
def both : List UInt8 := ([ab, []] : List (List UInt8)).flatMap frameL
theorem both_len : both.length = 12 := by unfold both; simp [len2, len0]
theorem both_all : ∀ r ∈ ([ab, []] : List (List UInt8)), r.length ≤ 65536 := by decide
theorem both_scan : scanF 12 both = ([ab, []], 12, 0) := by
  have h := scan_all [ab, []] 12 both_all (by rw [show ([ab, []] : List (List UInt8)).flatMap frameL = both from rfl, both_len]; exact Nat.le_refl _)
  rw [show ([ab, []] : List (List UInt8)).flatMap frameL = both from rfl, both_len] at h
  exact h
theorem both_take : takeF both = (ab, 7, 0) := by
  have h := takeF_frame ab (frameL []) (by decide)
  rw [len2] at h
  rw [← h]; unfold both; simp
theorem rdab (w : World) : Rd (w.alloc (.cells #[.int .u8 97, .int .u8 98] 5 (2, 3))) (w.heap.size + 1) (some ⟨w.heap.size, 0, none⟩) 2 (ab.map bv) := Rd.litF w 5 (2, 3) (ab.map bv)
theorem put_ab (w : World) : Calls Try.prog 17 #[.slice (some ⟨w.heap.size + 1, 0, none⟩) 2 2] ((w.alloc (.cells #[.int .u8 97, .int .u8 98] 5 (2, 3))).alloc (.cells #[.slice (some ⟨w.heap.size, 0, none⟩) 2 2, .slice none 0 0] 28)) fun e w' =>
    ∃ A c, e = .returned (.slice A 12 c) ∧ 12 ≤ c ∧ c ≤ maxLen ∧ Below w.heap.size w w' ∧ Rd w' w'.heap.size A 12 (both.map bv) := by
  have hz : (w.alloc (.cells #[.int .u8 97, .int .u8 98] 5 (2, 3))).heap.size = w.heap.size + 1 := World.size_alloc ..
  have hl := RdL.two (c := 2) (c' := 0) (rdab w) (Rd.nil_ (A := none) (w := w.alloc (.cells #[.int .u8 97, .int .u8 98] 5 (2, 3))) (B := 0)) (by rw [hz]; exact Nat.le_refl _) (Nat.zero_le _) (by simp [maxLen]) (by simp [maxLen]) 28 (l' := [])
  rw [hz] at hl
  have hb : Below w.heap.size w ((w.alloc (.cells #[.int .u8 97, .int .u8 98] 5 (2, 3))).alloc (.cells #[.slice (some ⟨w.heap.size, 0, none⟩) 2 2, .slice none 0 0] 28)) := ((Below.refl _ w).alloc (Nat.le_refl _) _).alloc (by rw [hz]; omega) _
  refine (putF_v _ 2 2 _ [ab, []] _ hl (by rw [World.size_alloc, hz]; exact Nat.le_refl _) (by omega) both_all (by rw [show ([ab, []] : List (List UInt8)).flatMap frameL = both from rfl, both_len]; omega)).mono ?_
  rintro e w' ⟨v', rfl, hg⟩
  rw [show ([ab, []] : List (List UInt8)).flatMap frameL = both from rfl] at hg
  have ho := hg.own
  obtain ⟨A, c, rfl, h1, h2, _⟩ := own_map ho
  rw [both_len] at h1 h2 ⊢
  refine ⟨A, c, rfl, h1, ?_, hb.trans (hg.belowNil.mono hb.size), h2⟩
  rcases ho.2 with ⟨_, h0⟩ | ⟨g, cap, cur, hv, _, _, _, h6, _⟩
  · rw [List.length_map, both_len] at h0; omega
  · injection hv with _ _ h3; rw [h3]; exact h6
theorem scan_ab (A : Option Addr) (c : Nat) (w : World) (h : Rd w w.heap.size A 12 (both.map bv)) (hc : 12 ≤ c) (hcm : c ≤ maxLen) : Calls Try.prog 32 #[.slice A 12 c] w fun e w' => ∃ A' c', e = .returned (.tuple #[.slice A' 2 c', .int .i64 12, .int .i64 0]) ∧ Below w.heap.size w w' := by
  refine (scan_v A 12 c _ both w h (Nat.le_refl _) (by omega) hc hcm).mono ?_
  rintro e w' ⟨v, rs, rfl, hb, hm⟩
  rw [both_scan] at hm ⊢
  obtain ⟨A', c', rfl, _, _⟩ := hm.rdL
  exact ⟨A', c', rfl, hb⟩
theorem take_ab (A : Option Addr) (c : Nat) (w : World) (h : Rd w w.heap.size A 12 (both.map bv)) (hc : 12 ≤ c) (hcm : c ≤ maxLen) : Calls Try.prog 59 #[.slice A 12 c] w fun e w' => ∃ A' c', e = .returned (.tuple #[.slice A' 2 c', .int .i64 7, .int .i64 0]) ∧ Below w.heap.size w w' ∧ Rd w' w'.heap.size A' 2 (ab.map bv) := by
  refine (takeF_v A 12 c _ both w h (Nat.le_refl _) (by omega) hc hcm).mono ?_
  rintro e w' ⟨v, rfl, hg⟩
  rw [both_take] at hg ⊢
  obtain ⟨A', c', rfl, h1, h2, _⟩ := own_map hg.own
  exact ⟨A', c', rfl, hg.belowNil, h2⟩
end frameEx
/-- Are rows few, and short? -/
def fewFB (n : Nat) (ls : List (List UInt8)) : Bool := ls.all (fun r => decide (r.length ≤ 600)) && decide (n ≤ 20)
end Go.Proofs.Ytemokpnepnmmkaa
/- Sizes of few rows' frames; where a row of frames is cut. No premises. -/
namespace Go.Proofs.Ytemokpnepnmmkaa
open Go.RowKit
theorem wrap64_small {x : Int} (h0 : 0 ≤ x) (h1 : x ≤ 4611686018427387904) : wrap64 x = x := by unfold wrap64; omega
/-- As values: such an equation is a rule for the walk, and omega does not look at it. -/
theorem wrap64_v {x : Int} (h0 : 0 ≤ x) (h1 : x ≤ 4611686018427387904) : Value.int .i64 (wrap64 x) = Value.int .i64 x := by rw [wrap64_small h0 h1]
theorem wrapu64_v {x : Nat} (h : x < 18446744073709551616) : Value.int .u64 (IntKind.u64.wrap (x : Int)) = Value.int .u64 (x : Int) := by rw [IntKind.wrap_u64]; congr 1; omega
theorem few_rows {n : Nat} {ls : List (List UInt8)} (h : fewFB n ls = true) : n ≤ 20 ∧ ∀ r ∈ ls, r.length ≤ 600 := by
  unfold fewFB at h
  rw [Bool.and_eq_true] at h
  exact ⟨of_decide_eq_true h.2, fun r hr => of_decide_eq_true (List.all_eq_true.1 h.1 r hr)⟩
theorem frame_small {r : List UInt8} (h : r.length ≤ 600) : (frameL r).length ≤ 614 ∧ (numL r.length).length ≤ 10 := by
  have := numL_ten (show r.length < 18446744073709551616 by omega)
  rw [frameL_len]; omega
theorem frames_small : ∀ {ls : List (List UInt8)}, (∀ r ∈ ls, r.length ≤ 600) → (ls.flatMap frameL).length ≤ 614 * ls.length
  | [], _ => by simp
  | r :: l, h => by
    have h1 := frames_small (ls := l) fun x hx => h x (List.mem_cons_of_mem _ hx)
    have h2 := (frame_small (h r (List.mem_cons_self ..))).1
    rw [flatF_cons, List.length_append, List.length_cons]; omega
/-- Where the first j frames end. -/
def endF (ls : List (List UInt8)) (j : Nat) : Nat := ((ls.take j).flatMap frameL).length
theorem endF_zero (ls : List (List UInt8)) : endF ls 0 = 0 := rfl
theorem endF_succ (ls : List (List UInt8)) (j : Nat) (h : j < ls.length) : endF ls (j + 1) = endF ls j + ((numL ls[j].length).length + ls[j].length + 4) := by
  unfold endF; rw [flatF_snoc ls j h, List.length_append, frameL_len]
theorem endF_le (ls : List (List UInt8)) (j : Nat) : endF ls j ≤ (ls.flatMap frameL).length := flat_take_len frameL ls j
theorem wholeF_le : ∀ (ls : List (List UInt8)) (k : Nat), wholeF ls k ≤ ls.length
  | [], _ => by simp [wholeF]
  | r :: l, k => by
    rw [wholeF]; split
    · simp
    · have := wholeF_le l (k - (frameL r).length); simp; omega
theorem whole_at : ∀ (ls : List (List UInt8)) (k j : Nat) (h : j < ls.length), j ≤ wholeF ls k → (k < endF ls j + (frameL ls[j]).length → wholeF ls k = j) ∧ (endF ls j + (frameL ls[j]).length ≤ k → j + 1 ≤ wholeF ls k)
  | [], _, _, h, _ => by simp at h
  | r :: l, k, 0, _, _ => by
    rw [endF_zero]
    simp only [List.getElem_cons_zero]
    constructor
    · intro h; rw [wholeF, if_pos (by omega)]
    · intro h; rw [wholeF, if_neg (by omega)]; omega
  | r :: l, k, j + 1, h, hj => by
    have hk : ¬ k < (frameL r).length := by
      intro hk; rw [wholeF, if_pos hk] at hj; omega
    have e : wholeF (r :: l) k = wholeF l (k - (frameL r).length) + 1 := by rw [wholeF, if_neg hk]
    have e2 : endF (r :: l) (j + 1) = (frameL r).length + endF l j := by unfold endF; rw [List.take_succ_cons, flatF_cons, List.length_append]
    have ih := whole_at l (k - (frameL r).length) j (by simpa using h) (by omega)
    rw [e, e2, List.getElem_cons_succ]
    constructor
    · intro h1; rw [ih.1 (by omega)]
    · intro h1; have := ih.2 (by omega); omega
/-- What the call owns, with room that a slice may have. -/
theorem own_mapC {α : Type} {f : α → Value} {w : World} {base : Nat} {e : TypeId} {v : Value} {xs : List α} (h : w.ownsRow base e 1 v (xs.map f).length (xs.map f)) :
    ∃ A c, v = .slice A xs.length c ∧ xs.length ≤ c ∧ c ≤ maxLen ∧ Rd w w.heap.size A xs.length (xs.map f) ∧ ∀ ad, A = some ad → base ≤ ad.block := by
  obtain ⟨A, c, rfl, h1, h2, h3⟩ := own_map h
  refine ⟨A, c, rfl, h1, ?_, h2, fun ad e => (h3 ad e).1⟩
  rcases h.2 with ⟨h0, _⟩ | ⟨g, cap, cur, hv, _, _, _, h6, _⟩
  · injection h0 with _ _ h0; rw [h0]; simp [maxLen]
  · injection hv with _ _ h3; rw [h3]; exact h6
theorem scan_res (ls : List (List UInt8)) (k : Nat) (h : ∀ r ∈ ls, r.length ≤ 65536) (hk : k ≤ (ls.flatMap frameL).length) : scanF k ((ls.flatMap frameL).take k) = (ls.take (wholeF ls k), endF ls (wholeF ls k), if k = endF ls (wholeF ls k) then 0 else 10) :=
  scan_cut ls k k h hk (Nat.le_refl _)
/-- string(b) later on. -/
theorem str_later {w : World} {B n c : Nat} {A : Option Addr} {bs : List UInt8} (h : Rd w B A n (bs.map bv)) (hB : B ≤ w.heap.size) : ∀ W, Below w.heap.size w W → (convert 28 9 (.slice A n c)).run Try.prog W = .ok (.string (mkS bs)) W :=
  fun _ hW => run_str_of (h.below (hW.mono hB)) 28 9 5 Try.underlying28 Try.underlying5 Try.underlying9 c
end Go.Proofs.Ytemokpnepnmmkaa
