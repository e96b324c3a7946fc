/- Chapter 3's examples hold in any memory; which rows are few. -/
import Derived.Test.YtokcgbfncinilaaScm
namespace Go.Proofs.Ytokcgbfncinilaa
open Go.RowKit
namespace frameEx
def ab : List UInt8 := [97, 98]
theorem num2 : numL ab.length = [2] := by unfold ab; rw [numL]; rfl
theorem num0 : numL ([] : List UInt8).length = [0] := by rw [numL]; rfl
theorem len2 : (frameL ab).length = 7 := by rw [frameL_len, num2]; rfl
theorem len0 : (frameL []).length = 5 := by rw [frameL_len, num0]; rfl
def both : List UInt8 := ([ab, []] : List (List UInt8)).flatMap frameL
theorem both_len : both.length = 12 := by unfold both; simp [len2, len0]
theorem both_all : ∀ r ∈ ([ab, []] : List (List UInt8)), r.length ≤ 65536 := by decide
theorem both_scan : scanF 12 both = ([ab, []], 12, 0) := by
  have h := scan_all [ab, []] 12 both_all (by rw [show ([ab, []] : List (List UInt8)).flatMap frameL = both from rfl, both_len]; exact Nat.le_refl _)
  rw [show ([ab, []] : List (List UInt8)).flatMap frameL = both from rfl, both_len] at h
  exact h
theorem both_take : takeF both = (ab, 7, 0) := by
  have h := takeF_frame ab (frameL []) (by decide)
  rw [len2] at h
  rw [← h]; unfold both; simp
theorem rdab (w : World) : Rd (w.alloc (.cells #[.int .u8 97, .int .u8 98] 5 (2, 3))) (w.heap.size + 1) (some ⟨w.heap.size, 0, none⟩) 2 (ab.map bv) := Rd.litF w 5 (2, 3) (ab.map bv)
theorem put_ab (w : World) : Calls Try.prog 8 #[.slice (some ⟨w.heap.size + 1, 0, none⟩) 2 2] ((w.alloc (.cells #[.int .u8 97, .int .u8 98] 5 (2, 3))).alloc (.cells #[.slice (some ⟨w.heap.size, 0, none⟩) 2 2, .slice none 0 0] 26)) fun e w' =>
    ∃ A c, e = .returned (.slice A 12 c) ∧ 12 ≤ c ∧ c ≤ maxLen ∧ Below w.heap.size w w' ∧ Rd w' w'.heap.size A 12 (both.map bv) := by
  have hz : (w.alloc (.cells #[.int .u8 97, .int .u8 98] 5 (2, 3))).heap.size = w.heap.size + 1 := World.size_alloc ..
  have hl := RdL.two (c := 2) (c' := 0) (rdab w) (Rd.nil_ (A := none) (w := w.alloc (.cells #[.int .u8 97, .int .u8 98] 5 (2, 3))) (B := 0)) (by rw [hz]; exact Nat.le_refl _) (Nat.zero_le _) (by simp [maxLen]) (by simp [maxLen]) 26 (l' := [])
  rw [hz] at hl
  have hb : Below w.heap.size w ((w.alloc (.cells #[.int .u8 97, .int .u8 98] 5 (2, 3))).alloc (.cells #[.slice (some ⟨w.heap.size, 0, none⟩) 2 2, .slice none 0 0] 26)) := ((Below.refl _ w).alloc (Nat.le_refl _) _).alloc (by rw [hz]; omega) _
  refine (putF_v _ 2 2 _ [ab, []] _ hl (by rw [World.size_alloc, hz]; exact Nat.le_refl _) (by omega) both_all (by rw [show ([ab, []] : List (List UInt8)).flatMap frameL = both from rfl, both_len]; omega)).mono ?_
  rintro e w' ⟨v', rfl, hg⟩
  rw [show ([ab, []] : List (List UInt8)).flatMap frameL = both from rfl] at hg
  have ho := hg.own
  obtain ⟨A, c, rfl, h1, h2, _⟩ := own_map ho
  rw [both_len] at h1 h2 ⊢
  refine ⟨A, c, rfl, h1, ?_, hb.trans (hg.belowNil.mono hb.size), h2⟩
  rcases ho.2 with ⟨_, h0⟩ | ⟨g, cap, cur, hv, _, _, _, h6, _⟩
  · rw [List.length_map, both_len] at h0; omega
  · injection hv with _ _ h3; rw [h3]; exact h6
theorem scan_ab (A : Option Addr) (c : Nat) (w : World) (h : Rd w w.heap.size A 12 (both.map bv)) (hc : 12 ≤ c) (hcm : c ≤ maxLen) : Calls Try.prog 10 #[.slice A 12 c] w fun e w' => ∃ A' c', e = .returned (.tuple #[.slice A' 2 c', .int .i64 12, .int .i64 0]) ∧ Below w.heap.size w w' := by
  refine (scan_v A 12 c _ both w h (Nat.le_refl _) (by omega) hc hcm).mono ?_
  rintro e w' ⟨v, rs, rfl, hb, hm⟩
  rw [both_scan] at hm ⊢
  obtain ⟨A', c', rfl, _, _⟩ := hm.rdL
  exact ⟨A', c', rfl, hb⟩
theorem take_ab (A : Option Addr) (c : Nat) (w : World) (h : Rd w w.heap.size A 12 (both.map bv)) (hc : 12 ≤ c) (hcm : c ≤ maxLen) : Calls Try.prog 11 #[.slice A 12 c] w fun e w' => ∃ A' c', e = .returned (.tuple #[.slice A' 2 c', .int .i64 7, .int .i64 0]) ∧ Below w.heap.size w w' ∧ Rd w' w'.heap.size A' 2 (ab.map bv) := by
  refine (takeF_v A 12 c _ both w h (Nat.le_refl _) (by omega) hc hcm).mono ?_
  rintro e w' ⟨v, rfl, hg⟩
  rw [both_take] at hg ⊢
  obtain ⟨A', c', rfl, h1, h2, _⟩ := own_map hg.own
  exact ⟨A', c', rfl, hg.belowNil, h2⟩
end frameEx
set_option maxRecDepth 100000 in
theorem frameAwake_v (w : World) : Calls Try.prog 6 #[] w fun e w' => e = .returned (.bool true) ∧ Below w.heap.size w w' := by
  have kc := conv_const
  go_enter Try.func6, Try.ntmps6
  go_wp2_with (first
    | (go_at_call 8; (with_reducible refine (frameEx.put_ab w).mono ?_); rintro e w1 ⟨A1, c1, rfl, h12, h1m, hb1, hr1⟩; have HB1 := Lib.hid hb1; have HR1 := Lib.hid hr1; clear hb1 hr1)
    | (go_at_call 10; (with_reducible refine (frameEx.scan_ab A1 c1 w1 HR1.out h12 h1m).mono ?_); rintro e w2 ⟨A2, c2, rfl, hb2⟩; have HR2 := Lib.hid ((HR1.out.below hb2).more hb2.size); have HB2 := Lib.hid (HB1.out.trans (hb2.mono HB1.out.size)); clear hb2)
    | (go_at_call 11; (with_reducible refine (frameEx.take_ab A1 c1 w2 HR2.out h12 h1m).mono ?_); rintro e w3 ⟨A3, c3, rfl, hb3, hr3⟩; have HB3 := Lib.hid (HB2.out.trans (hb3.mono HB2.out.size)); have hcv : (convert 26 9 (.slice A3 2 c3)).run Try.prog w3 = .ok (.string (mkS [97, 98])) w3 := run_str_of hr3 26 9 5 Try.underlying26 Try.underlying5 Try.underlying9 c3; have ht : (mkS [97, 98]).toList = [97, 98] := (by rw [ByteArray.toList_eq]; exact mkS_list _); clear hb3 hr3))
  go_ret
  exact ⟨rfl, HB3.out⟩
/-- Are rows few, and short? -/
def fewB (n : Nat) (ls : List (List UInt8)) : Bool := ls.all (fun r => decide (r.length ≤ 600)) && decide (n ≤ 20)
set_option maxRecDepth 100000 in
theorem few_v (A : Option Addr) (n cap B : Nat) (ls : List (List UInt8)) (w : World) (hr : RdL w B A n ls) (hn : n ≤ 9223372036854775807) :
    Calls Try.prog 7 #[.slice A n cap] w fun e w' => e = .returned (.bool (fewB n ls)) ∧ w = w' := by
  have HR := Lib.hid hr
  clear hr
  go_enter Try.func7, Try.ntmps7
  go_wp2
  go_loop [3] (fun i => ∃ k : Nat, k ≤ n ∧ i = .int .i64 (k : Int) ∧ ∀ (j : Nat) (h : j < ls.length), j < k → ls[j].length ≤ 600) (fun i => n - (intOf i).toNat)
  case atStart => exact ⟨0, by omega, rfl, fun j _ h => by omega⟩
  case round =>
    obtain ⟨k, hk, rfl, hall⟩ := hrel
    have HALL := Lib.hid hall
    clear hall
    have hl := HR.out.1
    by_cases hkn : k < n
    · obtain ⟨ad, A', n', c', rfl, hb, hc, hr', hcm⟩ := HR.out.2 k (by omega)
      have hn' := hr'.len
      have HR' := Lib.hid hn'
      clear hr' hn'
      by_cases h6 : 600 < n'
      · have hf : fewB n ls = false := by
          unfold fewB
          rw [Bool.and_eq_false_iff]
          left
          rw [List.all_eq_false]
          exact ⟨_, List.getElem_mem (show k < ls.length by omega), by simp; have := HR'.out; omega⟩
        have HF := Lib.hid hf
        clear hf
        go_wp2
        go_ret
        exact ⟨by rw [HF.out]; rfl, rfl⟩
      · go_wp2
        go_round
        case rel => exact ⟨k + 1, by omega, by go_num, fun j hj hjk => by
          by_cases e : j = k
          · subst e; have := HR'.out; omega
          · exact HALL.out j hj (by omega)⟩
        case measure => simp [intOf]; omega
    · have hf : fewB n ls = decide ((n : Int) ≤ 20) := by
        unfold fewB
        rw [List.all_eq_true.2 fun r hr => ?_, Bool.true_and, decide_eq_decide]
        · omega
        · obtain ⟨j, hj, rfl⟩ := List.getElem_of_mem hr
          exact decide_eq_true (HALL.out j hj (by omega))
      have HF := Lib.hid hf
      clear hf
      go_wp2
      go_ret
      exact ⟨by rw [HF.out]; rfl, rfl⟩
end Go.Proofs.Ytokcgbfncinilaa
