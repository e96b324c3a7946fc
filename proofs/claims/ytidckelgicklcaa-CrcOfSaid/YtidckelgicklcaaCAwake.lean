/- Chapter 2's examples hold in any memory. -/
import Derived.Test.YtidckelgicklcaaCrc
namespace Go.Proofs.Ytidckelgicklcaa
open Go.RowKit
namespace crcEx
theorem tail_258 : tailL 258 = [2, 1, 0, 0] := by decide
def c9 : List UInt8 := [49, 50, 51, 52, 53, 54, 55, 56, 57]
def c3 : List UInt8 := [49, 50, 51]
def c6 : List UInt8 := [52, 53, 54, 55, 56, 57]
theorem flat_ex : ([c3, [], c6] : List (List UInt8)).flatten = c9 := by decide
theorem rd9 (w : World) : Rd (w.alloc (.cells #[.int .u8 49, .int .u8 50, .int .u8 51, .int .u8 52, .int .u8 53, .int .u8 54, .int .u8 55, .int .u8 56, .int .u8 57] 5 (9, 10))) (w.heap.size + 1) (some ⟨w.heap.size, 0, none⟩) 9 (c9.map bv) := Rd.litF w 5 (9, 10) (c9.map bv)
def W1 (W : World) : World := W.alloc (.cells #[.int .u8 49, .int .u8 50, .int .u8 51] 5 (3, 4))
def W2 (W : World) : World := (W1 W).alloc (.cells #[.int .u8 52, .int .u8 53, .int .u8 54, .int .u8 55, .int .u8 56, .int .u8 57] 5 (6, 7))
theorem W1_size (W : World) : (W1 W).heap.size = W.heap.size + 1 := by simp [W1]
theorem W2_size (W : World) : (W2 W).heap.size = W.heap.size + 2 := by simp [W2, W1]
theorem rdl (W : World) (N : Nat) (h : W.heap.size = N) : RdL ((W2 W).alloc (.cells #[.slice (some ⟨N, 0, none⟩) 3 3, .slice none 0 0, .slice (some ⟨N + 1, 0, none⟩) 6 6] 22)) (N + 3) (some ⟨N + 2, 0, none⟩) 3 [c3, [], c6] := by
  subst h
  have r3 : Rd (W1 W) (W.heap.size + 1) (some ⟨W.heap.size, 0, none⟩) 3 (c3.map bv) := Rd.litF W 5 (3, 4) (c3.map bv)
  have r6 : Rd (W2 W) ((W1 W).heap.size + 1) (some ⟨(W1 W).heap.size, 0, none⟩) 6 (c6.map bv) := Rd.litF (W1 W) 5 (6, 7) (c6.map bv)
  rw [W1_size] at r6
  have r3' : Rd (W2 W) (W.heap.size + 1) (some ⟨W.heap.size, 0, none⟩) 3 (c3.map bv) := r3.below ((Below.refl _ _).alloc (by rw [W1_size]; exact Nat.le_refl _) _)
  generalize hw : W2 W = w2 at r3' r6
  have hsz : w2.heap.size = W.heap.size + 2 := by rw [← hw, W2_size]
  have hal : ∀ B, B ≤ w2.heap.size → Below B w2 (w2.alloc (.cells #[.slice (some ⟨W.heap.size, 0, none⟩) 3 3, .slice none 0 0, .slice (some ⟨W.heap.size + 1, 0, none⟩) 6 6] 22)) := fun B hB => (Below.refl _ _).alloc hB _
  have hl := Rd.lit w2 22 [.slice (some ⟨W.heap.size, 0, none⟩) 3 3, .slice none 0 0, .slice (some ⟨W.heap.size + 1, 0, none⟩) 6 6]
  obtain ⟨ad, e1, _, e3⟩ := hl.2 (by simp)
  injection e1 with e1
  subst e1
  rw [hsz] at e3
  refine ⟨rfl, fun j hj => ?_⟩
  have hc : j = 0 ∨ j = 1 ∨ j = 2 := by simp at hj; omega
  rcases hc with rfl | rfl | rfl
  · exact ⟨_, _, _, _, rfl, Nat.lt_succ_self _, e3 0 _ rfl, (r3'.below (hal _ (by omega))).more (by omega), by simp [maxLen]⟩
  · exact ⟨_, _, _, _, rfl, Nat.lt_succ_self _, e3 1 _ rfl, Rd.nil_, by simp [maxLen]⟩
  · exact ⟨_, _, _, _, rfl, Nat.lt_succ_self _, e3 2 _ rfl, (r6.below (hal _ (by omega))).more (by omega), by simp [maxLen]⟩
theorem of9 (w : World) : Calls Try.prog 9 #[.slice (some ⟨w.heap.size, 0, none⟩) 9 9] (w.alloc (.cells #[.int .u8 49, .int .u8 50, .int .u8 51, .int .u8 52, .int .u8 53, .int .u8 54, .int .u8 55, .int .u8 56, .int .u8 57] 5 (9, 10))) fun e w' => e = .returned (.int .u32 3421780262) ∧ Below w.heap.size w w' := by
  refine (crcOf_v _ _ _ _ c9 _ (rd9 w) (by simp) (by simp [maxLen])).mono ?_
  rintro e w' ⟨rfl, hb⟩
  refine ⟨by rw [show crcL c9 = 3421780262 from ex_sum]; rfl, ((Below.refl _ w).alloc (Nat.le_refl _) _).trans (hb.mono (by simp))⟩
theorem tail258 (w : World) : Calls Try.prog 12 #[.int .u32 258] w fun e w' => ∃ v', e = .returned v' ∧ Grew w w' w.heap.size 5 (.slice none 0 0) v' (([2, 1, 0, 0] : List UInt8).map bv) := by
  have := tail_v 258 w (by omega)
  rw [tail_258] at this
  exact this
theorem add9 (W : World) (N : Nat) (h : W.heap.size = N) : Calls Try.prog 11 #[.int .u32 0, .slice (some ⟨N + 1 + 1, 0, none⟩) 3 3] (((W.alloc (.cells #[.int .u8 49, .int .u8 50, .int .u8 51] 5 (3, 4))).alloc (.cells #[.int .u8 52, .int .u8 53, .int .u8 54, .int .u8 55, .int .u8 56, .int .u8 57] 5 (6, 7))).alloc (.cells #[.slice (some ⟨N, 0, none⟩) 3 3, .slice none 0 0, .slice (some ⟨N + 1, 0, none⟩) 6 6] 22)) fun e w' => e = .returned (.int .u32 3421780262) ∧ ((W2 W).alloc (.cells #[.slice (some ⟨N, 0, none⟩) 3 3, .slice none 0 0, .slice (some ⟨N + 1, 0, none⟩) 6 6] 22)) = w' := by
  refine (sumAdd0_v _ _ 3 _ _ _ (rdl W N h) (by omega)).mono ?_
  rintro e w' ⟨rfl, rfl⟩
  rw [flat_ex]
  exact ⟨by rw [show crcL c9 = 3421780262 from ex_sum]; rfl, rfl⟩
end crcEx
set_option maxRecDepth 100000 in
theorem crcAwake_v (w : World) : Calls Try.prog 7 #[] w fun e w' => e = .returned (.bool true) ∧ Below w.heap.size w w' := by
  have kc := conv_const
  go_enter Try.func7, Try.ntmps7
  go_wp2_with fail
  go_at_call 9
  (with_reducible refine (crcEx.of9 _).mono ?_)
  rintro e w1 ⟨rfl, hb1⟩
  have hs1 := hb1.size
  have HB1 := Lib.hid hb1
  clear hb1
  go_wp2_with fail
  go_at_call 12
  (with_reducible refine (crcEx.tail258 _).mono ?_)
  rintro e w2 ⟨v2, rfl, hg⟩
  have HB2 := Lib.hid (HB1.out.trans (hg.belowNil.mono hs1))
  obtain ⟨A2, c2, rfl, h1, h2, _⟩ := own_slice hg.own
  have hcv : (convert 22 9 (.slice A2 4 c2)).run Try.prog w2 = .ok (.string (mkS [2, 1, 0, 0])) w2 := run_str_of h2 22 9 5 Try.underlying22 Try.underlying5 Try.underlying9 c2
  have ht : (mkS [2, 1, 0, 0]).toList = [2, 1, 0, 0] := by rw [ByteArray.toList_eq]; exact mkS_list _
  have HW := crcEx.add9 w2 w2.heap.size rfl
  clear h2 hg
  go_wp2_with fail
  go_at_call 10
  (with_reducible refine (new_v _).mono ?_)
  rintro e w' ⟨rfl, rfl⟩
  go_wp2_with fail
  go_at_call 11
  (with_reducible refine HW.mono ?_)
  rintro e w' ⟨rfl, rfl⟩
  go_wp2
  go_ret
  exact ⟨rfl, ((HB2.out.alloc HB2.out.size _).alloc (by have := HB2.out.size; simp; omega) _).alloc (by have := HB2.out.size; simp; omega) _⟩
end Go.Proofs.Ytidckelgicklcaa
