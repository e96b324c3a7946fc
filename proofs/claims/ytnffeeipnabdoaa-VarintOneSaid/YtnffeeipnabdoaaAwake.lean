/- The chapter's examples hold in any memory. -/
import Derived.Test.YtnffeeipnabdoaaRefRead
namespace Go.Proofs.Ytnffeeipnabdoaa
open Go.RowKit
theorem ex_take : takeM [172, 2, 1] = (300, 2, 0) := by decide
theorem ex_texts : textsL [mkS [97, 98], mkS []] = [2, 97, 98, 0] := by
  simp only [textsL, textL, List.flatMap_cons, List.flatMap_nil, mkS_size, mkS_list, List.length_cons, List.length_nil]
  rw [numL_lt (by omega), numL_lt (by omega)]; rfl
theorem ex_text : textR [2, 97, 98, 0] 0 = ([97, 98], [0], 0) := by decide
theorem ex_put : putL [300, 1] = [172, 2, 1] := by
  simp only [putL, List.flatMap_cons, List.flatMap_nil]
  rw [numL_ge (by omega), numL_lt (by omega), numL_lt (by omega)]; rfl
theorem mkS_toList (l : List UInt8) : (mkS l).toList = l := by rw [ByteArray.toList_eq]; exact mkS_list l
theorem zig_m1 (w : World) : Calls Try.prog 14 #[.int .i64 (-1)] w fun e w' => e = .returned (.int .u64 1) ∧ w = w' := zig_v (-1) w (by omega) (by omega)
theorem zig_1 (w : World) : Calls Try.prog 14 #[.int .i64 1] w fun e w' => e = .returned (.int .u64 2) ∧ w = w' := zig_v 1 w (by omega) (by omega)
theorem zag_1 (w : World) : Calls Try.prog 16 #[.int .u64 1] w fun e w' => e = .returned (.int .i64 (-1)) ∧ w = w' := zag_v 1 w (by omega)
theorem end_1 (w : World) (B g : Nat) (h : Rdr w B g [0] 0) : Calls Try.prog 25 #[.pointer (some ⟨g, 0, none⟩)] w fun r w' => r = .returned (.int .i64 14) ∧ w = w' := endR_v w B g [0] 0 h
set_option maxRecDepth 100000 in
set_option maxHeartbeats 200000 in
theorem awake_v (w : World) : Calls Try.prog 9 #[] w fun e w' => e = .returned (.bool true) ∧ Below w.heap.size w w' := by
  have hb0 := Lib.hid ((Below.refl w.heap.size w).alloc (Nat.le_refl _) (.cells #[.int .u8 172, .int .u8 2, .int .u8 1] 5))
  have hr1 : Rd (w.alloc (.cells #[.int .u8 172, .int .u8 2, .int .u8 1] 5)) (w.heap.size + 1) (some ⟨w.heap.size, 0, none⟩) 3 (([172, 2, 1] : List UInt8).map bv) := Rd.lit w 5 (([172, 2, 1] : List UInt8).map bv)
  have hr2 : ∀ (W : World) (N : Nat), W.heap.size = N → Rd (W.alloc (.cells #[.string { data := #[97, 98] }, .string { data := #[] }] 9)) (N + 1) (some ⟨N, 0, none⟩) 2 ([mkS [97, 98], mkS []].map Value.string) := fun W N h => by subst h; exact Rd.lit W 9 ([mkS [97, 98], mkS []].map Value.string)
  have hr3 : ∀ (W : World) (N : Nat), W.heap.size = N → Rd (W.alloc (.cells #[.int .u64 300, .int .u64 1] 26)) (N + 1) (some ⟨N, 0, none⟩) 2 ([300, 1].map nv) := fun W N h => by subst h; exact Rd.lit W 26 ([300, 1].map nv)
  have HR1 := Lib.hid hr1
  have HR2 := Lib.hid hr2
  have HR3 := Lib.hid hr3
  clear hr1 hr2 hr3
  go_enter Try.func9, Try.ntmps9
  go_wp2_with fail
  go_at_call 11
  (with_reducible refine (take_v _ _ _ _ [172, 2, 1] _ HR1.out (by omega)).mono ?_)
  rintro e w' ⟨rfl, rfl⟩
  rw [ex_take]
  go_wp2_with fail
  go_at_call 26
  (with_reducible refine (texts_v _ _ _ _ [mkS [97, 98], mkS []] _ (HR2.out _ (w.heap.size + 1) (by simp)) (by simp) (by omega) (by rw [ex_texts]; simp)).mono ?_)
  rintro e w1 ⟨v1, rfl, hg1⟩
  rw [ex_texts] at hg1
  obtain ⟨A1, c1, rfl, h11, h12, h13⟩ := own_slice hg1.own
  have hb1 := Lib.hid ((hb0.out.alloc (by simp) (.cells #[.string { data := #[97, 98] }, .string { data := #[] }] 9)).trans (hg1.belowNil.mono (by simp; omega)))
  have H12 : Hid (Rd w1 w1.heap.size A1 4 (([2, 97, 98, 0] : List UInt8).map bv)) := h12
  clear h13 h12 hg1
  go_wp2_with fail
  go_at_call 17
  (with_reducible refine (open_v _ _ _ _ [2, 97, 98, 0] _ H12.out (by omega)).mono ?_)
  rintro e w2 ⟨g, rfl, hr, hb2, hgg⟩
  have HR := Lib.hid hr
  have hb3 := Lib.hid (hb1.out.trans (hb2.mono hb1.out.size))
  have hgw : w.heap.size ≤ g := (by have := hb1.out.size; omega)
  clear hr hb2
  go_wp2_with fail
  go_at_call 22
  (with_reducible refine (text_v _ _ _ _ _ HR.out).mono ?_)
  rw [ex_text]
  rintro e w3 ⟨rfl, hr3, hg3⟩
  have HR4 := Lib.hid (hr3.more hg3.size)
  have hb4 := Lib.hid (hb3.out.grown hg3 hb3.out.size (fun k hk => by injection hk with hk; omega))
  clear hr3 hg3
  go_wp2_with fail
  go_at_call 23
  (with_reducible refine (left_v _ _ _ _ _ HR4.out).mono ?_)
  rintro e w' ⟨rfl, rfl⟩
  go_wp2_with fail
  go_at_call 13
  (with_reducible refine (put_v _ _ _ _ [300, 1] _ (HR3.out _ w3.heap.size rfl) (by simp) (by omega) (by simp)).mono ?_)
  rw [ex_put]
  rintro e w5 ⟨v5, rfl, hg5⟩
  obtain ⟨A5, c5, rfl, h51, h52, h53⟩ := own_slice hg5.own
  have hb5 := Lib.hid ((hb4.out.alloc hb4.out.size (.cells #[.int .u64 300, .int .u64 1] 26)).trans (hg5.belowNil.mono (by have := hb4.out.size; simp; omega)))
  have HR6 := Lib.hid (HR4.out.below (((Below.refl _ _).alloc (Nat.le_refl _) (.cells #[.int .u64 300, .int .u64 1] 26)).trans (hg5.belowNil.mono (by simp))))
  have hcv : (convert 23 9 (.slice A5 3 c5)).run Try.prog w5 = .ok (.string (mkS [172, 2, 1])) w5 := run_str_of h52 23 9 5 Try.underlying23 Try.underlying5 Try.underlying9 c5
  have hE : Hid (w5.cell? ⟨g, 1, none⟩ = some (.int .i64 ((0 : Nat) : Int))) := by
    obtain ⟨A, n, c, h1, _⟩ := HR6.out
    exact (cell_row h1 1).1
  clear h53 h52 hg5
  have ht1 := mkS_toList [172, 2, 1]
  have ht2 := mkS_toList [97, 98]
  go_wp2_with (first
    | (go_at_call 14; (first | (with_reducible refine (zig_m1 _).mono ?_) | (with_reducible refine (zig_1 _).mono ?_)); rintro e w' ⟨rfl, rfl⟩)
    | (go_at_call 16; (with_reducible refine (zag_1 _).mono ?_); rintro e w' ⟨rfl, rfl⟩)
    | (go_at_call 24; (with_reducible refine (err_v _ _ 0 hE.out).mono ?_); rintro e w' ⟨rfl, rfl⟩)
    | (go_at_call 25; (with_reducible refine (end_1 _ _ _ HR6.out).mono ?_); rintro e w' ⟨rfl, rfl⟩))
  go_ret
  exact ⟨rfl, hb5.out⟩
end Go.Proofs.Ytnffeeipnabdoaa
