/- The walk of CrcTails: whatever the bytes are, the call returns true. -/
import Derived.Test.YtidckelgicklcaaCAwake
import Derived.Test.YtidckelgicklcaaArgs
namespace Go.Proofs.Ytidckelgicklcaa
namespace crcTails
open Go.RowKit
theorem on_sum (b m : List UInt8) : 4294967295 - sumL (4294967295 - 558161692) m = crcL ((b ++ tailL (crcL b)) ++ m) := by
  rw [crcL_append, crcL_whole]
theorem tailL_len (x : Nat) : (tailL x).length = 4 := rfl
theorem add1 (A : Option Addr) (n c B N : Nat) (l : List UInt8) (W : World) (h : Rd W B A n (l.map bv)) (hB : B ≤ W.heap.size) (hn : n ≤ maxLen) (hN : N = W.heap.size) :
    Calls Try.prog 11 #[.int .u32 558161692, .slice (some ⟨N, 0, none⟩) 1 1] (W.alloc (.cells #[.slice A n c] 22)) fun e w' => e = .returned (.int .u32 ((4294967295 - sumL (4294967295 - 558161692) l : Nat) : Int)) ∧ W.alloc (.cells #[.slice A n c] 22) = w' := sumAdd1_v 558161692 A n c B N l W h hB hn (by omega) hN
theorem addAll (A : Option Addr) (n c : Nat) (l : List UInt8) (W : World) (o : Obj) (h : Rd W W.heap.size A n (l.map bv)) (hn : n ≤ maxLen) :
    Calls Try.prog 11 #[.int .u32 0, .slice (some ⟨W.heap.size + 1, 0, none⟩) 1 1] ((W.alloc o).alloc (.cells #[.slice A n c] 22)) fun e w' => e = .returned (.int .u32 (crcL l : Int)) ∧ (W.alloc o).alloc (.cells #[.slice A n c] 22) = w' :=
  sumAddNew_v A n c _ _ l (W.alloc o) (h.below ((Below.refl _ _).alloc (Nat.le_refl _) o)) (by simp) hn (by simp)
theorem addNone (W : World) : Calls Try.prog 11 #[.int .u32 558161692, .slice none 0 0] W fun e w' => e = .returned (.int .u32 558161692) ∧ W = w' :=
  sumAdd_v 558161692 none 0 0 0 [] W ⟨rfl, fun j h => absurd h (by simp)⟩ (by omega) (by omega)
set_option maxRecDepth 100000 in
theorem walk (w : World) (A0 : Option Addr) (n0 c0 : Nat) (bs : List UInt8) (hb : Rd w w.heap.size A0 n0 (bs.map bv) ∧ n0 ≤ c0 ∧ c0 ≤ maxLen)
    (A1 : Option Addr) (n1 c1 : Nat) (ms : List UInt8) (hm : Rd w w.heap.size A1 n1 (ms.map bv) ∧ n1 ≤ c1 ∧ c1 ≤ maxLen) :
    Calls Try.prog 5 #[.slice A0 n0 c0, .slice A1 n1 c1] w fun e w' => e = .returned (.bool true) ∧ Below w.heap.size w w' := by
  obtain ⟨h1, h2, h3⟩ := hb
  obtain ⟨h4, h5, h6⟩ := hm
  have hm3 := h3
  have hm6 := h6
  unfold maxLen at h3 h6
  have HB := Lib.hid h1
  have HM := Lib.hid h4
  have hbl := Lib.hid h1.len
  have hml := Lib.hid h4.len
  clear h1 h4
  by_cases hn0 : 1000 < n0
  · go_enter Try.func5, Try.ntmps5
    go_wp2_with (go_at_call 7; (with_reducible refine (crcAwake_v _).mono ?_); rintro e w1 ⟨rfl, hb1⟩)
    go_ret
    exact ⟨rfl, hb1⟩
  by_cases hn1 : 300 < n1
  · go_enter Try.func5, Try.ntmps5
    go_wp2_with (go_at_call 7; (with_reducible refine (crcAwake_v _).mono ?_); rintro e w1 ⟨rfl, hb1⟩)
    go_ret
    exact ⟨rfl, hb1⟩
  obtain ⟨i0, hi, hz0, hz1, hz2⟩ := info_parts info_u8
  obtain ⟨S, hS⟩ : ∃ S, S = bs ++ tailL (crcL bs) := ⟨_, rfl⟩
  obtain ⟨L, hL⟩ : ∃ L, L = n0 + 4 := ⟨_, rfl⟩
  have hSl : S.length = L := by rw [hS, List.length_append, tailL_len]; have := hbl.out; omega
  have hLb : L ≤ 1004 := by omega
  clear hL
  have hcS : crcL S = 558161692 := by rw [hS]; exact crcL_whole bs
  have hSM := on_sum bs ms
  rw [← hS] at hSM
  obtain ⟨z, hz⟩ : ∃ z, z = crcL (S ++ ms) := ⟨_, rfl⟩
  rw [← hz] at hSM
  have HZ := Lib.hid hz
  have HSM := Lib.hid hSM
  have HCS := Lib.hid hcS
  have HS := Lib.hid hS
  clear hSM hcS hS hz
  go_enter Try.func5, Try.ntmps5
  go_wp2_with fail
  go_at_call 7
  (with_reducible refine (crcAwake_v _).mono ?_)
  rintro e w1 ⟨rfl, hb1⟩
  have hs1 := hb1.size
  have HB1 := Lib.hid hb1
  clear hb1
  go_wp2_with (first
    | (at_builtin; refine wpList_appN w1 rfl (.tmp 20) (.tmp 21) _ rfl w1.heap.size 5 i0 (.int .u8 0) 1 Try.underlying22 hi hz0 hz1 hz2 rfl (.slice none 0 0) [] rfl (World.ownsRow_nil w1 _ _ 1) _ A0 n0 c0 (bs.map bv) rfl (HB.out.below HB1.out) (bv_one _) (by simp; omega) (by simp; omega) (Nat.le_refl _) ?_; intro v2 w2 hg2; rw [List.nil_append] at hg2; have hs2 := hg2.grown.size; have HB2 := Lib.hid (HB1.out.trans (hg2.belowNil.mono hs1)); have HG2 := Lib.hid hg2; clear hg2)
    | (go_at_call 9; (with_reducible refine (crcOf_v _ _ _ _ bs w2 (HB.out.below HB2.out) (by omega) (by omega)).mono ?_); rintro e w3 ⟨rfl, hb3⟩; have hs3 := hb3.size; have HB3 := Lib.hid (HB2.out.trans (hb3.mono (by omega))); have HG3 := Lib.hid (HG2.out.then_ hb3); clear hb3)
    | (go_at_call 12; (with_reducible refine (tail_v _ w3 (crcL_lt bs)).mono ?_); rintro e w4 ⟨v4, rfl, hg4⟩; have hs4 := hg4.grown.size; have HB4 := Lib.hid (HB3.out.trans (hg4.belowNil.mono (by omega))); have HG4 := Lib.hid (HG3.out.then_ hg4.belowNil); obtain ⟨A4, c4, rfl, h41, h42, h43⟩ := own_slice hg4.own; have H42 := Lib.hid h42; clear hg4 h42 h43)
    | (at_builtin; refine wpList_appN w4 rfl (.tmp 23) (.tmp 26) _ rfl w1.heap.size 5 i0 (.int .u8 0) 1 Try.underlying22 hi hz0 hz1 hz2 rfl v2 _ rfl HG4.out.own _ A4 4 c4 ((tailL (crcL bs)).map bv) rfl H42.out (bv_one _) (by have := hbl.out; rw [List.length_map]; omega) (by have := hbl.out; rw [List.length_map]; omega) (by omega) ?_; intro v5 w5 hg5; rw [← List.map_append, ← HS.out] at hg5; have hs5 := hg5.grown.size; have HG5 := Lib.hid (HG4.out.trans hg5); have HB5 := Lib.hid (HB1.out.trans (HG5.out.belowNil.mono hs1)); obtain ⟨A5, c5, rfl, h51, h52, h53⟩ := own_map HG5.out.own; rw [hSl] at h51 h52; have H52 := Lib.hid h52; clear hg5 h52 h53)
    | (go_at_call 10; (with_reducible refine (new_v _).mono ?_); rintro e w' ⟨rfl, rfl⟩)
    | (go_at_call 11; (with_reducible refine (sumAddNew_v A5 _ c5 _ _ S w5 H52.out (Nat.le_refl _) (by simp [maxLen]; omega) rfl).mono ?_); rintro e w' ⟨rfl, rfl⟩; rw [HCS.out]; obtain ⟨w6, hw6⟩ : ∃ w6, w6 = w5.alloc (.cells #[.slice A5 L c5] 22) := ⟨_, rfl⟩; have hb6 : Below w5.heap.size w5 w6 := (by rw [hw6]; exact (Below.refl _ _).alloc (Nat.le_refl _) _); rw [← hw6]; have hs6 := hb6.size; have HB6 := Lib.hid (HB5.out.trans (hb6.mono (by omega))); have H62 := Lib.hid ((H52.out.below hb6).more hs6); clear hb6 hw6)
    | (at_builtin; refine wpList_appN w6 rfl (.tmp 32) (.tmp 33) _ rfl w6.heap.size 5 i0 (.int .u8 0) 1 Try.underlying22 hi hz0 hz1 hz2 rfl (.slice none 0 0) [] rfl (World.ownsRow_nil w6 _ _ 1) _ A5 L c5 (S.map bv) rfl H62.out (bv_one _) (by simp; omega) (by simp; omega) (Nat.le_refl _) ?_; intro v7 w7 hg7; rw [List.nil_append] at hg7; have hs7 := hg7.grown.size; have HB7 := Lib.hid (HB6.out.trans (hg7.belowNil.mono (by omega))); have H72 := Lib.hid ((H62.out.below hg7.belowNil).more hs7); have HG7 := Lib.hid hg7; clear hg7)
    | (at_builtin; refine wpList_appN w7 rfl (.tmp 35) (.tmp 36) _ rfl w6.heap.size 5 i0 (.int .u8 0) 1 Try.underlying22 hi hz0 hz1 hz2 rfl v7 _ rfl HG7.out.own _ A1 n1 c1 (ms.map bv) rfl (HM.out.below HB7.out) (bv_one _) (by rw [List.length_map]; omega) (by rw [List.length_map]; omega) (by omega) ?_; intro v8 w8 hg8; rw [← List.map_append] at hg8; have hs8 := hg8.grown.size; have HG8 := Lib.hid (HG7.out.trans hg8); have HB8 := Lib.hid (HB6.out.trans (HG8.out.belowNil.mono (by omega))); have H82 := Lib.hid (H62.out.below HG8.out.belowNil); obtain ⟨A8, c8, rfl, h81, h83, h84⟩ := own_map HG8.out.own; have hSMl : (S ++ ms).length = L + n1 := (by rw [List.length_append]; have := hml.out; omega); rw [hSMl] at h83; have H83 := Lib.hid h83; clear hg8 h83 h84)
    | (go_at_call 11; (with_reducible refine (add1 A1 n1 c1 _ _ ms w8 (HM.out.below HB8.out) (by have := HB8.out.size; omega) (by omega) rfl).mono ?_); rintro e w' ⟨rfl, rfl⟩; rw [HSM.out])
    | (go_at_call 11; (with_reducible refine (addAll A8 _ c8 (S ++ ms) w8 _ H83.out (by simp [maxLen]; omega)).mono ?_); rintro e w' ⟨rfl, rfl⟩; rw [← HZ.out])
    | (go_at_call 11; (with_reducible refine (addNone _).mono ?_); rintro e w' ⟨rfl, rfl⟩))
  go_ret
  exact ⟨rfl, (HB8.out.alloc HB8.out.size _).alloc (by have := HB8.out.size; simp; omega) _⟩
end crcTails
end Go.Proofs.Ytidckelgicklcaa
