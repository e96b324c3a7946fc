/- The walk of CrcOf, part 3: all else. -/
import Derived.Test.YtidckelgicklcaaOfK
import Derived.Test.YtidckelgicklcaaArgs
import Derived.Deep.RegionHeld
import Derived.Deep.DrawnRows
namespace Go.Proofs.Ytidckelgicklcaa
namespace crcOf
open Go.RowKit
attribute [local go_sem ↓] Go.wp_at_zero Go.wp_at_succ
set_option maxRecDepth 100000 in
set_option maxHeartbeats 8000000 in
theorem walk3 (w : World) (A0 : Option Addr) (n0 c0 : Nat) (bs : List UInt8) (h1 : Rd w w.heap.size A0 n0 (bs.map bv)) (h2 : n0 ≤ c0) (h3 : c0 ≤ 2 ^ 63 - 1)
    (at_ : Int) (ha1 : 0 ≤ at_) (ha2 : at_ ≤ 65535) (to : Int) (ht1 : 0 ≤ to) (ht2 : to ≤ 65535) (X : Nat) (hXl : X < 4294967296) (hn0 : ¬ 2000 < n0)
    (i r q j : Nat) (hi : at_ % ((n0 : Int) + 1) = (i : Int)) (hin : i ≤ n0) (hr : (n0 : Int) - (i : Int) = (r : Int)) (hq : to % ((r : Int) + 1) = (q : Int)) (hqn : q ≤ r) (hj : (i : Int) + (q : Int) = (j : Int)) (hcase : ¬ c0 = i ∧ ¬ c0 = j) :
    Calls Try.prog 3 #[.slice A0 n0 c0, .int .u16 at_, .int .u16 to, .int .u32 (X : Int)] w fun e w' => e = .returned (.bool true) ∧ Below w.heap.size w w' := by
  have HB := Lib.hid h1
  have hbl := Lib.hid h1.len
  clear h1
  have hij : i ≤ j := by omega
  have hjn : j ≤ n0 := by omega
  have hrb : (r : Int) ≤ 2000 := by omega
  have hib : (i : Int) ≤ 2000 := by omega
  have hqb : (q : Int) ≤ 2000 := by omega
  have hs := mkS_size bs
  have hss := Lib.hid (show (mkS bs).size ≤ 140737488351232 by rw [hs]; have := hbl.out; omega)
  clear hs
  have hcv := fun W (hW : Below w.heap.size w W) => run_str_of (P := Try.prog) (HB.out.below hW) 22 9 5 Try.underlying22 Try.underlying5 Try.underlying9 c0
  have HCV := Lib.hid hcv
  clear hcv
  have hi1 : (0 : Int) ≤ (i : Int) := by omega
  have hi2 : (i : Int) ≤ (j : Int) := by omega
  have hi3 : (j : Int) ≤ (n0 : Int) := by omega
  have hi4 : (n0 : Int) ≤ (c0 : Int) := by omega
  have hi5 : (i : Int) ≤ (c0 : Int) := by omega
  have hi6 : (j : Int) ≤ (c0 : Int) := by omega
  have hi7 : (0 : Int) ≤ (j : Int) := by omega
  have r1 := HB.out.take_ (k := i) hin
  have r2 := (HB.out.cut (k := i) hin h2).take_ (k := j - i) (by omega)
  have r3 := HB.out.cut (k := j) hjn h2
  rw [← List.map_take] at r1
  rw [← List.map_drop, ← List.map_take] at r2
  rw [← List.map_drop] at r3
  have hp3 := parts3 bs i j hij
  obtain ⟨s, hs⟩ : ∃ s, s = crcL (bs.take i) := ⟨_, rfl⟩
  have hs64 : s < 4294967296 := by rw [hs]; exact crcL_lt _
  obtain ⟨b1, hb1'⟩ : ∃ b1, b1 = bs.take i := ⟨_, rfl⟩
  obtain ⟨b2, hb2'⟩ : ∃ b2, b2 = (bs.drop i).take (j - i) := ⟨_, rfl⟩
  obtain ⟨b3, hb3'⟩ : ∃ b3, b3 = bs.drop j := ⟨_, rfl⟩
  rw [← hb1', ← hb2', ← hb3'] at hp3
  rw [← hb1'] at r1 hs
  rw [← hb2'] at r2
  rw [← hb3'] at r3
  have HP3 := Lib.hid hp3
  have HSC := Lib.hid hs.symm
  have R1 := Lib.hid r1
  clear hp3 hs r1 hb1' hb2' hb3'
  have HX := Lib.hid hXl
  obtain ⟨hci, hcj⟩ := hcase
  all_goals (first | rw [if_pos hci] at r2 | rw [if_neg hci] at r2)
  all_goals (first | rw [if_pos hcj] at r3 | rw [if_neg hcj] at r3)
  all_goals try subst hcj
  all_goals try subst hci
  all_goals try subst hcn
  all_goals try simp only [Nat.sub_self] at r2
  all_goals try simp only [Nat.sub_self] at r3
  all_goals (have R2 := Lib.hid r2; have R3 := Lib.hid r3; clear r2 r3)
  go_enter Try.func3, Try.ntmps3
  go_wp2_with (go_at_call 7; (with_reducible refine (crcAwake_v _).mono ?_); rintro e w1 ⟨rfl, hb1⟩; have hs1 := hb1.size; have HB1 := Lib.hid hb1; have hcv1 := HCV.out w1 hb1; clear hb1)
  go_at_call 8
  (with_reducible refine (refCrc_v (mkS bs) w1 hss.out).mono ?_)
  rintro e w' ⟨rfl, rfl⟩
  rw [mkS_list, hi]
  have hbw := Lib.hid ((Below.refl w1.heap.size w1).drew)
  have KOF : Hid (∀ W, Below w1.heap.size w1 W → Calls Try.prog 9 #[.slice A0 n0 c0] W fun e w' => e = .returned (.int .u32 (crcL bs : Int)) ∧ Below w1.heap.size w1 w') := by
    intro W hW
    have hWw := HB1.out.trans (hW.mono hs1)
    refine (crcOf_v A0 n0 c0 _ bs W (HB.out.below hWw) hWw.size (by unfold maxLen; omega)).mono ?_
    rintro e w' ⟨rfl, hb⟩
    exact ⟨rfl, hW.trans (hb.mono hW.size)⟩
  have Q1 := Lib.hid ((R1.out.below HB1.out).more hs1)
  have Q2 := Lib.hid ((R2.out.below HB1.out).more hs1)
  have Q3 := Lib.hid ((R3.out.below HB1.out).more hs1)
  go_wp2_with fail
  go_region_held (fun w' => Hid (Below w1.heap.size w1 w')) (first | assumption | exact hbw | (refine belowAlloc _ ?_; assumption))
    (first
      | (go_at_call 9; (with_reducible refine (KOF.out _ ?_).mono ?_); (show Hid _; assumption); rintro e w5 ⟨rfl, hb5⟩; have HB5 := Lib.hid hb5; clear hb5)
      | (go_at_call 10; (with_reducible refine (new_v _).mono ?_); rintro e w' ⟨rfl, rfl⟩)
      | (go_at_call 11; (first
          | (with_reducible refine (k48a (w := w5) HB5.out Q1.out (by unfold maxLen; omega) _ rfl).mono ?_)
          | (with_reducible refine (k48b (w := w5) HB5.out Q1.out (by unfold maxLen; omega) _ rfl _).mono ?_)
          | (with_reducible refine (k48c (w := w5) HB5.out Q1.out (by unfold maxLen; omega) _ rfl _).mono ?_)); rintro e w' ⟨rfl, rfl⟩; rw [HSC.out])
      | (go_at_call 11; (first
          | (with_reducible refine (k57a (w := w5) HB5.out Q2.out Q3.out (by unfold maxLen; omega) (by unfold maxLen; omega) HSC.out _ rfl _).mono ?_)
          | (with_reducible refine (k57b (w := w5) HB5.out Q2.out Q3.out (by unfold maxLen; omega) (by unfold maxLen; omega) HSC.out _ rfl _).mono ?_)); rintro e w' ⟨rfl, rfl⟩; rw [HP3.out])
      | (go_at_call 12; (with_reducible refine (ktail (a := w1) _ _ HX.out ?_).mono ?_); (show Hid _; assumption); rintro e w7 ⟨A7, c7, rfl, hb7, hcv7⟩; have HB7 := Lib.hid hb7; have hcv8 := hcv7 w7 (Below.refl _ _); have HCV7 := Lib.hid hcv7; clear hb7 hcv7)
      | (go_at_call 13; (with_reducible refine (kref (a := w1) _ _ HX.out ?_).mono ?_); (show Hid _; assumption); rintro e w9 ⟨rfl, hb9, hb10⟩; have HB9 := Lib.hid hb9; try have hcv9 := HCV7.out w9 hb10))
  all_goals go_wp2
  all_goals go_ret
  all_goals (refine ⟨rfl, HB1.out.trans (Below.mono ?_ hs1)⟩; show Hid _; assumption)
end crcOf
end Go.Proofs.Ytidckelgicklcaa
