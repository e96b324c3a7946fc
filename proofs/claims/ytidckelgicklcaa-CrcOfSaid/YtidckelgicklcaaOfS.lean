/- The walk of CrcOf, behind its cuts: its last statement as a soft region. -/
import Derived.Test.YtidckelgicklcaaCAwake
import Derived.Test.YtidckelgicklcaaArgs
import Derived.Test.YtidckelgicklcaaLater
namespace Go.Proofs.Ytidckelgicklcaa
namespace crcOf
open Go.RowKit
theorem parts3 (bs : List UInt8) (i j : Nat) (h1 : i ≤ j) : bs.take i ++ ((bs.drop i).take (j - i) ++ bs.drop j) = bs := by
  have e : (bs.drop i).take (j - i) ++ bs.drop j = bs.drop i := by
    have h3 := List.take_append_drop (j - i) (bs.drop i)
    rw [List.drop_drop, show i + (j - i) = j by omega] at h3
    exact h3
  rw [e, List.take_append_drop]
set_option maxRecDepth 100000 in
set_option maxHeartbeats 400000 in
theorem cuts (w : World) (A0 : Option Addr) (n0 c0 : Nat) (bs : List UInt8) (h1 : Rd w w.heap.size A0 n0 (bs.map bv)) (h2 : n0 ≤ c0) (h3 : c0 ≤ 2 ^ 63 - 1)
    (at_ : Int) (ha1 : 0 ≤ at_) (ha2 : at_ ≤ 65535) (to : Int) (ht1 : 0 ≤ to) (ht2 : to ≤ 65535) (X : Nat) (hXl : X < 4294967296) (hn0 : ¬ 2000 < n0)
    (i r q j : Nat) (hi : at_ % ((n0 : Int) + 1) = (i : Int)) (hin : i ≤ n0) (hr : (n0 : Int) - (i : Int) = (r : Int)) (hq : to % ((r : Int) + 1) = (q : Int)) (hj : (i : Int) + (q : Int) = (j : Int)) (hjn : j ≤ n0) (hqb : (q : Int) ≤ 2000) :
    Calls Try.prog 3 #[.slice A0 n0 c0, .int .u16 at_, .int .u16 to, .int .u32 (X : Int)] w fun e w' => e = .returned (.bool true) ∧ Below w.heap.size w w' := by
  have HB := Lib.hid h1
  have hbl := Lib.hid h1.len
  clear h1
  have hij : i ≤ j := by omega
  have hrb : (r : Int) ≤ 2000 := by omega
  have hib : (i : Int) ≤ 2000 := by omega
  have hs := mkS_size bs
  have hss := Lib.hid (show (mkS bs).size ≤ 140737488351232 by rw [hs]; have := hbl.out; omega)
  clear hs
  have hcv := fun W (hW : Below w.heap.size w W) => run_str_of (P := Try.prog) (HB.out.below hW) 22 9 5 Try.underlying22 Try.underlying5 Try.underlying9 c0
  have HCV := Lib.hid hcv
  clear hcv
  have hi1 : (0 : Int) ≤ (i : Int) := by omega
  have hi2 : (i : Int) ≤ (j : Int) := by omega
  have hi3 : (j : Int) ≤ (n0 : Int) := by omega
  have hi4 : (n0 : Int) ≤ (c0 : Int) := by omega
  have hi5 : (i : Int) ≤ (c0 : Int) := by omega
  have hi6 : (j : Int) ≤ (c0 : Int) := by omega
  have hi7 : (0 : Int) ≤ (j : Int) := by omega
  have r1 := HB.out.take_ (k := i) hin
  have r2 := (HB.out.cut (k := i) hin h2).take_ (k := j - i) (by omega)
  have r3 := HB.out.cut (k := j) hjn h2
  rw [← List.map_take] at r1
  rw [← List.map_drop, ← List.map_take] at r2
  rw [← List.map_drop] at r3
  have hp3 := parts3 bs i j hij
  obtain ⟨s, hs⟩ : ∃ s, s = crcL (bs.take i) := ⟨_, rfl⟩
  have hs64 : s < 4294967296 := by rw [hs]; exact crcL_lt _
  obtain ⟨b1, hb1'⟩ : ∃ b1, b1 = bs.take i := ⟨_, rfl⟩
  obtain ⟨b2, hb2'⟩ : ∃ b2, b2 = (bs.drop i).take (j - i) := ⟨_, rfl⟩
  obtain ⟨b3, hb3'⟩ : ∃ b3, b3 = bs.drop j := ⟨_, rfl⟩
  rw [← hb1', ← hb2', ← hb3'] at hp3
  rw [← hb1'] at r1 hs
  rw [← hb2'] at r2
  rw [← hb3'] at r3
  have HP3 := Lib.hid hp3
  have HSC := Lib.hid hs.symm
  have R1 := Lib.hid r1
  clear hp3 hs r1 hb1' hb2' hb3'
  have HX := Lib.hid hXl
  have R2 := Lib.hid r2
  have R3 := Lib.hid r3
  clear r2 r3
  go_enter Try.func3, Try.ntmps3
  go_wp2_with (go_at_call 7; (with_reducible refine (crcAwake_v _).mono ?_); rintro e w1 ⟨rfl, hb1⟩; have hs1 := hb1.size; have HB1 := Lib.hid hb1; have hcv1 := HCV.out w1 hb1; clear hb1)
  go_at_call 8
  (with_reducible refine (refCrc_v (mkS bs) w1 hss.out).mono ?_)
  rintro e w' ⟨rfl, rfl⟩
  rw [mkS_list, hi]
  have Q1 := Lib.hid ((R1.out.below HB1.out).more hs1)
  have Q2 := Lib.hid ((R2.out.below HB1.out).more hs1)
  have Q3 := Lib.hid ((R3.out.below HB1.out).more hs1)
  have H57 : Hid (4294967295 - sumL (4294967295 - s) [b2, b3].flatten = crcL bs) := by
    have h := crcL_append b1 (b2 ++ b3)
    rw [HP3.out, HSC.out] at h
    show _ = _
    rw [h]; simp
  go_wp2_with fail
  refine wp_region_owes (by kernel_rfl) (fun W => Later w1 W) (Later) (Later.refl) [Sp.val (.slice A0 n0 c0), Sp.val (.int .u32 (crcL bs : Int)), Sp.val (.int .u32 (crcL bs : Int)), Sp.val (.bool true), Sp.val (.bool true), Sp.val (.int .u32 0), Sp.val (.slice A0 n0 c0), Sp.val (.int .i64 (i : Int)), Sp.val (.slice A0 i c0), spRows 1 [b1], Sp.val (.int .u32 (s : Int)), Sp.val (.slice A0 n0 c0), Sp.val (.int .i64 (i : Int)), Sp.val (.int .i64 (j : Int)), Sp.val (.slice (if c0 = i then A0 else A0.map (·.add i)) (j - i) (c0 - i)), Sp.val (.slice A0 n0 c0), Sp.val (.int .i64 (j : Int)), Sp.val (.slice (if c0 = j then A0 else A0.map (·.add j)) (n0 - j) (c0 - j)), spRows 2 [b2, b3], Sp.val (.int .u32 (crcL bs : Int)), Sp.val (.int .u32 (crcL bs : Int)), Sp.val (.bool true), Sp.val (.bool true), Sp.val (.bool true), Sp.val (.int .u32 (X : Int)), spBytes 4 (tailL X), Sp.val (.string (mkS (tailL X))), Sp.val (.int .u32 (X : Int)), Sp.val (.string (mkS (tailL X))), Sp.val (.bool true), Sp.val (.bool true), Sp.val (.bool true), Sp.val (.int .u32 0), Sp.val (.bool true), Sp.val (.bool true), Sp.val (.bool true)] (by kernel_rfl) (Later.drew w1) ?_ ?_
  · refine ⟨?_, ?_, ?_, ?_, ?_, ?_, ?_, ?_, ?_, ?_, ?_, ?_, ?_, ?_, ?_, ?_, ?_, ?_, ?_, ?_, ?_, ?_, ?_, ?_, ?_, ?_, ?_, ?_, ?_, ?_, ?_, ?_, ?_, ?_, ?_, ?_, trivial⟩
    · -- 0: slot 38 := Op.move t0
      refine fun a w hC hs => .inl ⟨?_, ?_⟩
      · rfl
      have e0 : a.tmps.getD 0 undef = .slice A0 n0 c0 := hs.free 0 rfl
      exact ⟨e0, hC, Later.refl _⟩
    · -- 1: slot 39 := Op.call { value (Operand.func 9), args := #[t38], argTypes := #[22] }
      refine fun a w hC hs => .inl ⟨?_, ?_⟩
      · rfl
      have e38 : a.tmps.getD 38 undef = .slice A0 n0 c0 := hs.dep 0 _ rfl rfl
      refine ValWp.call #[.slice A0 n0 c0] rfl rfl Try.func9 rfl rfl (by simp only [List.map_toArray, List.map_cons, List.map_nil, Act.eval, e38]) ?_
      refine (crcOf_v A0 n0 c0 _ bs w (HB.out.below (HB1.out.trans (Below.mono hC hs1))) (HB1.out.trans (Below.mono hC hs1)).size (by unfold maxLen; omega)).mono ?_
      rintro e w' ⟨rfl, hb⟩
      exact ⟨_, rfl, rfl, Later.trans hC hb, hb⟩
    · -- 2: slot 40 := Op.move t12
      refine fun a w hC hs => .inl ⟨?_, ?_⟩
      · rfl
      have e12 : a.tmps.getD 12 undef = .int .u32 (crcL bs : Int) := hs.free 12 rfl
      exact ⟨e12, hC, Later.refl _⟩
    · -- 3: slot 41 := Op.binOp BinOp.eql 24 t39 t40 24
      refine fun a w hC hs => .inl ⟨?_, ?_⟩
      · rfl
      have e39 : a.tmps.getD 39 undef = .int .u32 (crcL bs : Int) := hs.dep 1 _ rfl rfl
      have e40 : a.tmps.getD 40 undef = .int .u32 (crcL bs : Int) := hs.dep 2 _ rfl rfl
      refine ValWp.pure (v := .bool true) (fun K' hK' => ?_) ⟨rfl, hC, Later.refl _⟩
      simp only [ValWp, execOp, Act.eval, e39, e40]
      go_simp
      all_goals exact hK'
    · -- 4: slot 42 := Op.move t41
      refine fun a w hC hs => .inl ⟨?_, ?_⟩
      · rfl
      have e41 : a.tmps.getD 41 undef = .bool true := hs.dep 3 _ rfl rfl
      exact ⟨e41, hC, Later.refl _⟩
    · -- 5: slot 43 := Op.call { value (Operand.func 10), args := #[], argTypes := #[] } guarded (4, 'true')
      refine fun a w hC hs => .inl ⟨?_, ?_⟩
      · exact (by unfold Region.wanted; dsimp only; rw [yielded_bool (d := 42) rfl (hs.dep 4 _ rfl rfl)]; rfl)
      refine ValWp.call #[] rfl rfl Try.func10 rfl rfl (by simp only [List.map_toArray, List.map_nil]) ?_
      refine (new_v w).mono ?_
      rintro e w' ⟨rfl, rfl⟩
      exact ⟨_, rfl, rfl, hC, Later.refl _⟩
    · -- 6: slot 44 := Op.move t0 guarded (4, 'true')
      refine fun a w hC hs => .inl ⟨?_, ?_⟩
      · exact (by unfold Region.wanted; dsimp only; rw [yielded_bool (d := 42) rfl (hs.dep 4 _ rfl rfl)]; rfl)
      have e0 : a.tmps.getD 0 undef = .slice A0 n0 c0 := hs.free 0 rfl
      exact ⟨e0, hC, Later.refl _⟩
    · -- 7: slot 45 := Op.move t10 guarded (4, 'true')
      refine fun a w hC hs => .inl ⟨?_, ?_⟩
      · exact (by unfold Region.wanted; dsimp only; rw [yielded_bool (d := 42) rfl (hs.dep 4 _ rfl rfl)]; rfl)
      have e10 : a.tmps.getD 10 undef = .int .i64 (i : Int) := hs.free 10 rfl
      exact ⟨e10, hC, Later.refl _⟩
    · -- 8: slot 46 := Op.slice 22 t44 none (some t45) none guarded (4, 'true')
      refine fun a w hC hs => .inl ⟨?_, ?_⟩
      · exact (by unfold Region.wanted; dsimp only; rw [yielded_bool (d := 42) rfl (hs.dep 4 _ rfl rfl)]; rfl)
      have e44 : a.tmps.getD 44 undef = .slice A0 n0 c0 := hs.dep 6 _ rfl rfl
      have e45 : a.tmps.getD 45 undef = .int .i64 (i : Int) := hs.dep 7 _ rfl rfl
      refine ValWp.pure (v := .slice A0 i c0) (fun K' hK' => ?_) ⟨rfl, hC, Later.refl _⟩
      simp only [ValWp, execOp, Act.eval, Option.map_some, Option.map_none, e44, e45]
      go_simp
      all_goals exact hK'
    · -- 9: slot 47 := Op.buildSlice 37 1 #[(0, t46)] guarded (4, 'true')
      refine fun a w hC hs => .inl ⟨?_, ?_⟩
      · exact (by unfold Region.wanted; dsimp only; rw [yielded_bool (d := 42) rfl (hs.dep 4 _ rfl rfl)]; rfl)
      have e46 : a.tmps.getD 46 undef = .slice A0 i c0 := hs.dep 8 _ rfl rfl
      refine ValWp.pure (v := .slice (some ⟨w.heap.size, 0, none⟩) 1 1) (w' := w.alloc (.cells #[.slice A0 i c0] 22)) (fun K' hK' => ?_) ⟨⟨_, _, rfl, (by simpa using RdL.one (c := c0) (Q1.out.below hC) (Below.size hC) (by unfold maxLen; omega) 22)⟩, Later.trans hC (Later.alloc _ _), Later.alloc _ _⟩
      simp only [ValWp, execOp, Act.eval, List.map_toArray, List.map_cons, List.map_nil, e46]
      go_simp
      all_goals exact hK'
    · -- 10: slot 48 := Op.call { value (Operand.func 11), args := #[t43, t47], argTypes := #[28, 37] } guarded (4, 'true')
      refine fun a w hC hs => .inl ⟨?_, ?_⟩
      · exact (by unfold Region.wanted; dsimp only; rw [yielded_bool (d := 42) rfl (hs.dep 4 _ rfl rfl)]; rfl)
      have e43 : a.tmps.getD 43 undef = .int .u32 0 := hs.dep 5 _ rfl rfl
      obtain ⟨A47, c47, e47, h47⟩ := hs.dep 9 _ rfl rfl
      change a.tmps.getD 47 undef = _ at e47
      refine ValWp.call #[.int .u32 0, .slice A47 1 c47] rfl rfl Try.func11 rfl rfl (by simp only [List.map_toArray, List.map_cons, List.map_nil, Act.eval, e43, e47]) ?_
      refine (sumAdd0_v A47 1 c47 _ [b1] w h47 (by omega)).mono ?_
      rintro e w' ⟨rfl, rfl⟩
      exact ⟨_, rfl, (by rw [flat_one, HSC.out]; rfl), hC, Later.refl _⟩
    · -- 11: slot 49 := Op.move t0 guarded (4, 'true')
      refine fun a w hC hs => .inl ⟨?_, ?_⟩
      · exact (by unfold Region.wanted; dsimp only; rw [yielded_bool (d := 42) rfl (hs.dep 4 _ rfl rfl)]; rfl)
      have e0 : a.tmps.getD 0 undef = .slice A0 n0 c0 := hs.free 0 rfl
      exact ⟨e0, hC, Later.refl _⟩
    · -- 12: slot 50 := Op.move t10 guarded (4, 'true')
      refine fun a w hC hs => .inl ⟨?_, ?_⟩
      · exact (by unfold Region.wanted; dsimp only; rw [yielded_bool (d := 42) rfl (hs.dep 4 _ rfl rfl)]; rfl)
      have e10 : a.tmps.getD 10 undef = .int .i64 (i : Int) := hs.free 10 rfl
      exact ⟨e10, hC, Later.refl _⟩
    · -- 13: slot 51 := Op.move t11 guarded (4, 'true')
      refine fun a w hC hs => .inl ⟨?_, ?_⟩
      · exact (by unfold Region.wanted; dsimp only; rw [yielded_bool (d := 42) rfl (hs.dep 4 _ rfl rfl)]; rfl)
      have e11 : a.tmps.getD 11 undef = .int .i64 (j : Int) := hs.free 11 rfl
      exact ⟨e11, hC, Later.refl _⟩
    · -- 14: slot 52 := Op.slice 22 t49 (some t50) (some t51) none guarded (4, 'true')
      refine fun a w hC hs => .inl ⟨?_, ?_⟩
      · exact (by unfold Region.wanted; dsimp only; rw [yielded_bool (d := 42) rfl (hs.dep 4 _ rfl rfl)]; rfl)
      have e49 : a.tmps.getD 49 undef = .slice A0 n0 c0 := hs.dep 11 _ rfl rfl
      have e50 : a.tmps.getD 50 undef = .int .i64 (i : Int) := hs.dep 12 _ rfl rfl
      have e51 : a.tmps.getD 51 undef = .int .i64 (j : Int) := hs.dep 13 _ rfl rfl
      refine ValWp.pure (v := .slice (if c0 = i then A0 else A0.map (·.add i)) (j - i) (c0 - i)) (fun K' hK' => ?_) ⟨rfl, hC, Later.refl _⟩
      simp only [ValWp, execOp, Act.eval, Option.map_some, Option.map_none, e49, e50, e51]
      go_simp
      all_goals exact hK'
    · -- 15: slot 53 := Op.move t0 guarded (4, 'true')
      refine fun a w hC hs => .inl ⟨?_, ?_⟩
      · exact (by unfold Region.wanted; dsimp only; rw [yielded_bool (d := 42) rfl (hs.dep 4 _ rfl rfl)]; rfl)
      have e0 : a.tmps.getD 0 undef = .slice A0 n0 c0 := hs.free 0 rfl
      exact ⟨e0, hC, Later.refl _⟩
    · -- 16: slot 54 := Op.move t11 guarded (4, 'true')
      refine fun a w hC hs => .inl ⟨?_, ?_⟩
      · exact (by unfold Region.wanted; dsimp only; rw [yielded_bool (d := 42) rfl (hs.dep 4 _ rfl rfl)]; rfl)
      have e11 : a.tmps.getD 11 undef = .int .i64 (j : Int) := hs.free 11 rfl
      exact ⟨e11, hC, Later.refl _⟩
    · -- 17: slot 55 := Op.slice 22 t53 (some t54) none none guarded (4, 'true')
      refine fun a w hC hs => .inl ⟨?_, ?_⟩
      · exact (by unfold Region.wanted; dsimp only; rw [yielded_bool (d := 42) rfl (hs.dep 4 _ rfl rfl)]; rfl)
      have e53 : a.tmps.getD 53 undef = .slice A0 n0 c0 := hs.dep 15 _ rfl rfl
      have e54 : a.tmps.getD 54 undef = .int .i64 (j : Int) := hs.dep 16 _ rfl rfl
      refine ValWp.pure (v := .slice (if c0 = j then A0 else A0.map (·.add j)) (n0 - j) (c0 - j)) (fun K' hK' => ?_) ⟨rfl, hC, Later.refl _⟩
      simp only [ValWp, execOp, Act.eval, Option.map_some, Option.map_none, e53, e54]
      go_simp
      all_goals exact hK'
    · -- 18: slot 56 := Op.buildSlice 37 2 #[(0, t52), (1, t55)] guarded (4, 'true')
      refine fun a w hC hs => .inl ⟨?_, ?_⟩
      · exact (by unfold Region.wanted; dsimp only; rw [yielded_bool (d := 42) rfl (hs.dep 4 _ rfl rfl)]; rfl)
      have e52 : a.tmps.getD 52 undef = .slice (if c0 = i then A0 else A0.map (·.add i)) (j - i) (c0 - i) := hs.dep 14 _ rfl rfl
      have e55 : a.tmps.getD 55 undef = .slice (if c0 = j then A0 else A0.map (·.add j)) (n0 - j) (c0 - j) := hs.dep 17 _ rfl rfl
      refine ValWp.pure (v := .slice (some ⟨w.heap.size, 0, none⟩) 2 2) (w' := w.alloc (.cells #[.slice (if c0 = i then A0 else A0.map (·.add i)) (j - i) (c0 - i), .slice (if c0 = j then A0 else A0.map (·.add j)) (n0 - j) (c0 - j)] 22)) (fun K' hK' => ?_) ⟨⟨_, _, rfl, (by simpa using RdL.two (c := c0 - i) (c' := c0 - j) (Q2.out.below hC) (Q3.out.below hC) (Below.size hC) (Below.size hC) (by unfold maxLen; omega) (by unfold maxLen; omega) 22)⟩, Later.trans hC (Later.alloc _ _), Later.alloc _ _⟩
      simp only [ValWp, execOp, Act.eval, List.map_toArray, List.map_cons, List.map_nil, e52, e55]
      go_simp
      all_goals exact hK'
    · -- 19: slot 57 := Op.call { value (Operand.func 11), args := #[t48, t56], argTypes := #[28, 37] } guarded (4, 'true')
      refine fun a w hC hs => .inl ⟨?_, ?_⟩
      · exact (by unfold Region.wanted; dsimp only; rw [yielded_bool (d := 42) rfl (hs.dep 4 _ rfl rfl)]; rfl)
      have e48 : a.tmps.getD 48 undef = .int .u32 (s : Int) := hs.dep 10 _ rfl rfl
      obtain ⟨A56, c56, e56, h56⟩ := hs.dep 18 _ rfl rfl
      change a.tmps.getD 56 undef = _ at e56
      refine ValWp.call #[.int .u32 (s : Int), .slice A56 2 c56] rfl rfl Try.func11 rfl rfl (by simp only [List.map_toArray, List.map_cons, List.map_nil, Act.eval, e48, e56]) ?_
      refine (sumAdd_v s A56 2 c56 _ [b2, b3] w h56 (by omega) (by omega)).mono ?_
      rintro e w' ⟨rfl, rfl⟩
      exact ⟨_, rfl, (by rw [H57.out]; rfl), hC, Later.refl _⟩
    · -- 20: slot 58 := Op.move t12 guarded (4, 'true')
      refine fun a w hC hs => .inl ⟨?_, ?_⟩
      · exact (by unfold Region.wanted; dsimp only; rw [yielded_bool (d := 42) rfl (hs.dep 4 _ rfl rfl)]; rfl)
      have e12 : a.tmps.getD 12 undef = .int .u32 (crcL bs : Int) := hs.free 12 rfl
      exact ⟨e12, hC, Later.refl _⟩
    · -- 21: slot 59 := Op.binOp BinOp.eql 24 t57 t58 24 guarded (4, 'true')
      refine fun a w hC hs => .inl ⟨?_, ?_⟩
      · exact (by unfold Region.wanted; dsimp only; rw [yielded_bool (d := 42) rfl (hs.dep 4 _ rfl rfl)]; rfl)
      have e57 : a.tmps.getD 57 undef = .int .u32 (crcL bs : Int) := hs.dep 19 _ rfl rfl
      have e58 : a.tmps.getD 58 undef = .int .u32 (crcL bs : Int) := hs.dep 20 _ rfl rfl
      refine ValWp.pure (v := .bool true) (fun K' hK' => ?_) ⟨rfl, hC, Later.refl _⟩
      simp only [ValWp, execOp, Act.eval, e57, e58]
      go_simp
      all_goals exact hK'
    · -- 22: slot 60 := Op.pick t42 t59 (const (Value.bool false))
      refine fun a w hC hs => .inl ⟨?_, ?_⟩
      · rfl
      have e42 : a.tmps.getD 42 undef = .bool true := hs.dep 4 _ rfl rfl
      have e59 : a.tmps.getD 59 undef = .bool true := hs.dep 21 _ rfl rfl
      refine ValWp.pure (v := .bool true) (fun K' hK' => ?_) ⟨rfl, hC, Later.refl _⟩
      simp only [ValWp, execOp, Act.eval, e42, e59]
      go_simp
      all_goals exact hK'
    · -- 23: slot 61 := Op.move t60
      refine fun a w hC hs => .inl ⟨?_, ?_⟩
      · rfl
      have e60 : a.tmps.getD 60 undef = .bool true := hs.dep 22 _ rfl rfl
      exact ⟨e60, hC, Later.refl _⟩
    · -- 24: slot 62 := Op.move t3 guarded (23, 'true')
      refine fun a w hC hs => .inl ⟨?_, ?_⟩
      · exact (by unfold Region.wanted; dsimp only; rw [yielded_bool (d := 61) rfl (hs.dep 23 _ rfl rfl)]; rfl)
      have e3 : a.tmps.getD 3 undef = .int .u32 (X : Int) := hs.free 3 rfl
      exact ⟨e3, hC, Later.refl _⟩
    · -- 25: slot 63 := Op.call { value (Operand.func 12), args := #[t62], argTypes := #[24] } guarded (23, 'true')
      refine fun a w hC hs => .inl ⟨?_, ?_⟩
      · exact (by unfold Region.wanted; dsimp only; rw [yielded_bool (d := 61) rfl (hs.dep 23 _ rfl rfl)]; rfl)
      have e62 : a.tmps.getD 62 undef = .int .u32 (X : Int) := hs.dep 24 _ rfl rfl
      refine ValWp.call #[.int .u32 (X : Int)] rfl rfl Try.func12 rfl rfl (by simp only [List.map_toArray, List.map_cons, List.map_nil, Act.eval, e62]) ?_
      refine (tail_v X w HX.out).mono ?_
      rintro e w' ⟨v', rfl, hg⟩
      obtain ⟨A, c, rfl, _, h2, _⟩ := own_slice hg.own
      exact ⟨_, rfl, ⟨A, c, rfl, h2⟩, Later.trans hC hg.belowNil, hg.belowNil⟩
    · -- 26: slot 64 := Op.convert 22 9 t63 guarded (23, 'true')
      refine fun a w hC hs => .inl ⟨?_, ?_⟩
      · exact (by unfold Region.wanted; dsimp only; rw [yielded_bool (d := 61) rfl (hs.dep 23 _ rfl rfl)]; rfl)
      obtain ⟨A63, c63, e63, h63⟩ := hs.dep 25 _ rfl rfl
      change a.tmps.getD 63 undef = _ at e63
      have hcv := run_str_of (P := Try.prog) h63 22 9 5 Try.underlying22 Try.underlying5 Try.underlying9 c63
      refine ValWp.pure (v := .string (mkS (tailL X))) (fun K' hK' => ?_) ⟨rfl, hC, Later.refl _⟩
      simp only [ValWp, execOp, Act.eval, e63]
      go_simp
      all_goals exact hK'
    · -- 27: slot 65 := Op.move t3 guarded (23, 'true')
      refine fun a w hC hs => .inl ⟨?_, ?_⟩
      · exact (by unfold Region.wanted; dsimp only; rw [yielded_bool (d := 61) rfl (hs.dep 23 _ rfl rfl)]; rfl)
      have e3 : a.tmps.getD 3 undef = .int .u32 (X : Int) := hs.free 3 rfl
      exact ⟨e3, hC, Later.refl _⟩
    · -- 28: slot 66 := Op.call { value (Operand.func 13), args := #[t65], argTypes := #[24] } guarded (23, 'true')
      refine fun a w hC hs => .inl ⟨?_, ?_⟩
      · exact (by unfold Region.wanted; dsimp only; rw [yielded_bool (d := 61) rfl (hs.dep 23 _ rfl rfl)]; rfl)
      have e65 : a.tmps.getD 65 undef = .int .u32 (X : Int) := hs.dep 27 _ rfl rfl
      refine ValWp.call #[.int .u32 (X : Int)] rfl rfl Try.func13 rfl rfl (by simp only [List.map_toArray, List.map_cons, List.map_nil, Act.eval, e65]) ?_
      refine (refTail_v X w HX.out).mono ?_
      rintro e w' ⟨rfl, hb⟩
      exact ⟨_, rfl, rfl, Later.trans hC hb, hb⟩
    · -- 29: slot 67 := Op.binOp BinOp.eql 9 t64 t66 9 guarded (23, 'true')
      refine fun a w hC hs => .inl ⟨?_, ?_⟩
      · exact (by unfold Region.wanted; dsimp only; rw [yielded_bool (d := 61) rfl (hs.dep 23 _ rfl rfl)]; rfl)
      have e64 : a.tmps.getD 64 undef = .string (mkS (tailL X)) := hs.dep 26 _ rfl rfl
      have e66 : a.tmps.getD 66 undef = .string (mkS (tailL X)) := hs.dep 28 _ rfl rfl
      refine ValWp.pure (v := .bool true) (fun K' hK' => ?_) ⟨rfl, hC, Later.refl _⟩
      simp only [ValWp, execOp, Act.eval, e64, e66]
      go_simp
      all_goals exact hK'
    · -- 30: slot 68 := Op.pick t61 t67 (const (Value.bool false))
      refine fun a w hC hs => .inl ⟨?_, ?_⟩
      · rfl
      have e61 : a.tmps.getD 61 undef = .bool true := hs.dep 23 _ rfl rfl
      have e67 : a.tmps.getD 67 undef = .bool true := hs.dep 29 _ rfl rfl
      refine ValWp.pure (v := .bool true) (fun K' hK' => ?_) ⟨rfl, hC, Later.refl _⟩
      simp only [ValWp, execOp, Act.eval, e61, e67]
      go_simp
      all_goals exact hK'
    · -- 31: slot 69 := Op.move t68
      refine fun a w hC hs => .inl ⟨?_, ?_⟩
      · rfl
      have e68 : a.tmps.getD 68 undef = .bool true := hs.dep 30 _ rfl rfl
      exact ⟨e68, hC, Later.refl _⟩
    · -- 32: slot 70 := Op.call { value (Operand.func 10), args := #[], argTypes := #[] } guarded (31, 'true')
      refine fun a w hC hs => .inl ⟨?_, ?_⟩
      · exact (by unfold Region.wanted; dsimp only; rw [yielded_bool (d := 69) rfl (hs.dep 31 _ rfl rfl)]; rfl)
      refine ValWp.call #[] rfl rfl Try.func10 rfl rfl (by simp only [List.map_toArray, List.map_nil]) ?_
      refine (new_v w).mono ?_
      rintro e w' ⟨rfl, rfl⟩
      exact ⟨_, rfl, rfl, hC, Later.refl _⟩
    · -- 33: slot 71 := Op.binOp BinOp.eql 28 t70 (const (0:u32)) 28 guarded (31, 'true')
      refine fun a w hC hs => .inl ⟨?_, ?_⟩
      · exact (by unfold Region.wanted; dsimp only; rw [yielded_bool (d := 69) rfl (hs.dep 31 _ rfl rfl)]; rfl)
      have e70 : a.tmps.getD 70 undef = .int .u32 0 := hs.dep 32 _ rfl rfl
      refine ValWp.pure (v := .bool true) (fun K' hK' => ?_) ⟨rfl, hC, Later.refl _⟩
      simp only [ValWp, execOp, Act.eval, e70]
      go_simp
      all_goals exact hK'
    · -- 34: slot 72 := Op.pick t69 t71 (const (Value.bool false))
      refine fun a w hC hs => .inl ⟨?_, ?_⟩
      · rfl
      have e69 : a.tmps.getD 69 undef = .bool true := hs.dep 31 _ rfl rfl
      have e71 : a.tmps.getD 71 undef = .bool true := hs.dep 33 _ rfl rfl
      refine ValWp.pure (v := .bool true) (fun K' hK' => ?_) ⟨rfl, hC, Later.refl _⟩
      simp only [ValWp, execOp, Act.eval, e69, e71]
      go_simp
      all_goals exact hK'
    · -- 35: slot 8 := Op.assign t72
      refine fun a w hC hs => .inl ⟨?_, ?_⟩
      · rfl
      have e72 : a.tmps.getD 72 undef = .bool true := hs.dep 34 _ rfl rfl
      exact ⟨e72, hC, Later.refl _⟩
  · intro a w' hC hd hs hf hr
    have e8 : a.tmps.getD 8 undef = .bool true := hr 35 _ rfl
    have hd' : a.defers = [] := hd
    clear hd hs hf hr
    go_wp2
    refine bodyPost_ret (results_tmp rfl _ _ _) hd' ?_
    exact ⟨by rw [e8], HB1.out.trans (Below.mono hC hs1)⟩
end crcOf
end Go.Proofs.Ytidckelgicklcaa
