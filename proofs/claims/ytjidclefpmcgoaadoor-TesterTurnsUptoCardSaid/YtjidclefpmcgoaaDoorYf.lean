/- The document's digits of a text. No premises. -/
import Derived.Test.YtjidclefpmcgoaaDoorYe
import Derived.BigQuiet
namespace Go.Proofs.YtjidclefpmcgoaaDoor
open Go.RowKit Go.Maps
namespace Ar
theorem sgetk (l : List UInt8) (k : Nat) (_ : k < l.length) : ∀ h2 : k < (mkS l).size, (mkS l)[k]'h2 = l[k] := fun _ => rfl
theorem isEmpty_bne (l : List UInt8) : (!l.isEmpty) = (l != []) := by cases l <;> rfl
set_option maxRecDepth 100000 in
theorem blank_tab : ∀ i : _root_.Fin 256, blank (UInt8.ofNat i.1) = (decide (i.1 = 32) || decide (i.1 = 9) || decide (i.1 = 10)) := by decide +kernel
theorem blank_is (c : UInt8) : blank c = (((c.toNat : Int) == 32) || ((c.toNat : Int) == 9) || ((c.toNat : Int) == 10)) := by
  have h := blank_tab ⟨c.toNat, UInt8.toNat_lt c⟩
  rw [show UInt8.ofNat c.toNat = c from UInt8.ofNat_toNat] at h
  rw [h]
  have e : ∀ k : Nat, decide (c.toNat = k) = ((c.toNat : Int) == (k : Int)) := fun k => by
    by_cases hk : c.toNat = k
    · rw [hk]; simp
    · rw [decide_eq_false hk]; symm; rw [beq_eq_false_iff_ne]; omega
  rw [e, e, e]
  rfl
set_option maxRecDepth 100000 in
theorem blank_v (c : UInt8) (W : World) : Calls Tryd.prog 36 #[.int .u8 (c.toNat : Int)] W fun e W' => e = .returned (.bool (blank c)) ∧ W' = W := by
  have HB := Lib.hid (blank_is c)
  obtain ⟨x, hx⟩ : ∃ x : Int, x = (c.toNat : Int) := ⟨_, rfl⟩
  rw [← hx] at HB ⊢
  obtain ⟨b1, h1⟩ : ∃ b, (x == 32) = b := ⟨_, rfl⟩
  obtain ⟨b2, h2⟩ : ∃ b, (x == 9) = b := ⟨_, rfl⟩
  obtain ⟨b3, h3⟩ : ∃ b, (x == 10) = b := ⟨_, rfl⟩
  rw [h1, h2, h3] at HB
  clear hx
  cases b1 <;> cases b2 <;> cases b3
  all_goals (
    go_enter Tryd.func36, Tryd.ntmps36
    go_wp2
    go_ret
    exact ⟨ret_bool HB.out.symm, rfl⟩)
set_option maxHeartbeats 800000 in
set_option maxRecDepth 100000 in
theorem digit_v (c : UInt8) (W : World) : Calls Tryd.prog 48 #[.int .u8 (c.toNat : Int)] W fun e W' => e = .returned (.int .i64 (dR c : Nat)) ∧ W' = W := by
  have hlt := UInt8.toNat_lt c
  obtain ⟨x, hx⟩ : ∃ x : Int, x = (c.toNat : Int) := ⟨_, rfl⟩
  have hd : (dR c : Int) = if 48 ≤ x ∧ x ≤ 57 then x - 48 else if 97 ≤ x ∧ x ≤ 102 then x - 97 + 10 else if 65 ≤ x ∧ x ≤ 70 then x - 65 + 10 else 16 := by
    unfold dR
    split <;> split <;> try split
    all_goals try split
    all_goals try split
    all_goals omega
  rw [← hx, hd]
  have hx0 : 0 ≤ x := by omega
  have hx1 : x < 256 := by omega
  clear hx hd hlt
  by_cases a1 : 48 ≤ x
  · by_cases a2 : x ≤ 57
    · rw [if_pos ⟨a1, a2⟩]
      go_enter Tryd.func48, Tryd.ntmps48
      go_wp2
      go_ret
      exact ⟨by first | rfl | (congr 2; omega), rfl⟩
    · rw [if_neg fun e => a2 e.2]
      by_cases b1 : 97 ≤ x
      · by_cases b2 : x ≤ 102
        · rw [if_pos ⟨b1, b2⟩]
          go_enter Tryd.func48, Tryd.ntmps48
          go_wp2
          go_ret
          exact ⟨by first | rfl | (congr 2; omega), rfl⟩
        · rw [if_neg fun e => b2 e.2, if_neg fun e => by omega]
          have c1 : 65 ≤ x := by omega
          have c2 : ¬ x ≤ 70 := by omega
          go_enter Tryd.func48, Tryd.ntmps48
          go_wp2
          go_ret
          exact ⟨rfl, rfl⟩
      · rw [if_neg fun e => b1 e.1]
        by_cases c1 : 65 ≤ x
        · by_cases c2 : x ≤ 70
          · rw [if_pos ⟨c1, c2⟩]
            go_enter Tryd.func48, Tryd.ntmps48
            go_wp2
            go_ret
            exact ⟨by first | rfl | (congr 2; omega), rfl⟩
          · rw [if_neg fun e => c2 e.2]
            go_enter Tryd.func48, Tryd.ntmps48
            go_wp2
            go_ret
            exact ⟨rfl, rfl⟩
        · rw [if_neg fun e => c1 e.1]
          go_enter Tryd.func48, Tryd.ntmps48
          go_wp2
          go_ret
          exact ⟨rfl, rfl⟩
  · rw [if_neg fun e => a1 e.1, if_neg fun e => by omega, if_neg fun e => by omega]
    have b1 : ¬ 97 ≤ x := by omega
    have c1 : ¬ 65 ≤ x := by omega
    go_enter Tryd.func48, Tryd.ntmps48
    go_wp2
    go_ret
    exact ⟨rfl, rfl⟩
/-- One step of the loop. -/
theorem step_ok {b : Nat} (hb : b = 8 ∨ b = 10 ∨ b = 16) {D : L} {j : Nat} (hj : j < D.length) (h : (D.take j).all (isD b) = true) (hd : dR D[j] < b) : val b (D.take (j + 1)) = val b (D.take j) * b + dR D[j] ∧ (D.take (j + 1)).all (isD b) = true := by
  have h1 := dR_all D[j]
  refine ⟨by rw [val_step b hj, h1.2.2.2.1 (by omega)], all_step b hj h (by rw [dR_is hb]; exact decide_eq_true hd)⟩
theorem step_bad {b : Nat} (hb : b = 8 ∨ b = 10 ∨ b = 16) {D : L} {j : Nat} (hj : j < D.length) (hd : ¬ dR D[j] < b) : numB b D = none := by
  unfold numB
  rw [if_neg (not_ok_dig hj (by rw [dR_is hb]; exact decide_eq_false hd))]
theorem step_big {b : Nat} (hb : b = 8 ∨ b = 10 ∨ b = 16) {D : L} {j : Nat} (hj : j < D.length) (hd : dR D[j] < b) (hv : 9223372036854775808 ≤ val b (D.take j) * b + dR D[j]) : numB b D = none := by
  have h1 := dR_all D[j]
  unfold numB
  rw [if_neg (not_ok_big (b := b) (by omega) (k := j + 1) (by rw [val_step b hj, h1.2.2.2.1 (by omega)]; exact hv))]
theorem end_ok {b : Nat} {D : L} {a : Nat} (h1 : a = val b D) (h2 : a < 9223372036854775808) (h3 : D.all (isD b) = true) : numB b D = some a := by
  unfold numB
  rw [if_pos ⟨h3, by omega⟩, h1]
set_option maxHeartbeats 3200000 in
set_option maxRecDepth 100000 in
theorem loop16x (l : L) (hl : l.length ≤ 2000000) (d : UInt8) (r : L) (hs : l = 48 :: 120 :: d :: r) (D : L) (hD : D = l.drop 2) (W : World) : Calls Tryd.prog 37 #[.string (mkS l)] W fun e W' => e = .returned (.tuple #[.int .i64 (((numB 16 D).getD 0 : Nat) : Int), .bool ((numB 16 D).isSome && (l != []))]) ∧ W' = W := by
  obtain ⟨n, hn⟩ : ∃ n, n = l.length := ⟨_, rfl⟩
  have hz : (mkS l).size = n := by rw [mkS_size, hn]
  have HN := Lib.hid (And.intro hn hD)
  have hn2 : 2 < n := by rw [hn, hs]; simp
  have hi2 : (2 : Int) < (n : Int) := by omega
  have hg0 : ∀ h, (mkS l)[0]'h = 48 := by subst hs; intro h; rfl
  have hg1 : ∀ h, (mkS l)[1]'h = 120 := by subst hs; intro h; rfl
  clear hs
  have hne : ((mkS l).toList == ([] : List UInt8)) = false := by rw [toList_mkS]; exact beq_eq_false_iff_ne.2 (by rintro rfl; simp at hn; omega)
  have hne2 : (l != []) = true := by rw [bne_iff_ne]; rintro rfl; simp at hn; omega
  rw [hne2]
  rw [← hn] at hl
  clear hn hD
  go_enter Tryd.func37, Tryd.ntmps37
  go_wp2
  go_loopw [6, 7] (fun nv iv wr => ∃ (k : Nat) (a : Int), 2 ≤ k ∧ k ≤ n ∧ nv = .int .i64 a ∧ iv = .int .i64 (k : Int) ∧ wr = W ∧ Hid (a = (val 16 (D.take (k - 2)) : Nat) ∧ a < 9223372036854775808 ∧ (D.take (k - 2)).all (isD 16) = true)) (fun _ iv _ => n - (intOf iv).toNat)
  case atStart => exact ⟨2, 0, by omega, by omega, rfl, rfl, rfl, Lib.hid ⟨rfl, by omega, rfl⟩⟩
  case round =>
    obtain ⟨k, a, hk1, hk2, rfl, rfl, hw, hm⟩ := hrel
    subst hw
    have hk0 : (0 : Int) ≤ (k : Int) := by omega
    have ai0 : 0 ≤ a := by have := hm.out.1; omega
    have ai1 : a < 9223372036854775808 := hm.out.2.1
    by_cases hkn : k < n
    · have hki : (k : Int) < (n : Int) := by omega
      have hkl : k < l.length := by rw [← HN.out.1]; exact hkn
      have hj : k - 2 < D.length := by rw [HN.out.2, List.length_drop]; omega
      obtain ⟨x, hx⟩ : ∃ x, x = D[k - 2] := ⟨_, rfl⟩
      have hgx : ∀ h, (mkS l)[k]'h = x := by
        intro h
        rw [sgetk l k hkl h, hx]
        have := HN.out.2
        subst this
        rw [List.getElem_drop]
        congr 1
        omega
      have HD := Lib.hid (fun W => digit_v x W)
      have hd16 := (dR_all x).2.2.2.2
      have HOK := Lib.hid (fun h => step_ok (b := 16) (by omega) hj hm.out.2.2 h)
      have HBAD := Lib.hid (fun h => step_bad (b := 16) (by omega) hj h)
      have HBIG := Lib.hid (fun h h2 => step_big (b := 16) (by omega) hj h h2)
      have HA := Lib.hid hm.out.1
      have HKS := Lib.hid (show k + 1 - 2 = k - 2 + 1 by omega)
      rw [← hx] at HOK HBAD HBIG
      obtain ⟨d, hd⟩ : ∃ d, d = dR x := ⟨_, rfl⟩
      rw [← hd] at hd16 HD HOK HBAD HBIG
      have hw1 : wrap64 ((k : Int) + 1) = (k : Int) + 1 := w64 _ (by omega)
      clear hx hd hj hkl hm
      by_cases hdb : d < 16
      · have g1 : ¬ ((16 : Int) ≤ (d : Int)) := by omega
        obtain ⟨q, hq⟩ : ∃ q : Int, (9223372036854775807 - (d : Int)) / 16 = q := ⟨_, rfl⟩
        by_cases hbig : q < a
        · have HNO := Lib.hid (HBIG.out hdb (by have := HA.out; omega))
          have HDB := Lib.hid hdb
          clear hdb
          go_wp2_with (go_at_call 48; (with_reducible refine (HD.out _).mono ?_); rintro e w3 ⟨rfl, rfl⟩)
          go_ret2
          rw [HNO.out]
          exact ⟨rfl, by first | rfl | trivial⟩
        · have hqa : a ≤ q := by omega
          have hle : a * 16 + (d : Int) < 9223372036854775808 := by omega
          have hw2 : wrap64 (a * 16) = a * 16 := w64 _ (by omega)
          have hw3 : wrap64 (a * 16 + (d : Int)) = a * 16 + (d : Int) := w64 _ (by omega)
          have HNX := Lib.hid (HOK.out hdb)
          have HLE := Lib.hid hle
          clear hdb hle hbig
          go_wp2_with (go_at_call 48; (with_reducible refine (HD.out _).mono ?_); rintro e w3 ⟨rfl, rfl⟩)
          refine ⟨⟨k + 1, a * 16 + (d : Int), by omega, by omega, rfl, by go_num, by first | rfl | trivial, Lib.hid ⟨?_, HLE.out, ?_⟩⟩, by simp [intOf]; omega⟩
          · rw [HKS.out, HNX.out.1, HA.out]; push_cast; rfl
          · rw [HKS.out]; exact HNX.out.2
      · have g1 : (16 : Int) ≤ (d : Int) := by omega
        have HNO := Lib.hid (HBAD.out hdb)
        clear hdb
        go_wp2_with (go_at_call 48; (with_reducible refine (HD.out _).mono ?_); rintro e w3 ⟨rfl, rfl⟩)
        go_ret2
        rw [HNO.out]
        exact ⟨rfl, by first | rfl | trivial⟩
    · have hkk : ¬ ((k : Int) < (n : Int)) := by omega
      have HRES := Lib.hid (show numB 16 D = some a.toNat ∧ a = ((a.toNat : Nat) : Int) by
        have h := hm.out
        rw [List.take_of_length_le (by rw [HN.out.2, List.length_drop]; have := HN.out.1; omega)] at h
        exact ⟨end_ok (by omega) (by omega) h.2.2, by omega⟩)
      clear hkn hm
      go_wp2
      go_ret2
      rw [HRES.out.1]
      simp only [Option.getD_some]
      rw [← HRES.out.2]
      all_goals exact ⟨by first | rfl | (simp; done), by first | rfl | trivial⟩
set_option maxHeartbeats 3200000 in
set_option maxRecDepth 100000 in
theorem loop16X (l : L) (hl : l.length ≤ 2000000) (d : UInt8) (r : L) (hs : l = 48 :: 88 :: d :: r) (D : L) (hD : D = l.drop 2) (W : World) : Calls Tryd.prog 37 #[.string (mkS l)] W fun e W' => e = .returned (.tuple #[.int .i64 (((numB 16 D).getD 0 : Nat) : Int), .bool ((numB 16 D).isSome && (l != []))]) ∧ W' = W := by
  obtain ⟨n, hn⟩ : ∃ n, n = l.length := ⟨_, rfl⟩
  have hz : (mkS l).size = n := by rw [mkS_size, hn]
  have HN := Lib.hid (And.intro hn hD)
  have hn2 : 2 < n := by rw [hn, hs]; simp
  have hi2 : (2 : Int) < (n : Int) := by omega
  have hg0 : ∀ h, (mkS l)[0]'h = 48 := by subst hs; intro h; rfl
  have hg1 : ∀ h, (mkS l)[1]'h = 88 := by subst hs; intro h; rfl
  clear hs
  have hne : ((mkS l).toList == ([] : List UInt8)) = false := by rw [toList_mkS]; exact beq_eq_false_iff_ne.2 (by rintro rfl; simp at hn; omega)
  have hne2 : (l != []) = true := by rw [bne_iff_ne]; rintro rfl; simp at hn; omega
  rw [hne2]
  rw [← hn] at hl
  clear hn hD
  go_enter Tryd.func37, Tryd.ntmps37
  go_wp2
  go_loopw [6, 7] (fun nv iv wr => ∃ (k : Nat) (a : Int), 2 ≤ k ∧ k ≤ n ∧ nv = .int .i64 a ∧ iv = .int .i64 (k : Int) ∧ wr = W ∧ Hid (a = (val 16 (D.take (k - 2)) : Nat) ∧ a < 9223372036854775808 ∧ (D.take (k - 2)).all (isD 16) = true)) (fun _ iv _ => n - (intOf iv).toNat)
  case atStart => exact ⟨2, 0, by omega, by omega, rfl, rfl, rfl, Lib.hid ⟨rfl, by omega, rfl⟩⟩
  case round =>
    obtain ⟨k, a, hk1, hk2, rfl, rfl, hw, hm⟩ := hrel
    subst hw
    have hk0 : (0 : Int) ≤ (k : Int) := by omega
    have ai0 : 0 ≤ a := by have := hm.out.1; omega
    have ai1 : a < 9223372036854775808 := hm.out.2.1
    by_cases hkn : k < n
    · have hki : (k : Int) < (n : Int) := by omega
      have hkl : k < l.length := by rw [← HN.out.1]; exact hkn
      have hj : k - 2 < D.length := by rw [HN.out.2, List.length_drop]; omega
      obtain ⟨x, hx⟩ : ∃ x, x = D[k - 2] := ⟨_, rfl⟩
      have hgx : ∀ h, (mkS l)[k]'h = x := by
        intro h
        rw [sgetk l k hkl h, hx]
        have := HN.out.2
        subst this
        rw [List.getElem_drop]
        congr 1
        omega
      have HD := Lib.hid (fun W => digit_v x W)
      have hd16 := (dR_all x).2.2.2.2
      have HOK := Lib.hid (fun h => step_ok (b := 16) (by omega) hj hm.out.2.2 h)
      have HBAD := Lib.hid (fun h => step_bad (b := 16) (by omega) hj h)
      have HBIG := Lib.hid (fun h h2 => step_big (b := 16) (by omega) hj h h2)
      have HA := Lib.hid hm.out.1
      have HKS := Lib.hid (show k + 1 - 2 = k - 2 + 1 by omega)
      rw [← hx] at HOK HBAD HBIG
      obtain ⟨d, hd⟩ : ∃ d, d = dR x := ⟨_, rfl⟩
      rw [← hd] at hd16 HD HOK HBAD HBIG
      have hw1 : wrap64 ((k : Int) + 1) = (k : Int) + 1 := w64 _ (by omega)
      clear hx hd hj hkl hm
      by_cases hdb : d < 16
      · have g1 : ¬ ((16 : Int) ≤ (d : Int)) := by omega
        obtain ⟨q, hq⟩ : ∃ q : Int, (9223372036854775807 - (d : Int)) / 16 = q := ⟨_, rfl⟩
        by_cases hbig : q < a
        · have HNO := Lib.hid (HBIG.out hdb (by have := HA.out; omega))
          have HDB := Lib.hid hdb
          clear hdb
          go_wp2_with (go_at_call 48; (with_reducible refine (HD.out _).mono ?_); rintro e w3 ⟨rfl, rfl⟩)
          go_ret2
          rw [HNO.out]
          exact ⟨rfl, by first | rfl | trivial⟩
        · have hqa : a ≤ q := by omega
          have hle : a * 16 + (d : Int) < 9223372036854775808 := by omega
          have hw2 : wrap64 (a * 16) = a * 16 := w64 _ (by omega)
          have hw3 : wrap64 (a * 16 + (d : Int)) = a * 16 + (d : Int) := w64 _ (by omega)
          have HNX := Lib.hid (HOK.out hdb)
          have HLE := Lib.hid hle
          clear hdb hle hbig
          go_wp2_with (go_at_call 48; (with_reducible refine (HD.out _).mono ?_); rintro e w3 ⟨rfl, rfl⟩)
          refine ⟨⟨k + 1, a * 16 + (d : Int), by omega, by omega, rfl, by go_num, by first | rfl | trivial, Lib.hid ⟨?_, HLE.out, ?_⟩⟩, by simp [intOf]; omega⟩
          · rw [HKS.out, HNX.out.1, HA.out]; push_cast; rfl
          · rw [HKS.out]; exact HNX.out.2
      · have g1 : (16 : Int) ≤ (d : Int) := by omega
        have HNO := Lib.hid (HBAD.out hdb)
        clear hdb
        go_wp2_with (go_at_call 48; (with_reducible refine (HD.out _).mono ?_); rintro e w3 ⟨rfl, rfl⟩)
        go_ret2
        rw [HNO.out]
        exact ⟨rfl, by first | rfl | trivial⟩
    · have hkk : ¬ ((k : Int) < (n : Int)) := by omega
      have HRES := Lib.hid (show numB 16 D = some a.toNat ∧ a = ((a.toNat : Nat) : Int) by
        have h := hm.out
        rw [List.take_of_length_le (by rw [HN.out.2, List.length_drop]; have := HN.out.1; omega)] at h
        exact ⟨end_ok (by omega) (by omega) h.2.2, by omega⟩)
      clear hkn hm
      go_wp2
      go_ret2
      rw [HRES.out.1]
      simp only [Option.getD_some]
      rw [← HRES.out.2]
      all_goals exact ⟨by first | rfl | (simp; done), by first | rfl | trivial⟩
set_option maxHeartbeats 3200000 in
set_option maxRecDepth 100000 in
theorem loop8a (l : L) (hl : l.length ≤ 2000000) (c : UInt8) (hs : l = [48, c]) (D : L) (hD : D = l.drop 1) (W : World) : Calls Tryd.prog 37 #[.string (mkS l)] W fun e W' => e = .returned (.tuple #[.int .i64 (((numB 8 D).getD 0 : Nat) : Int), .bool ((numB 8 D).isSome && (l != []))]) ∧ W' = W := by
  obtain ⟨n, hn⟩ : ∃ n, n = l.length := ⟨_, rfl⟩
  have hz : (mkS l).size = n := by rw [mkS_size, hn]
  have HN := Lib.hid (And.intro hn hD)
  have hn2 : n = 2 := by rw [hn, hs]; rfl
  have hi1 : (1 : Int) < (n : Int) := by omega
  have hi2 : ¬ (2 : Int) < (n : Int) := by omega
  have hg0 : ∀ h, (mkS l)[0]'h = 48 := by subst hs; intro h; rfl
  clear hs
  have hne : ((mkS l).toList == ([] : List UInt8)) = false := by rw [toList_mkS]; exact beq_eq_false_iff_ne.2 (by rintro rfl; simp at hn; omega)
  have hne2 : (l != []) = true := by rw [bne_iff_ne]; rintro rfl; simp at hn; omega
  rw [hne2]
  rw [← hn] at hl
  clear hn hD
  go_enter Tryd.func37, Tryd.ntmps37
  go_wp2
  go_loopw [6, 7] (fun nv iv wr => ∃ (k : Nat) (a : Int), 1 ≤ k ∧ k ≤ n ∧ nv = .int .i64 a ∧ iv = .int .i64 (k : Int) ∧ wr = W ∧ Hid (a = (val 8 (D.take (k - 1)) : Nat) ∧ a < 9223372036854775808 ∧ (D.take (k - 1)).all (isD 8) = true)) (fun _ iv _ => n - (intOf iv).toNat)
  case atStart => exact ⟨1, 0, by omega, by omega, rfl, rfl, rfl, Lib.hid ⟨rfl, by omega, rfl⟩⟩
  case round =>
    obtain ⟨k, a, hk1, hk2, rfl, rfl, hw, hm⟩ := hrel
    subst hw
    have hk0 : (0 : Int) ≤ (k : Int) := by omega
    have ai0 : 0 ≤ a := by have := hm.out.1; omega
    have ai1 : a < 9223372036854775808 := hm.out.2.1
    by_cases hkn : k < n
    · have hki : (k : Int) < (n : Int) := by omega
      have hkl : k < l.length := by rw [← HN.out.1]; exact hkn
      have hj : k - 1 < D.length := by rw [HN.out.2, List.length_drop]; omega
      obtain ⟨x, hx⟩ : ∃ x, x = D[k - 1] := ⟨_, rfl⟩
      have hgx : ∀ h, (mkS l)[k]'h = x := by
        intro h
        rw [sgetk l k hkl h, hx]
        have := HN.out.2
        subst this
        rw [List.getElem_drop]
        congr 1
        omega
      have HD := Lib.hid (fun W => digit_v x W)
      have hd16 := (dR_all x).2.2.2.2
      have HOK := Lib.hid (fun h => step_ok (b := 8) (by omega) hj hm.out.2.2 h)
      have HBAD := Lib.hid (fun h => step_bad (b := 8) (by omega) hj h)
      have HBIG := Lib.hid (fun h h2 => step_big (b := 8) (by omega) hj h h2)
      have HA := Lib.hid hm.out.1
      have HKS := Lib.hid (show k + 1 - 1 = k - 1 + 1 by omega)
      rw [← hx] at HOK HBAD HBIG
      obtain ⟨d, hd⟩ : ∃ d, d = dR x := ⟨_, rfl⟩
      rw [← hd] at hd16 HD HOK HBAD HBIG
      have hw1 : wrap64 ((k : Int) + 1) = (k : Int) + 1 := w64 _ (by omega)
      clear hx hd hj hkl hm
      by_cases hdb : d < 8
      · have g1 : ¬ ((8 : Int) ≤ (d : Int)) := by omega
        obtain ⟨q, hq⟩ : ∃ q : Int, (9223372036854775807 - (d : Int)) / 8 = q := ⟨_, rfl⟩
        by_cases hbig : q < a
        · have HNO := Lib.hid (HBIG.out hdb (by have := HA.out; omega))
          have HDB := Lib.hid hdb
          clear hdb
          go_wp2_with (go_at_call 48; (with_reducible refine (HD.out _).mono ?_); rintro e w3 ⟨rfl, rfl⟩)
          go_ret2
          rw [HNO.out]
          exact ⟨rfl, by first | rfl | trivial⟩
        · have hqa : a ≤ q := by omega
          have hle : a * 8 + (d : Int) < 9223372036854775808 := by omega
          have hw2 : wrap64 (a * 8) = a * 8 := w64 _ (by omega)
          have hw3 : wrap64 (a * 8 + (d : Int)) = a * 8 + (d : Int) := w64 _ (by omega)
          have HNX := Lib.hid (HOK.out hdb)
          have HLE := Lib.hid hle
          clear hdb hle hbig
          go_wp2_with (go_at_call 48; (with_reducible refine (HD.out _).mono ?_); rintro e w3 ⟨rfl, rfl⟩)
          refine ⟨⟨k + 1, a * 8 + (d : Int), by omega, by omega, rfl, by go_num, by first | rfl | trivial, Lib.hid ⟨?_, HLE.out, ?_⟩⟩, by simp [intOf]; omega⟩
          · rw [HKS.out, HNX.out.1, HA.out]; push_cast; rfl
          · rw [HKS.out]; exact HNX.out.2
      · have g1 : (8 : Int) ≤ (d : Int) := by omega
        have HNO := Lib.hid (HBAD.out hdb)
        clear hdb
        go_wp2_with (go_at_call 48; (with_reducible refine (HD.out _).mono ?_); rintro e w3 ⟨rfl, rfl⟩)
        go_ret2
        rw [HNO.out]
        exact ⟨rfl, by first | rfl | trivial⟩
    · have hkk : ¬ ((k : Int) < (n : Int)) := by omega
      have HRES := Lib.hid (show numB 8 D = some a.toNat ∧ a = ((a.toNat : Nat) : Int) by
        have h := hm.out
        rw [List.take_of_length_le (by rw [HN.out.2, List.length_drop]; have := HN.out.1; omega)] at h
        exact ⟨end_ok (by omega) (by omega) h.2.2, by omega⟩)
      clear hkn hm
      go_wp2
      go_ret2
      rw [HRES.out.1]
      simp only [Option.getD_some]
      rw [← HRES.out.2]
      all_goals exact ⟨by first | rfl | (simp; done), by first | rfl | trivial⟩
set_option maxHeartbeats 3200000 in
set_option maxRecDepth 100000 in
theorem loop8b (l : L) (hl : l.length ≤ 2000000) (c d : UInt8) (r : L) (hs : l = 48 :: c :: d :: r) (hx1 : c ≠ 120) (hx2 : c ≠ 88) (D : L) (hD : D = l.drop 1) (W : World) : Calls Tryd.prog 37 #[.string (mkS l)] W fun e W' => e = .returned (.tuple #[.int .i64 (((numB 8 D).getD 0 : Nat) : Int), .bool ((numB 8 D).isSome && (l != []))]) ∧ W' = W := by
  obtain ⟨n, hn⟩ : ∃ n, n = l.length := ⟨_, rfl⟩
  have hz : (mkS l).size = n := by rw [mkS_size, hn]
  have HN := Lib.hid (And.intro hn hD)
  have hn2 : 2 < n := by rw [hn, hs]; simp
  have hi1 : (1 : Int) < (n : Int) := by omega
  have hi2 : (2 : Int) < (n : Int) := by omega
  have hg0 : ∀ h, (mkS l)[0]'h = 48 := by subst hs; intro h; rfl
  have hg1 : ∀ h, (mkS l)[1]'h = c := by subst hs; intro h; rfl
  have e1 : ((c.toNat : Int) == 120) = false := by rw [beq_eq_false_iff_ne]; intro e; exact hx1 (UInt8.toNat_inj.1 (by have : (120 : UInt8).toNat = 120 := rfl; omega))
  have e2 : ((c.toNat : Int) == 88) = false := by rw [beq_eq_false_iff_ne]; intro e; exact hx2 (UInt8.toNat_inj.1 (by have : (88 : UInt8).toNat = 88 := rfl; omega))
  clear hs hx1 hx2
  have hne : ((mkS l).toList == ([] : List UInt8)) = false := by rw [toList_mkS]; exact beq_eq_false_iff_ne.2 (by rintro rfl; simp at hn; omega)
  have hne2 : (l != []) = true := by rw [bne_iff_ne]; rintro rfl; simp at hn; omega
  rw [hne2]
  rw [← hn] at hl
  clear hn hD
  go_enter Tryd.func37, Tryd.ntmps37
  go_wp2
  go_loopw [6, 7] (fun nv iv wr => ∃ (k : Nat) (a : Int), 1 ≤ k ∧ k ≤ n ∧ nv = .int .i64 a ∧ iv = .int .i64 (k : Int) ∧ wr = W ∧ Hid (a = (val 8 (D.take (k - 1)) : Nat) ∧ a < 9223372036854775808 ∧ (D.take (k - 1)).all (isD 8) = true)) (fun _ iv _ => n - (intOf iv).toNat)
  case atStart => exact ⟨1, 0, by omega, by omega, rfl, rfl, rfl, Lib.hid ⟨rfl, by omega, rfl⟩⟩
  case round =>
    obtain ⟨k, a, hk1, hk2, rfl, rfl, hw, hm⟩ := hrel
    subst hw
    have hk0 : (0 : Int) ≤ (k : Int) := by omega
    have ai0 : 0 ≤ a := by have := hm.out.1; omega
    have ai1 : a < 9223372036854775808 := hm.out.2.1
    by_cases hkn : k < n
    · have hki : (k : Int) < (n : Int) := by omega
      have hkl : k < l.length := by rw [← HN.out.1]; exact hkn
      have hj : k - 1 < D.length := by rw [HN.out.2, List.length_drop]; omega
      obtain ⟨x, hx⟩ : ∃ x, x = D[k - 1] := ⟨_, rfl⟩
      have hgx : ∀ h, (mkS l)[k]'h = x := by
        intro h
        rw [sgetk l k hkl h, hx]
        have := HN.out.2
        subst this
        rw [List.getElem_drop]
        congr 1
        omega
      have HD := Lib.hid (fun W => digit_v x W)
      have hd16 := (dR_all x).2.2.2.2
      have HOK := Lib.hid (fun h => step_ok (b := 8) (by omega) hj hm.out.2.2 h)
      have HBAD := Lib.hid (fun h => step_bad (b := 8) (by omega) hj h)
      have HBIG := Lib.hid (fun h h2 => step_big (b := 8) (by omega) hj h h2)
      have HA := Lib.hid hm.out.1
      have HKS := Lib.hid (show k + 1 - 1 = k - 1 + 1 by omega)
      rw [← hx] at HOK HBAD HBIG
      obtain ⟨d, hd⟩ : ∃ d, d = dR x := ⟨_, rfl⟩
      rw [← hd] at hd16 HD HOK HBAD HBIG
      have hw1 : wrap64 ((k : Int) + 1) = (k : Int) + 1 := w64 _ (by omega)
      clear hx hd hj hkl hm
      by_cases hdb : d < 8
      · have g1 : ¬ ((8 : Int) ≤ (d : Int)) := by omega
        obtain ⟨q, hq⟩ : ∃ q : Int, (9223372036854775807 - (d : Int)) / 8 = q := ⟨_, rfl⟩
        by_cases hbig : q < a
        · have HNO := Lib.hid (HBIG.out hdb (by have := HA.out; omega))
          have HDB := Lib.hid hdb
          clear hdb
          go_wp2_with (go_at_call 48; (with_reducible refine (HD.out _).mono ?_); rintro e w3 ⟨rfl, rfl⟩)
          go_ret2
          rw [HNO.out]
          exact ⟨rfl, by first | rfl | trivial⟩
        · have hqa : a ≤ q := by omega
          have hle : a * 8 + (d : Int) < 9223372036854775808 := by omega
          have hw2 : wrap64 (a * 8) = a * 8 := w64 _ (by omega)
          have hw3 : wrap64 (a * 8 + (d : Int)) = a * 8 + (d : Int) := w64 _ (by omega)
          have HNX := Lib.hid (HOK.out hdb)
          have HLE := Lib.hid hle
          clear hdb hle hbig
          go_wp2_with (go_at_call 48; (with_reducible refine (HD.out _).mono ?_); rintro e w3 ⟨rfl, rfl⟩)
          refine ⟨⟨k + 1, a * 8 + (d : Int), by omega, by omega, rfl, by go_num, by first | rfl | trivial, Lib.hid ⟨?_, HLE.out, ?_⟩⟩, by simp [intOf]; omega⟩
          · rw [HKS.out, HNX.out.1, HA.out]; push_cast; rfl
          · rw [HKS.out]; exact HNX.out.2
      · have g1 : (8 : Int) ≤ (d : Int) := by omega
        have HNO := Lib.hid (HBAD.out hdb)
        clear hdb
        go_wp2_with (go_at_call 48; (with_reducible refine (HD.out _).mono ?_); rintro e w3 ⟨rfl, rfl⟩)
        go_ret2
        rw [HNO.out]
        exact ⟨rfl, by first | rfl | trivial⟩
    · have hkk : ¬ ((k : Int) < (n : Int)) := by omega
      have HRES := Lib.hid (show numB 8 D = some a.toNat ∧ a = ((a.toNat : Nat) : Int) by
        have h := hm.out
        rw [List.take_of_length_le (by rw [HN.out.2, List.length_drop]; have := HN.out.1; omega)] at h
        exact ⟨end_ok (by omega) (by omega) h.2.2, by omega⟩)
      clear hkn hm
      go_wp2
      go_ret2
      rw [HRES.out.1]
      simp only [Option.getD_some]
      rw [← HRES.out.2]
      all_goals exact ⟨by first | rfl | (simp; done), by first | rfl | trivial⟩
set_option maxHeartbeats 3200000 in
set_option maxRecDepth 100000 in
theorem loop10a (l : L) (hl : l.length ≤ 2000000) (hs : l = []) (D : L) (hD : D = l) (W : World) : Calls Tryd.prog 37 #[.string (mkS l)] W fun e W' => e = .returned (.tuple #[.int .i64 (((numB 10 D).getD 0 : Nat) : Int), .bool ((numB 10 D).isSome && (l != []))]) ∧ W' = W := by
  obtain ⟨n, hn⟩ : ∃ n, n = l.length := ⟨_, rfl⟩
  have hz : (mkS l).size = n := by rw [mkS_size, hn]
  have HN := Lib.hid (And.intro hn hD)
  have hn0 : n = 0 := by rw [hn, hs]; rfl
  have hi1 : ¬ (1 : Int) < (n : Int) := by omega
  have hi2 : ¬ (2 : Int) < (n : Int) := by omega
  have hne : ((mkS l).toList == ([] : List UInt8)) = true := by rw [toList_mkS, hs]; rfl
  have hne2 : (l != []) = false := by rw [hs]; rfl
  rw [hne2]
  clear hs
  rw [← hn] at hl
  clear hn hD
  go_enter Tryd.func37, Tryd.ntmps37
  go_wp2
  go_loopw [6, 7] (fun nv iv wr => ∃ (k : Nat) (a : Int), k ≤ n ∧ nv = .int .i64 a ∧ iv = .int .i64 (k : Int) ∧ wr = W ∧ Hid (a = (val 10 (D.take k) : Nat) ∧ a < 9223372036854775808 ∧ (D.take k).all (isD 10) = true)) (fun _ iv _ => n - (intOf iv).toNat)
  case atStart => exact ⟨0, 0, by omega, rfl, rfl, rfl, Lib.hid ⟨rfl, by omega, rfl⟩⟩
  case round =>
    obtain ⟨k, a, hk2, rfl, rfl, hw, hm⟩ := hrel
    subst hw
    have hk0 : (0 : Int) ≤ (k : Int) := by omega
    have ai0 : 0 ≤ a := by have := hm.out.1; omega
    have ai1 : a < 9223372036854775808 := hm.out.2.1
    by_cases hkn : k < n
    · exact absurd hkn (by omega)
    · have hkk : ¬ ((k : Int) < (n : Int)) := by omega
      have HRES := Lib.hid (show numB 10 D = some a.toNat ∧ a = ((a.toNat : Nat) : Int) by
        have h := hm.out
        rw [List.take_of_length_le (by rw [HN.out.2]; have := HN.out.1; omega)] at h
        exact ⟨end_ok (by omega) (by omega) h.2.2, by omega⟩)
      clear hkn hm
      go_wp2
      go_ret2
      rw [HRES.out.1]
      simp only [Option.getD_some]
      rw [← HRES.out.2]
      all_goals exact ⟨by first | rfl | (simp; done), by first | rfl | trivial⟩
set_option maxHeartbeats 3200000 in
set_option maxRecDepth 100000 in
theorem loop10b (l : L) (hl : l.length ≤ 2000000) (c : UInt8) (hs : l = [c]) (D : L) (hD : D = l) (W : World) : Calls Tryd.prog 37 #[.string (mkS l)] W fun e W' => e = .returned (.tuple #[.int .i64 (((numB 10 D).getD 0 : Nat) : Int), .bool ((numB 10 D).isSome && (l != []))]) ∧ W' = W := by
  obtain ⟨n, hn⟩ : ∃ n, n = l.length := ⟨_, rfl⟩
  have hz : (mkS l).size = n := by rw [mkS_size, hn]
  have HN := Lib.hid (And.intro hn hD)
  have hn1 : n = 1 := by rw [hn, hs]; rfl
  have hi1 : ¬ (1 : Int) < (n : Int) := by omega
  have hi2 : ¬ (2 : Int) < (n : Int) := by omega
  clear hs
  have hne : ((mkS l).toList == ([] : List UInt8)) = false := by rw [toList_mkS]; exact beq_eq_false_iff_ne.2 (by rintro rfl; simp at hn; omega)
  have hne2 : (l != []) = true := by rw [bne_iff_ne]; rintro rfl; simp at hn; omega
  rw [hne2]
  rw [← hn] at hl
  clear hn hD
  go_enter Tryd.func37, Tryd.ntmps37
  go_wp2
  go_loopw [6, 7] (fun nv iv wr => ∃ (k : Nat) (a : Int), k ≤ n ∧ nv = .int .i64 a ∧ iv = .int .i64 (k : Int) ∧ wr = W ∧ Hid (a = (val 10 (D.take k) : Nat) ∧ a < 9223372036854775808 ∧ (D.take k).all (isD 10) = true)) (fun _ iv _ => n - (intOf iv).toNat)
  case atStart => exact ⟨0, 0, by omega, rfl, rfl, rfl, Lib.hid ⟨rfl, by omega, rfl⟩⟩
  case round =>
    obtain ⟨k, a, hk2, rfl, rfl, hw, hm⟩ := hrel
    subst hw
    have hk0 : (0 : Int) ≤ (k : Int) := by omega
    have ai0 : 0 ≤ a := by have := hm.out.1; omega
    have ai1 : a < 9223372036854775808 := hm.out.2.1
    by_cases hkn : k < n
    · have hki : (k : Int) < (n : Int) := by omega
      have hkl : k < l.length := by rw [← HN.out.1]; exact hkn
      have hj : k < D.length := by rw [HN.out.2]; omega
      obtain ⟨x, hx⟩ : ∃ x, x = D[k] := ⟨_, rfl⟩
      have hgx : ∀ h, (mkS l)[k]'h = x := by
        intro h
        rw [sgetk l k hkl h, hx]
        have := HN.out.2
        subst this
        rfl
      have HD := Lib.hid (fun W => digit_v x W)
      have hd16 := (dR_all x).2.2.2.2
      have HOK := Lib.hid (fun h => step_ok (b := 10) (by omega) hj hm.out.2.2 h)
      have HBAD := Lib.hid (fun h => step_bad (b := 10) (by omega) hj h)
      have HBIG := Lib.hid (fun h h2 => step_big (b := 10) (by omega) hj h h2)
      have HA := Lib.hid hm.out.1
      rw [← hx] at HOK HBAD HBIG
      obtain ⟨d, hd⟩ : ∃ d, d = dR x := ⟨_, rfl⟩
      rw [← hd] at hd16 HD HOK HBAD HBIG
      have hw1 : wrap64 ((k : Int) + 1) = (k : Int) + 1 := w64 _ (by omega)
      clear hx hd hj hkl hm
      by_cases hdb : d < 10
      · have g1 : ¬ ((10 : Int) ≤ (d : Int)) := by omega
        obtain ⟨q, hq⟩ : ∃ q : Int, (9223372036854775807 - (d : Int)) / 10 = q := ⟨_, rfl⟩
        by_cases hbig : q < a
        · have HNO := Lib.hid (HBIG.out hdb (by have := HA.out; omega))
          have HDB := Lib.hid hdb
          clear hdb
          go_wp2_with (go_at_call 48; (with_reducible refine (HD.out _).mono ?_); rintro e w3 ⟨rfl, rfl⟩)
          go_ret2
          rw [HNO.out]
          exact ⟨rfl, by first | rfl | trivial⟩
        · have hqa : a ≤ q := by omega
          have hle : a * 10 + (d : Int) < 9223372036854775808 := by omega
          have hw2 : wrap64 (a * 10) = a * 10 := w64 _ (by omega)
          have hw3 : wrap64 (a * 10 + (d : Int)) = a * 10 + (d : Int) := w64 _ (by omega)
          have HNX := Lib.hid (HOK.out hdb)
          have HLE := Lib.hid hle
          clear hdb hle hbig
          go_wp2_with (go_at_call 48; (with_reducible refine (HD.out _).mono ?_); rintro e w3 ⟨rfl, rfl⟩)
          refine ⟨⟨k + 1, a * 10 + (d : Int), by omega, rfl, by go_num, by first | rfl | trivial, Lib.hid ⟨?_, HLE.out, ?_⟩⟩, by simp [intOf]; omega⟩
          · rw [HNX.out.1, HA.out]; push_cast; rfl
          · exact HNX.out.2
      · have g1 : (10 : Int) ≤ (d : Int) := by omega
        have HNO := Lib.hid (HBAD.out hdb)
        clear hdb
        go_wp2_with (go_at_call 48; (with_reducible refine (HD.out _).mono ?_); rintro e w3 ⟨rfl, rfl⟩)
        go_ret2
        rw [HNO.out]
        exact ⟨rfl, by first | rfl | trivial⟩
    · have hkk : ¬ ((k : Int) < (n : Int)) := by omega
      have HRES := Lib.hid (show numB 10 D = some a.toNat ∧ a = ((a.toNat : Nat) : Int) by
        have h := hm.out
        rw [List.take_of_length_le (by rw [HN.out.2]; have := HN.out.1; omega)] at h
        exact ⟨end_ok (by omega) (by omega) h.2.2, by omega⟩)
      clear hkn hm
      go_wp2
      go_ret2
      rw [HRES.out.1]
      simp only [Option.getD_some]
      rw [← HRES.out.2]
      all_goals exact ⟨by first | rfl | (simp; done), by first | rfl | trivial⟩
set_option maxHeartbeats 3200000 in
set_option maxRecDepth 100000 in
theorem loop10c (l : L) (hl : l.length ≤ 2000000) (c d : UInt8) (hs : l = [c, d]) (hx : c ≠ 48) (D : L) (hD : D = l) (W : World) : Calls Tryd.prog 37 #[.string (mkS l)] W fun e W' => e = .returned (.tuple #[.int .i64 (((numB 10 D).getD 0 : Nat) : Int), .bool ((numB 10 D).isSome && (l != []))]) ∧ W' = W := by
  obtain ⟨n, hn⟩ : ∃ n, n = l.length := ⟨_, rfl⟩
  have hz : (mkS l).size = n := by rw [mkS_size, hn]
  have HN := Lib.hid (And.intro hn hD)
  have hn2 : 1 < n := by rw [hn, hs]; simp
  have hnq : n = 2 := by rw [hn, hs]; rfl
  have hi2 : ¬ (2 : Int) < (n : Int) := by omega
  clear hnq
  have hi1 : (1 : Int) < (n : Int) := by omega
  have hg0 : ∀ h, (mkS l)[0]'h = c := by subst hs; intro h; rfl
  have e1 : ((c.toNat : Int) == 48) = false := by rw [beq_eq_false_iff_ne]; intro e; exact hx (UInt8.toNat_inj.1 (by have : (48 : UInt8).toNat = 48 := rfl; omega))
  clear hs hx
  have hne : ((mkS l).toList == ([] : List UInt8)) = false := by rw [toList_mkS]; exact beq_eq_false_iff_ne.2 (by rintro rfl; simp at hn; omega)
  have hne2 : (l != []) = true := by rw [bne_iff_ne]; rintro rfl; simp at hn; omega
  rw [hne2]
  rw [← hn] at hl
  clear hn hD
  go_enter Tryd.func37, Tryd.ntmps37
  go_wp2
  go_loopw [6, 7] (fun nv iv wr => ∃ (k : Nat) (a : Int), k ≤ n ∧ nv = .int .i64 a ∧ iv = .int .i64 (k : Int) ∧ wr = W ∧ Hid (a = (val 10 (D.take k) : Nat) ∧ a < 9223372036854775808 ∧ (D.take k).all (isD 10) = true)) (fun _ iv _ => n - (intOf iv).toNat)
  case atStart => exact ⟨0, 0, by omega, rfl, rfl, rfl, Lib.hid ⟨rfl, by omega, rfl⟩⟩
  case round =>
    obtain ⟨k, a, hk2, rfl, rfl, hw, hm⟩ := hrel
    subst hw
    have hk0 : (0 : Int) ≤ (k : Int) := by omega
    have ai0 : 0 ≤ a := by have := hm.out.1; omega
    have ai1 : a < 9223372036854775808 := hm.out.2.1
    by_cases hkn : k < n
    · have hki : (k : Int) < (n : Int) := by omega
      have hkl : k < l.length := by rw [← HN.out.1]; exact hkn
      have hj : k < D.length := by rw [HN.out.2]; omega
      obtain ⟨x, hx⟩ : ∃ x, x = D[k] := ⟨_, rfl⟩
      have hgx : ∀ h, (mkS l)[k]'h = x := by
        intro h
        rw [sgetk l k hkl h, hx]
        have := HN.out.2
        subst this
        rfl
      have HD := Lib.hid (fun W => digit_v x W)
      have hd16 := (dR_all x).2.2.2.2
      have HOK := Lib.hid (fun h => step_ok (b := 10) (by omega) hj hm.out.2.2 h)
      have HBAD := Lib.hid (fun h => step_bad (b := 10) (by omega) hj h)
      have HBIG := Lib.hid (fun h h2 => step_big (b := 10) (by omega) hj h h2)
      have HA := Lib.hid hm.out.1
      rw [← hx] at HOK HBAD HBIG
      obtain ⟨d, hd⟩ : ∃ d, d = dR x := ⟨_, rfl⟩
      rw [← hd] at hd16 HD HOK HBAD HBIG
      have hw1 : wrap64 ((k : Int) + 1) = (k : Int) + 1 := w64 _ (by omega)
      clear hx hd hj hkl hm
      by_cases hdb : d < 10
      · have g1 : ¬ ((10 : Int) ≤ (d : Int)) := by omega
        obtain ⟨q, hq⟩ : ∃ q : Int, (9223372036854775807 - (d : Int)) / 10 = q := ⟨_, rfl⟩
        by_cases hbig : q < a
        · have HNO := Lib.hid (HBIG.out hdb (by have := HA.out; omega))
          have HDB := Lib.hid hdb
          clear hdb
          go_wp2_with (go_at_call 48; (with_reducible refine (HD.out _).mono ?_); rintro e w3 ⟨rfl, rfl⟩)
          go_ret2
          rw [HNO.out]
          exact ⟨rfl, by first | rfl | trivial⟩
        · have hqa : a ≤ q := by omega
          have hle : a * 10 + (d : Int) < 9223372036854775808 := by omega
          have hw2 : wrap64 (a * 10) = a * 10 := w64 _ (by omega)
          have hw3 : wrap64 (a * 10 + (d : Int)) = a * 10 + (d : Int) := w64 _ (by omega)
          have HNX := Lib.hid (HOK.out hdb)
          have HLE := Lib.hid hle
          clear hdb hle hbig
          go_wp2_with (go_at_call 48; (with_reducible refine (HD.out _).mono ?_); rintro e w3 ⟨rfl, rfl⟩)
          refine ⟨⟨k + 1, a * 10 + (d : Int), by omega, rfl, by go_num, by first | rfl | trivial, Lib.hid ⟨?_, HLE.out, ?_⟩⟩, by simp [intOf]; omega⟩
          · rw [HNX.out.1, HA.out]; push_cast; rfl
          · exact HNX.out.2
      · have g1 : (10 : Int) ≤ (d : Int) := by omega
        have HNO := Lib.hid (HBAD.out hdb)
        clear hdb
        go_wp2_with (go_at_call 48; (with_reducible refine (HD.out _).mono ?_); rintro e w3 ⟨rfl, rfl⟩)
        go_ret2
        rw [HNO.out]
        exact ⟨rfl, by first | rfl | trivial⟩
    · have hkk : ¬ ((k : Int) < (n : Int)) := by omega
      have HRES := Lib.hid (show numB 10 D = some a.toNat ∧ a = ((a.toNat : Nat) : Int) by
        have h := hm.out
        rw [List.take_of_length_le (by rw [HN.out.2]; have := HN.out.1; omega)] at h
        exact ⟨end_ok (by omega) (by omega) h.2.2, by omega⟩)
      clear hkn hm
      go_wp2
      go_ret2
      rw [HRES.out.1]
      simp only [Option.getD_some]
      rw [← HRES.out.2]
      all_goals exact ⟨by first | rfl | (simp; done), by first | rfl | trivial⟩
set_option maxHeartbeats 3200000 in
set_option maxRecDepth 100000 in
theorem loop10d (l : L) (hl : l.length ≤ 2000000) (c d e : UInt8) (r : L) (hs : l = c :: d :: e :: r) (hx : c ≠ 48) (D : L) (hD : D = l) (W : World) : Calls Tryd.prog 37 #[.string (mkS l)] W fun e W' => e = .returned (.tuple #[.int .i64 (((numB 10 D).getD 0 : Nat) : Int), .bool ((numB 10 D).isSome && (l != []))]) ∧ W' = W := by
  obtain ⟨n, hn⟩ : ∃ n, n = l.length := ⟨_, rfl⟩
  have hz : (mkS l).size = n := by rw [mkS_size, hn]
  have HN := Lib.hid (And.intro hn hD)
  have hn2 : 2 < n := by rw [hn, hs]; simp
  have hi2 : (2 : Int) < (n : Int) := by omega
  have hi1 : (1 : Int) < (n : Int) := by omega
  have hg0 : ∀ h, (mkS l)[0]'h = c := by subst hs; intro h; rfl
  have e1 : ((c.toNat : Int) == 48) = false := by rw [beq_eq_false_iff_ne]; intro e; exact hx (UInt8.toNat_inj.1 (by have : (48 : UInt8).toNat = 48 := rfl; omega))
  clear hs hx
  have hne : ((mkS l).toList == ([] : List UInt8)) = false := by rw [toList_mkS]; exact beq_eq_false_iff_ne.2 (by rintro rfl; simp at hn; omega)
  have hne2 : (l != []) = true := by rw [bne_iff_ne]; rintro rfl; simp at hn; omega
  rw [hne2]
  rw [← hn] at hl
  clear hn hD
  go_enter Tryd.func37, Tryd.ntmps37
  go_wp2
  go_loopw [6, 7] (fun nv iv wr => ∃ (k : Nat) (a : Int), k ≤ n ∧ nv = .int .i64 a ∧ iv = .int .i64 (k : Int) ∧ wr = W ∧ Hid (a = (val 10 (D.take k) : Nat) ∧ a < 9223372036854775808 ∧ (D.take k).all (isD 10) = true)) (fun _ iv _ => n - (intOf iv).toNat)
  case atStart => exact ⟨0, 0, by omega, rfl, rfl, rfl, Lib.hid ⟨rfl, by omega, rfl⟩⟩
  case round =>
    obtain ⟨k, a, hk2, rfl, rfl, hw, hm⟩ := hrel
    subst hw
    have hk0 : (0 : Int) ≤ (k : Int) := by omega
    have ai0 : 0 ≤ a := by have := hm.out.1; omega
    have ai1 : a < 9223372036854775808 := hm.out.2.1
    by_cases hkn : k < n
    · have hki : (k : Int) < (n : Int) := by omega
      have hkl : k < l.length := by rw [← HN.out.1]; exact hkn
      have hj : k < D.length := by rw [HN.out.2]; omega
      obtain ⟨x, hx⟩ : ∃ x, x = D[k] := ⟨_, rfl⟩
      have hgx : ∀ h, (mkS l)[k]'h = x := by
        intro h
        rw [sgetk l k hkl h, hx]
        have := HN.out.2
        subst this
        rfl
      have HD := Lib.hid (fun W => digit_v x W)
      have hd16 := (dR_all x).2.2.2.2
      have HOK := Lib.hid (fun h => step_ok (b := 10) (by omega) hj hm.out.2.2 h)
      have HBAD := Lib.hid (fun h => step_bad (b := 10) (by omega) hj h)
      have HBIG := Lib.hid (fun h h2 => step_big (b := 10) (by omega) hj h h2)
      have HA := Lib.hid hm.out.1
      rw [← hx] at HOK HBAD HBIG
      obtain ⟨d, hd⟩ : ∃ d, d = dR x := ⟨_, rfl⟩
      rw [← hd] at hd16 HD HOK HBAD HBIG
      have hw1 : wrap64 ((k : Int) + 1) = (k : Int) + 1 := w64 _ (by omega)
      clear hx hd hj hkl hm
      by_cases hdb : d < 10
      · have g1 : ¬ ((10 : Int) ≤ (d : Int)) := by omega
        obtain ⟨q, hq⟩ : ∃ q : Int, (9223372036854775807 - (d : Int)) / 10 = q := ⟨_, rfl⟩
        by_cases hbig : q < a
        · have HNO := Lib.hid (HBIG.out hdb (by have := HA.out; omega))
          have HDB := Lib.hid hdb
          clear hdb
          go_wp2_with (go_at_call 48; (with_reducible refine (HD.out _).mono ?_); rintro e w3 ⟨rfl, rfl⟩)
          go_ret2
          rw [HNO.out]
          exact ⟨rfl, by first | rfl | trivial⟩
        · have hqa : a ≤ q := by omega
          have hle : a * 10 + (d : Int) < 9223372036854775808 := by omega
          have hw2 : wrap64 (a * 10) = a * 10 := w64 _ (by omega)
          have hw3 : wrap64 (a * 10 + (d : Int)) = a * 10 + (d : Int) := w64 _ (by omega)
          have HNX := Lib.hid (HOK.out hdb)
          have HLE := Lib.hid hle
          clear hdb hle hbig
          go_wp2_with (go_at_call 48; (with_reducible refine (HD.out _).mono ?_); rintro e w3 ⟨rfl, rfl⟩)
          refine ⟨⟨k + 1, a * 10 + (d : Int), by omega, rfl, by go_num, by first | rfl | trivial, Lib.hid ⟨?_, HLE.out, ?_⟩⟩, by simp [intOf]; omega⟩
          · rw [HNX.out.1, HA.out]; push_cast; rfl
          · exact HNX.out.2
      · have g1 : (10 : Int) ≤ (d : Int) := by omega
        have HNO := Lib.hid (HBAD.out hdb)
        clear hdb
        go_wp2_with (go_at_call 48; (with_reducible refine (HD.out _).mono ?_); rintro e w3 ⟨rfl, rfl⟩)
        go_ret2
        rw [HNO.out]
        exact ⟨rfl, by first | rfl | trivial⟩
    · have hkk : ¬ ((k : Int) < (n : Int)) := by omega
      have HRES := Lib.hid (show numB 10 D = some a.toNat ∧ a = ((a.toNat : Nat) : Int) by
        have h := hm.out
        rw [List.take_of_length_le (by rw [HN.out.2]; have := HN.out.1; omega)] at h
        exact ⟨end_ok (by omega) (by omega) h.2.2, by omega⟩)
      clear hkn hm
      go_wp2
      go_ret2
      rw [HRES.out.1]
      simp only [Option.getD_some]
      rw [← HRES.out.2]
      all_goals exact ⟨by first | rfl | (simp; done), by first | rfl | trivial⟩
theorem digits_v (l : L) (hl : l.length ≤ 2000000) (W : World) : Calls Tryd.prog 37 #[.string (mkS l)] W fun e W' => e = .returned (numR (num l)) ∧ W' = W := by
  rcases l with _ | ⟨c, _ | ⟨d, r⟩⟩
  · refine (loop10a [] hl rfl [] rfl W).mono ?_
    rintro e w ⟨rfl, rfl⟩
    exact ⟨rfl, rfl⟩
  · refine (loop10b [c] hl c rfl [c] rfl W).mono ?_
    rintro e w ⟨rfl, rfl⟩
    refine ⟨?_, rfl⟩
    rw [ref10 [c] (by intro c' r' h; simp at h), if_neg (by simp)]
    unfold numR
    simp
  · by_cases h48 : c = 48
    · subst h48
      rcases r with _ | ⟨x, r⟩
      · refine (loop8a [48, d] hl d rfl [d] rfl W).mono ?_
        rintro e w ⟨rfl, rfl⟩
        refine ⟨?_, rfl⟩
        rw [ref8 d [] (by simp)]
        unfold numR
        simp
      · by_cases hx1 : d = 120
        · subst hx1
          refine (loop16x _ hl x r rfl (x :: r) rfl W).mono ?_
          rintro e w ⟨rfl, rfl⟩
          refine ⟨?_, rfl⟩
          rw [ref16 120 (.inl rfl) x r]
          unfold numR
          simp
        · by_cases hx2 : d = 88
          · subst hx2
            refine (loop16X _ hl x r rfl (x :: r) rfl W).mono ?_
            rintro e w ⟨rfl, rfl⟩
            refine ⟨?_, rfl⟩
            rw [ref16 88 (.inr rfl) x r]
            unfold numR
            simp
          · refine (loop8b _ hl d x r rfl hx1 hx2 (d :: x :: r) rfl W).mono ?_
            rintro e w ⟨rfl, rfl⟩
            refine ⟨?_, rfl⟩
            rw [ref8 d (x :: r) (by simp [hx1, hx2])]
            unfold numR
            simp
    · rcases r with _ | ⟨x, r⟩
      · refine (loop10c _ hl c d rfl h48 [c, d] rfl W).mono ?_
        rintro e w ⟨rfl, rfl⟩
        refine ⟨?_, rfl⟩
        rw [ref10 _ (by intro c' r' h; injection h with h; exact h48 h), if_neg (by simp)]
        unfold numR
        simp
      · refine (loop10d _ hl c d x r rfl h48 (c :: d :: x :: r) rfl W).mono ?_
        rintro e w ⟨rfl, rfl⟩
        refine ⟨?_, rfl⟩
        rw [ref10 _ (by intro c' r' h; injection h with h; exact h48 h), if_neg (by simp)]
        unfold numR
        simp
end Ar
end Go.Proofs.YtjidclefpmcgoaaDoor
