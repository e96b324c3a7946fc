/- The document's letter, Name, Bare and Sets. No premises. -/
import Derived.Test.YtmijploffdoenaaDoorEb
namespace Go.Proofs.YtmijploffdoenaaDoor
open Go.RowKit Go.Maps
namespace Ar
theorem sgetk (l : List UInt8) (k : Nat) (_ : k < l.length) : ∀ h2 : k < (mkS l).size, (mkS l)[k]'h2 = l[k] := fun _ => rfl
theorem isEmpty_bne (l : List UInt8) : (!l.isEmpty) = (l != []) := by cases l <;> rfl
theorem nameB_snoc (l : List UInt8) (x : UInt8) (h : l ≠ []) : nameB (l ++ [x]) = (nameB l && (letB x || dig x)) := by
  cases l with
  | nil => exact absurd rfl h
  | cons c r => simp [nameB, Bool.and_assoc]
theorem letB_dig (x : UInt8) (h : letB x = true) : dig x = false := by
  have : ∀ n : _root_.Fin 256, letB (UInt8.ofNat n.1) = true → dig (UInt8.ofNat n.1) = false := by decide +kernel
  have := this ⟨x.toNat, x.toNat_lt⟩
  simpa using this (by simpa using h)
theorem nameB_one (x : UInt8) : nameB [x] = letB x := by
  cases h : letB x with
  | true => simp [nameB, h, letB_dig x h]
  | false => cases h2 : dig x <;> simp [nameB, h, h2]
theorem nameB_take (l : List UInt8) (k : Nat) (hk : 0 < k) (h : nameB l = true) : nameB (l.take k) = true := by
  cases l with
  | nil => simp [nameB] at h
  | cons c r =>
    obtain ⟨j, rfl⟩ : ∃ j, k = j + 1 := ⟨k - 1, by omega⟩
    simp only [nameB, Bool.and_eq_true, List.all_eq_true] at h
    simp only [List.take_succ_cons, nameB, Bool.and_eq_true, List.all_eq_true]
    refine ⟨h.1, fun x hx => h.2 x ?_⟩
    rcases List.mem_cons.1 hx with hx | hx
    · exact List.mem_cons.2 (.inl hx)
    · exact List.mem_cons.2 (.inr (List.mem_of_mem_take hx))
set_option maxHeartbeats 1600000 in
set_option maxRecDepth 100000 in
theorem refLetter_v (c : UInt8) (W : World) : Calls Tryd.prog 49 #[.int .u8 (c.toNat : Int)] W fun e W' => e = .returned (.bool (letB c)) ∧ W' = W := by
  have hb : letB c = ((decide ((97 : Int) ≤ (c.toNat : Int)) && decide ((c.toNat : Int) ≤ 122)) || (decide ((65 : Int) ≤ (c.toNat : Int)) && decide ((c.toNat : Int) ≤ 90)) || decide ((c.toNat : Int) = 95)) := by
    unfold letB
    rw [byte_le, byte_le, byte_le, byte_le]
    have : (c == 95) = decide ((c.toNat : Int) = 95) := by
      rw [Bool.eq_iff_iff, beq_iff_eq, decide_eq_true_iff]
      exact ⟨fun h => by rw [h]; rfl, fun h => UInt8.toNat_inj.1 (by have : (95 : UInt8).toNat = 95 := rfl; omega)⟩
    rw [this]
    rfl
  rw [hb]
  obtain ⟨x, hx⟩ : ∃ x : Nat, x = c.toNat := ⟨_, rfl⟩
  rw [← hx]
  clear hx hb
  by_cases h6 : x = 95
  · subst h6
    go_enter Tryd.func49, Tryd.ntmps49
    go_wp2
    go_ret
    exact ⟨ret_bool (by simp), rfl⟩
  have h5 : ((x : Int) == 95) = false := by simp; omega
  by_cases h1 : (97 : Int) ≤ (x : Int)
  · by_cases h2 : (x : Int) ≤ 122
    · go_enter Tryd.func49, Tryd.ntmps49
      go_wp2
      go_ret
      exact ⟨ret_bool (by simp <;> omega), rfl⟩
    · have h3 : (65 : Int) ≤ (x : Int) := by omega
      have h4 : ¬ (x : Int) ≤ 90 := by omega
      go_enter Tryd.func49, Tryd.ntmps49
      go_wp2
      go_ret
      exact ⟨ret_bool (by simp <;> omega), rfl⟩
  · by_cases h3 : (65 : Int) ≤ (x : Int)
    · by_cases h4 : (x : Int) ≤ 90
      · go_enter Tryd.func49, Tryd.ntmps49
        go_wp2
        go_ret
        exact ⟨ret_bool (by simp <;> omega), rfl⟩
      · go_enter Tryd.func49, Tryd.ntmps49
        go_wp2
        go_ret
        exact ⟨ret_bool (by simp <;> omega), rfl⟩
    · go_enter Tryd.func49, Tryd.ntmps49
      go_wp2
      go_ret
      exact ⟨ret_bool (by simp <;> omega), rfl⟩
set_option maxHeartbeats 1600000 in
set_option maxRecDepth 100000 in
theorem refName_v (l : List UInt8) (hl : l.length ≤ 2000000) (W : World) : Calls Tryd.prog 30 #[.string (mkS l)] W fun e W' => e = .returned (.bool (nameB l)) ∧ W' = W := by
  obtain ⟨n, hn⟩ : ∃ n, n = l.length := ⟨_, rfl⟩
  have hz : (mkS l).size = n := by rw [mkS_size, hn]
  have HN := Lib.hid hn
  rw [← hn] at hl
  clear hn
  go_enter Tryd.func30, Tryd.ntmps30
  go_wp2
  go_loopw [3] (fun i wr => ∃ k : Nat, k ≤ n ∧ i = .int .i64 (k : Int) ∧ wr = W ∧ (0 < k → nameB (l.take k) = true)) (fun i _ => n - (intOf i).toNat)
  case atStart => exact ⟨0, by omega, rfl, rfl, fun h => absurd h (by omega)⟩
  case round =>
    obtain ⟨k, hk, rfl, hw, ha⟩ := hrel
    subst hw
    have HA := Lib.hid ha
    clear ha
    by_cases hkn : k < n
    · have hkl : k < l.length := by rw [← HN.out]; exact hkn
      obtain ⟨x, hx⟩ : ∃ x, x = l[k] := ⟨_, rfl⟩
      have hgx : ∀ h, (mkS l)[k]'h = x := by rw [hx]; exact sgetk l k hkl
      have hk0 : (0 : Int) ≤ (k : Int) := by omega
      have hk1 : (k : Int) < (n : Int) := by omega
      have HNX := Lib.hid (show nameB (l.take (k + 1)) = (if k = 0 then letB x else (letB x || dig x)) by
        rw [List.take_succ_eq_append_getElem hkl, ← hx]
        by_cases h0 : k = 0
        · rw [if_pos h0, h0]; exact nameB_one x
        · rw [if_neg h0, nameB_snoc _ _ (by intro e; have := congrArg List.length e; rw [List.length_take, List.length_nil] at this; omega), HA.out (by omega), Bool.true_and])
      have HBAD := Lib.hid (show nameB (l.take (k + 1)) = false → nameB l = false from fun h => by
        rw [Bool.eq_false_iff]
        intro h2
        rw [nameB_take l (k + 1) (by omega) h2] at h
        cases h)
      have hdx : dig x = (decide ((48 : Int) ≤ (x.toNat : Int)) && decide ((x.toNat : Int) ≤ 57)) := by unfold dig; rw [byte_le, byte_le]; rfl
      have hlt := fun W => refLetter_v x W
      clear hx hkl
      cases hlb : letB x with
      | true =>
        rw [hlb] at hlt
        have HL := Lib.hid hlt
        have HOK := Lib.hid (show nameB (l.take (k + 1)) = true by rw [HNX.out, hlb]; split <;> rfl)
        clear hlt hlb hdx
        go_wp2_with (go_at_call 49; (with_reducible refine (HL.out _).mono ?_); rintro e w3 ⟨rfl, rfl⟩)
        go_roundw
        case rel => exact ⟨k + 1, by omega, by go_num, by first | rfl | trivial, fun _ => HOK.out⟩
        case measure => simp [intOf]; omega
      | false =>
        rw [hlb] at hlt
        have HL := Lib.hid hlt
        clear hlt
        by_cases h0 : k = 0
        · have HRES := Lib.hid (HBAD.out (by rw [HNX.out, if_pos h0, hlb]))
          have e0 : ((k : Int) == 0) = true := by rw [h0]; rfl
          clear h0 hlb hdx
          go_wp2_with (go_at_call 49; (with_reducible refine (HL.out _).mono ?_); rintro e w3 ⟨rfl, rfl⟩)
          go_ret
          exact ⟨ret_bool HRES.out.symm, rfl⟩
        · have e0 : ((k : Int) == 0) = false := by simp; omega
          have hnx := HNX.out
          rw [if_neg h0, hlb, Bool.false_or, hdx] at hnx
          by_cases d1 : (x.toNat : Int) < 48
          · have HRES := Lib.hid (HBAD.out (by rw [hnx, decide_eq_false (show ¬ (48 : Int) ≤ (x.toNat : Int) by omega)]; rfl))
            clear h0 hlb hdx hnx
            go_wp2_with (go_at_call 49; (with_reducible refine (HL.out _).mono ?_); rintro e w3 ⟨rfl, rfl⟩)
            go_ret
            exact ⟨ret_bool HRES.out.symm, rfl⟩
          · by_cases d2 : (57 : Int) < (x.toNat : Int)
            · have HRES := Lib.hid (HBAD.out (by rw [hnx, decide_eq_false (show ¬ (x.toNat : Int) ≤ 57 by omega), Bool.and_false]))
              clear h0 hlb hdx hnx
              go_wp2_with (go_at_call 49; (with_reducible refine (HL.out _).mono ?_); rintro e w3 ⟨rfl, rfl⟩)
              go_ret
              exact ⟨ret_bool HRES.out.symm, rfl⟩
            · have HOK := Lib.hid (show nameB (l.take (k + 1)) = true by rw [hnx, decide_eq_true (show (48 : Int) ≤ (x.toNat : Int) by omega), decide_eq_true (show (x.toNat : Int) ≤ 57 by omega)]; rfl)
              clear h0 hlb hdx hnx
              go_wp2_with (go_at_call 49; (with_reducible refine (HL.out _).mono ?_); rintro e w3 ⟨rfl, rfl⟩)
              go_roundw
              case rel => exact ⟨k + 1, by omega, by go_num, by first | rfl | trivial, fun _ => HOK.out⟩
              case measure => simp [intOf]; omega
    · have hke : ¬ (k : Int) < (n : Int) := by omega
      have htk : l.take k = l := by rw [List.take_of_length_le]; rw [← HN.out]; omega
      by_cases hl0 : l = []
      · have HV := Lib.hid (show ((mkS l).toList != ([] : List UInt8)) = nameB l by rw [toList_mkS, hl0]; rfl)
        clear hl0 htk
        go_wp2
        go_ret
        exact ⟨ret_bool (by rw [← HV.out]; exact isEmpty_bne _), rfl⟩
      · have HV := Lib.hid (show ((mkS l).toList != ([] : List UInt8)) = nameB l by
          have h1 : 0 < k := by have := HN.out; have := List.length_pos_iff.2 hl0; omega
          have h2 := HA.out h1
          rw [htk] at h2
          rw [h2, toList_mkS]
          exact bne_iff_ne.2 hl0)
        clear hl0 htk
        go_wp2
        go_ret
        exact ⟨ret_bool (by rw [← HV.out]; exact isEmpty_bne _), rfl⟩
end Ar
end Go.Proofs.YtmijploffdoenaaDoor
