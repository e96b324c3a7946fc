/- The document's Sets. No premises. -/
import Derived.Test.YtnjabmacbgehlaaDoorLwR
namespace Go.Proofs.YtnjabmacbgehlaaDoor
open Go.RowKit Go.Maps
theorem idx_at (l : List UInt8) (k : Nat) (h : k < l.length) (hx : l[k] = 61) (hn : ∀ c ∈ l.take k, c ≠ 61) : Lib.indexByte l 61 = (k : Int) := by
  induction l generalizing k with
  | nil => simp at h
  | cons b l ih =>
    unfold Lib.indexByte
    cases k with
    | zero =>
      rw [List.getElem_cons_zero] at hx
      rw [if_pos (by rw [hx]; rfl)]
      rfl
    | succ k =>
      rw [List.getElem_cons_succ] at hx
      have hb : b ≠ 61 := hn b (by simp)
      have h1 := ih k (by simp at h; omega) hx fun c hc => hn c (by simp [hc])
      rw [if_neg (by rw [beq_iff_eq]; exact hb), h1, if_neg (by rw [beq_iff_eq]; omega)]
      omega
theorem idx_none (l : List UInt8) (hn : ∀ c ∈ l, c ≠ 61) : Lib.indexByte l 61 = -1 := by
  induction l with
  | nil => rfl
  | cons b l ih =>
    unfold Lib.indexByte
    have hb : b ≠ 61 := hn b (by simp)
    rw [if_neg (by rw [beq_iff_eq]; exact hb), ih fun c hc => hn c (by simp [hc])]
    rfl
set_option maxHeartbeats 1600000 in
set_option maxRecDepth 100000 in
theorem refSets_v (l : List UInt8) (hl : l.length ≤ 5000) (W : World) : Calls Tryd.prog 13 #[.string (mkS l)] W fun e W' => e = .returned (.tuple #[.string (mkS (setsM l).1), .string (mkS (setsM l).2.1), .bool (setsM l).2.2]) ∧ ∃ m, W' = W.drewN m := by
  obtain ⟨n, hn⟩ : ∃ n, n = l.length := ⟨_, rfl⟩
  have hz : (mkS l).size = n := by rw [mkS_size, hn]
  have HN := Lib.hid hn
  rw [← hn] at hl
  clear hn
  go_enter Tryd.func13, Tryd.ntmps13
  go_wp2
  go_loopw [5] (fun i wr => ∃ k : Nat, k ≤ n ∧ i = .int .i64 (k : Int) ∧ wr = W ∧ ∀ c ∈ l.take k, c ≠ 61) (fun i _ => n - (intOf i).toNat)
  case atStart => exact ⟨0, by omega, rfl, rfl, by simp⟩
  case round =>
    obtain ⟨k, hk, rfl, hw, ha⟩ := hrel
    subst hw
    have HA := Lib.hid ha
    clear ha
    have hk0 : (0 : Int) ≤ (k : Int) := by omega
    by_cases hkn : k < n
    · have hkl : k < l.length := by rw [← HN.out]; exact hkn
      obtain ⟨x, hx⟩ : ∃ x, x = l[k] := ⟨_, rfl⟩
      have hgx : ∀ h, (mkS l)[k]'h = x := by rw [hx]; exact sgetk l k hkl
      have hk1 : (k : Int) < (n : Int) := by omega
      have HNX := Lib.hid (show x ≠ 61 → ∀ c ∈ l.take (k + 1), c ≠ 61 from fun h d hd => by
        rw [List.take_succ_eq_append_getElem hkl, List.mem_append] at hd
        rcases hd with hd | hd
        · exact HA.out d hd
        · rw [List.mem_singleton] at hd; rw [hd, ← hx]; exact h)
      by_cases h61 : x = 61
      · have hq : ((x.toNat : Int) == 61) = true := by rw [h61]; rfl
        have hix := idx_at l k hkl (by rw [← hx]; exact h61) HA.out
        have HSM := Lib.hid (show setsM l = if nameB (l.take k) = true then (l.take k, l.drop (k + 1), true) else ([], [], false) by
          unfold setsM
          rw [hix, Int.toNat_natCast]
          by_cases h : nameB (l.take k) = true
          · rw [if_pos ⟨by omega, h⟩, if_pos h]
          · rw [if_neg (fun hh => h hh.2), if_neg h])
        obtain ⟨k1, hk1e⟩ : ∃ k1, k1 = k + 1 := ⟨_, rfl⟩
        have ex1 : (mkS l).extract 0 k = mkS (l.take k) := piece_ l 0 k (l.take k) (l.drop k) (by simp) (by simp; omega)
        have ex2 : (mkS l).extract k1 n = mkS (l.drop (k + 1)) := piece_ l k1 n (l.drop (k + 1)) [] (by rw [hk1e]; simp) (by rw [List.length_drop, hk1e]; have := HN.out; omega)
        have hwi : IntKind.i64.wrap ((k : Int) + 1) = (k1 : Int) := by rw [IntKind.wrap_i64]; omega
        have hwr : wrap64 ((k : Int) + 1) = (k1 : Int) := by unfold wrap64; omega
        have hk3 : (k : Int) ≤ ((mkS l).size : Int) := by omega
        have hk4 : (k1 : Int) ≤ ((mkS l).size : Int) := by omega
        have hk5 : (0 : Int) ≤ (k1 : Int) := by omega
        have hk6 : (k : Int) ≤ (n : Int) := by omega
        have hk7 : (k1 : Int) ≤ (n : Int) := by omega
        have hnm := fun W => refName_v (l.take k) (by rw [List.length_take]; omega) W
        obtain ⟨pa, hpa⟩ : ∃ pa, pa = mkS (l.take k) := ⟨_, rfl⟩
        obtain ⟨pb, hpb⟩ : ∃ pb, pb = mkS (l.drop (k + 1)) := ⟨_, rfl⟩
        rw [← hpa] at ex1 hnm
        rw [← hpb] at ex2
        have HPA := Lib.hid hpa
        have HPB := Lib.hid hpb
        clear hpa hpb hix hx hkl h61 hk1e
        cases hb : nameB (l.take k) with
        | true =>
          rw [hb] at hnm
          have HNM := Lib.hid hnm
          have HR := Lib.hid (show setsM l = (l.take k, l.drop (k + 1), true) by rw [HSM.out, if_pos hb])
          clear hnm hb
          go_wp2_with (go_at_call 15; (with_reducible refine (HNM.out _).mono ?_); rintro e w3 ⟨rfl, rfl⟩)
          go_quiet (fail)
          go_wp2
          go_ret3
          exact ⟨by rw [HR.out, ← HPA.out, ← HPB.out]; rfl, _, rfl⟩
        | false =>
          rw [hb] at hnm
          have HNM := Lib.hid hnm
          have HR := Lib.hid (show setsM l = ([], [], false) by rw [HSM.out, if_neg (by rw [hb]; simp)])
          clear hnm hb
          go_wp2_with (go_at_call 15; (with_reducible refine (HNM.out _).mono ?_); rintro e w3 ⟨rfl, rfl⟩)
          go_ret3
          exact ⟨by rw [HR.out]; rfl, 0, (World.drewN_zero _).symm⟩
      · have hq : ((x.toNat : Int) == 61) = false := by
          rw [beq_eq_false_iff_ne]
          intro e
          exact h61 (UInt8.toNat_inj.1 (by have : (61 : UInt8).toNat = 61 := rfl; omega))
        clear hx hkl
        go_wp2
        go_roundw
        case rel => exact ⟨k + 1, by omega, by go_num, by first | rfl | trivial, HNX.out h61⟩
        case measure => simp [intOf]; omega
    · have hke : ¬ (k : Int) < (n : Int) := by omega
      have htk : l.take k = l := by rw [List.take_of_length_le]; rw [← HN.out]; omega
      have HR := Lib.hid (show setsM l = ([], [], false) by
        have h := HA.out
        rw [htk] at h
        unfold setsM
        rw [idx_none l h, if_neg (fun hh => by have := hh.1; omega)])
      clear htk
      go_wp2
      go_ret3
      exact ⟨by rw [HR.out]; rfl, 0, (World.drewN_zero _).symm⟩
end Go.Proofs.YtnjabmacbgehlaaDoor
