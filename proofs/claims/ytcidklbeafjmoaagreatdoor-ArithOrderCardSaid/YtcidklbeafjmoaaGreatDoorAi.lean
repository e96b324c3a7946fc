/- Numbers of texts: the library's ParseUint, where nothing is wrong. No premises. -/
import Derived.Test.YtcidklbeafjmoaaGreatDoorAg
import Derived.Laws.BitsAllLaws
namespace Go.Proofs.YtcidklbeafjmoaaGreatDoor
open Go.RowKit Go.Maps
namespace Ar
theorem u8_or_list (a b : UInt8) : bits .or .u8 (a.toNat : Int) (b.toNat : Int) = ((a ||| b).toNat : Int) := by
  rw [u8_or_nat _ _ (UInt8.toNat_lt a) (UInt8.toNat_lt b), UInt8.toNat_or]
theorem lower_v (c : UInt8) (W : World) : Calls Tryz.prog 83 #[.int .u8 (c.toNat : Int)] W fun e W' => e = .returned (.int .u8 ((c ||| 32).toNat : Int)) ∧ W' = W := by
  have h : bits .or .u8 (c.toNat : Int) 32 = ((c ||| 32).toNat : Int) := u8_or_list c 32
  obtain ⟨x, hx⟩ : ∃ x, x = (c ||| 32).toNat := ⟨_, rfl⟩
  rw [← hx] at h ⊢
  clear hx
  go_enter Tryz.func83, Tryz.ntmps83
  go_wp2
  go_ret
  exact ⟨rfl, rfl⟩
theorem conv_later (W : World) (t : List UInt8) (N : Nat) (hN : N = W.heap.size) : ∃ c W', (convert 9 37 (.string (mkS t))).run Tryz.prog W = .ok (.slice (some ⟨N, 0, none⟩) t.length c) W' ∧ Later W W' ∧ Rd W' W'.heap.size (some ⟨N, 0, none⟩) t.length (t.map bv) := conv_str W t N hN
theorem val_snoc (b : Nat) (l : L) (c : UInt8) : val b (l ++ [c]) = val b l * b + dv c := by unfold val; rw [List.foldl_append]; rfl
theorem fold_ge (b : Nat) (hb : 1 ≤ b) : ∀ (r : L) (a : Nat), a ≤ r.foldl (fun n c => n * b + dv c) a
  | [], _ => Nat.le_refl _
  | c :: r, a => Nat.le_trans (by have : a ≤ a * b := Nat.le_mul_of_pos_right _ hb; omega) (fold_ge b hb r (a * b + dv c))
theorem val_app (b : Nat) (hb : 1 ≤ b) (l r : L) : val b l ≤ val b (l ++ r) := by
  unfold val
  rw [List.foldl_append]
  exact fold_ge b hb r _
theorem val_take (b : Nat) (hb : 1 ≤ b) (l : L) (k : Nat) : val b (l.take k) ≤ val b l := by
  have := val_app b hb (l.take k) (l.drop k)
  rwa [List.take_append_drop] at this
theorem isD_digit {b : Nat} (hb : b ≤ 10) {c : UInt8} (h : isD b c = true) : dig c = true := by
  unfold isD at h
  simp only [Bool.and_eq_true, Bool.or_eq_true, decide_eq_true_eq] at h
  cases hc : dig c with
  | true => rfl
  | false =>
    exfalso
    rw [hc] at h
    unfold dv at h
    rw [hc] at h
    simp only [Bool.false_eq_true, false_or, if_false] at h
    obtain ⟨⟨h1, _⟩, h2⟩ := h
    rw [UInt8.le_iff_toNat_le] at h1
    have : (97 : UInt8).toNat = 97 := rfl
    omega
theorem dig_nat {c : UInt8} : dig c = true ↔ 48 ≤ c.toNat ∧ c.toNat ≤ 57 := by
  unfold dig
  simp only [Bool.and_eq_true, decide_eq_true_eq, UInt8.le_iff_toNat_le]
  exact Iff.rfl
/-- A digit's facts. -/
theorem digit_facts {b : Nat} (hb : b ≤ 10) {c : UInt8} (h : isD b c = true) : 48 ≤ c.toNat ∧ c.toNat ≤ 57 ∧ dv c = c.toNat - 48 ∧ dv c < b := by
  have h1 := isD_digit hb h
  have h2 := dig_nat.1 h1
  refine ⟨h2.1, h2.2, by unfold dv; rw [if_pos h1], ?_⟩
  unfold isD at h
  simp only [Bool.and_eq_true, decide_eq_true_eq] at h
  exact h.2
/-- A digit of 16: one of ten, or a letter. -/
theorem hex_facts {c : UInt8} (h : isD 16 c = true) : (48 ≤ c.toNat ∧ c.toNat ≤ 57 ∧ dv c = c.toNat - 48 ∧ dv c < 16) ∨ (¬ (48 ≤ c.toNat ∧ c.toNat ≤ 57) ∧ c.toNat ≠ 95 ∧ 97 ≤ (c ||| 32).toNat ∧ dv c = (c ||| 32).toNat - 87 ∧ dv c < 16) := by
  unfold isD at h
  simp only [Bool.and_eq_true, Bool.or_eq_true, decide_eq_true_eq] at h
  obtain ⟨h1, h2⟩ := h
  cases hc : dig c with
  | true =>
    have h3 := dig_nat.1 hc
    exact .inl ⟨h3.1, h3.2, by unfold dv; rw [if_pos hc], h2⟩
  | false =>
    have h3 : ¬ (48 ≤ c.toNat ∧ c.toNat ≤ 57) := fun e => by rw [dig_nat.2 e] at hc; cases hc
    have h4 : dv c = (c ||| 32).toNat - 87 := by unfold dv; rw [hc]; rfl
    rw [hc] at h1
    simp only [Bool.false_eq_true, false_or] at h1
    refine .inr ⟨h3, fun e => ?_, UInt8.le_iff_toNat_le.1 h1.1, h4, h2⟩
    have e2 : c = 95 := UInt8.toNat_inj.1 e
    rw [e2] at h4 h2
    rw [h4] at h2
    revert h2
    decide
set_option maxHeartbeats 3200000 in
set_option maxRecDepth 100000 in
theorem parse10 (l : L) (W : World) (h0 : l ≠ []) (hd : l.all (isD 10) = true) (hv : val 10 l < 9223372036854775808) (hl : l.length ≤ 5000) : Calls Tryz.prog 74 #[.string (mkS l), .int .i64 10, .int .i64 63] W fun e W' => e = .returned (.tuple #[.int .u64 (val 10 l : Nat), .nilIface]) ∧ Later W W' := by
  have he : ((mkS l).toList == ([] : List UInt8)) = false := by rw [toList_mkS]; exact beq_eq_false_iff_ne.2 h0
  obtain ⟨cp, W2, hcv, hl2, hr2⟩ := conv_str W l W.heap.size rfl
  obtain ⟨n, hn⟩ : ∃ n, n = l.length := ⟨_, rfl⟩
  rw [← hn] at hcv hr2 hl
  have HL2 := Lib.hid hl2
  have HR := Lib.hid hr2
  have HN := Lib.hid hn
  have HD := Lib.hid hd
  have HV := Lib.hid hv
  clear hl2 hr2 hn hd hv h0
  go_enter Tryz.func74, Tryz.ntmps74
  go_wp2
  go_loopw [12, 13, 101] (fun us v i wr => ∃ (k : Nat) (a : Int), k ≤ n ∧ us = .bool false ∧ i = .int .i64 (k : Int) ∧ v = .int .u64 a ∧ wr = W2 ∧ Hid (a = (val 10 (l.take k) : Nat))) (fun _ _ i _ => n - (intOf i).toNat)
  case atStart => exact ⟨0, 0, by omega, rfl, rfl, rfl, rfl, Lib.hid rfl⟩
  case round =>
    obtain ⟨k, a, hk, rfl, rfl, rfl, hw, hm⟩ := hrel
    subst hw
    have hk0 : (0 : Int) ≤ (k : Int) := by omega
    by_cases hkn : k < n
    · have hk1 : (k : Int) < (n : Int) := by omega
      have hlk : k < l.length := by have := HN.out; omega
      obtain ⟨ad, _, had, _, hcell⟩ := HR.out.byte hkn
      obtain ⟨c, hc⟩ : ∃ c, c = l[k] := ⟨_, rfl⟩
      rw [← hc] at hcell
      injection had with had
      rw [← had, add_lit0] at hcell
      have hcD : isD 10 c = true := by rw [hc]; exact List.all_eq_true.1 HD.out _ (List.getElem_mem hlk)
      have hTK : val 10 (l.take (k + 1)) = val 10 (l.take k) * 10 + dv c := by rw [List.take_succ_eq_append_getElem hlk, val_snoc, hc]
      have hle := val_take 10 (by omega) l (k + 1)
      obtain ⟨x, hx⟩ : ∃ x, x = c.toNat := ⟨_, rfl⟩
      have hcell3 : wr.cell? ⟨W.heap.size, k, none⟩ = some (.int .u8 (x : Int)) := by rw [hx]; exact hcell
      have ha := hm.out
      have hvv := HV.out
      have ai0 : 0 ≤ a := by omega
      have icut : a < 1844674407370955162 := by omega
      have hw1 : wrap64 ((k : Int) + 1) = (k : Int) + 1 := w64 _ (by omega)
      obtain ⟨f1, f2, f3, f4⟩ := digit_facts (by omega) hcD
      rw [← hx] at f1 f2 f3
      have g1 : (48 : Int) ≤ (x : Int) := by omega
      have g2 : (x : Int) ≤ 57 := by omega
      have g3 : ((x : Int) == 95) = false := by simp; omega
      have g4 : (x : Int) - 48 < 10 := by omega
      have iov : a * 10 + ((x : Int) - 48) < 9223372036854775808 := by omega
      have HNX : Hid (a * 10 + ((x : Int) - 48) = ((val 10 (l.take (k + 1)) : Nat) : Int)) := Lib.hid (by rw [hTK]; omega)
      clear hcell hcD hx had hc ha hvv hle hTK hlk f1 f2 f3 f4
      go_wp2
      refine ⟨⟨k + 1, a * 10 + ((x : Int) - 48), by omega, rfl, by first | rfl | (congr 1; omega), by first | rfl | (congr 1; omega), trivial, HNX⟩, by simp [intOf]; omega⟩
    · have HRES := Lib.hid (show a = (val 10 l : Nat) by rw [hm.out, List.take_of_length_le (by have := HN.out; omega)])
      have hkk : ¬ ((k : Int) < (n : Int)) := by omega
      clear hkn
      go_wp2
      go_ret2
      rw [HRES.out]
      exact ⟨rfl, HL2.out⟩
set_option maxHeartbeats 3200000 in
set_option maxRecDepth 100000 in
theorem parse8 (l : L) (W : World) (h0 : l ≠ []) (hd : l.all (isD 8) = true) (hv : val 8 l < 9223372036854775808) (hl : l.length ≤ 5000) : Calls Tryz.prog 74 #[.string (mkS l), .int .i64 8, .int .i64 63] W fun e W' => e = .returned (.tuple #[.int .u64 (val 8 l : Nat), .nilIface]) ∧ Later W W' := by
  have he : ((mkS l).toList == ([] : List UInt8)) = false := by rw [toList_mkS]; exact beq_eq_false_iff_ne.2 h0
  obtain ⟨cp, W2, hcv, hl2, hr2⟩ := conv_str W l W.heap.size rfl
  obtain ⟨n, hn⟩ : ∃ n, n = l.length := ⟨_, rfl⟩
  rw [← hn] at hcv hr2 hl
  have HL2 := Lib.hid hl2
  have HR := Lib.hid hr2
  have HN := Lib.hid hn
  have HD := Lib.hid hd
  have HV := Lib.hid hv
  clear hl2 hr2 hn hd hv h0
  go_enter Tryz.func74, Tryz.ntmps74
  go_wp2
  go_loopw [12, 13, 101] (fun us v i wr => ∃ (k : Nat) (a : Int), k ≤ n ∧ us = .bool false ∧ i = .int .i64 (k : Int) ∧ v = .int .u64 a ∧ wr = W2 ∧ Hid (a = (val 8 (l.take k) : Nat))) (fun _ _ i _ => n - (intOf i).toNat)
  case atStart => exact ⟨0, 0, by omega, rfl, rfl, rfl, rfl, Lib.hid rfl⟩
  case round =>
    obtain ⟨k, a, hk, rfl, rfl, rfl, hw, hm⟩ := hrel
    subst hw
    have hk0 : (0 : Int) ≤ (k : Int) := by omega
    by_cases hkn : k < n
    · have hk1 : (k : Int) < (n : Int) := by omega
      have hlk : k < l.length := by have := HN.out; omega
      obtain ⟨ad, _, had, _, hcell⟩ := HR.out.byte hkn
      obtain ⟨c, hc⟩ : ∃ c, c = l[k] := ⟨_, rfl⟩
      rw [← hc] at hcell
      injection had with had
      rw [← had, add_lit0] at hcell
      have hcD : isD 8 c = true := by rw [hc]; exact List.all_eq_true.1 HD.out _ (List.getElem_mem hlk)
      have hTK : val 8 (l.take (k + 1)) = val 8 (l.take k) * 8 + dv c := by rw [List.take_succ_eq_append_getElem hlk, val_snoc, hc]
      have hle := val_take 8 (by omega) l (k + 1)
      obtain ⟨x, hx⟩ : ∃ x, x = c.toNat := ⟨_, rfl⟩
      have hcell3 : wr.cell? ⟨W.heap.size, k, none⟩ = some (.int .u8 (x : Int)) := by rw [hx]; exact hcell
      have ha := hm.out
      have hvv := HV.out
      have ai0 : 0 ≤ a := by omega
      have icut : a < 2305843009213693952 := by omega
      have hw1 : wrap64 ((k : Int) + 1) = (k : Int) + 1 := w64 _ (by omega)
      obtain ⟨f1, f2, f3, f4⟩ := digit_facts (by omega) hcD
      rw [← hx] at f1 f2 f3
      have g1 : (48 : Int) ≤ (x : Int) := by omega
      have g2 : (x : Int) ≤ 57 := by omega
      have g3 : ((x : Int) == 95) = false := by simp; omega
      have g4 : (x : Int) - 48 < 8 := by omega
      have iov : a * 8 + ((x : Int) - 48) < 9223372036854775808 := by omega
      have HNX : Hid (a * 8 + ((x : Int) - 48) = ((val 8 (l.take (k + 1)) : Nat) : Int)) := Lib.hid (by rw [hTK]; omega)
      clear hcell hcD hx had hc ha hvv hle hTK hlk f1 f2 f3 f4
      go_wp2
      refine ⟨⟨k + 1, a * 8 + ((x : Int) - 48), by omega, rfl, by first | rfl | (congr 1; omega), by first | rfl | (congr 1; omega), trivial, HNX⟩, by simp [intOf]; omega⟩
    · have HRES := Lib.hid (show a = (val 8 l : Nat) by rw [hm.out, List.take_of_length_le (by have := HN.out; omega)])
      have hkk : ¬ ((k : Int) < (n : Int)) := by omega
      clear hkn
      go_wp2
      go_ret2
      rw [HRES.out]
      exact ⟨rfl, HL2.out⟩
set_option maxHeartbeats 3200000 in
set_option maxRecDepth 100000 in
theorem parse16 (l : L) (W : World) (h0 : l ≠ []) (hd : l.all (isD 16) = true) (hv : val 16 l < 9223372036854775808) (hl : l.length ≤ 5000) : Calls Tryz.prog 74 #[.string (mkS l), .int .i64 16, .int .i64 63] W fun e W' => e = .returned (.tuple #[.int .u64 (val 16 l : Nat), .nilIface]) ∧ Later W W' := by
  have he : ((mkS l).toList == ([] : List UInt8)) = false := by rw [toList_mkS]; exact beq_eq_false_iff_ne.2 h0
  obtain ⟨cp, W2, hcv, hl2, hr2⟩ := conv_str W l W.heap.size rfl
  obtain ⟨n, hn⟩ : ∃ n, n = l.length := ⟨_, rfl⟩
  rw [← hn] at hcv hr2 hl
  have HL2 := Lib.hid hl2
  have HR := Lib.hid hr2
  have HN := Lib.hid hn
  have HD := Lib.hid hd
  have HV := Lib.hid hv
  clear hl2 hr2 hn hd hv h0
  go_enter Tryz.func74, Tryz.ntmps74
  go_wp2
  go_loopw [12, 13, 101] (fun us v i wr => ∃ (k : Nat) (a : Int), k ≤ n ∧ us = .bool false ∧ i = .int .i64 (k : Int) ∧ v = .int .u64 a ∧ wr = W2 ∧ Hid (a = (val 16 (l.take k) : Nat))) (fun _ _ i _ => n - (intOf i).toNat)
  case atStart => exact ⟨0, 0, by omega, rfl, rfl, rfl, rfl, Lib.hid rfl⟩
  case round =>
    obtain ⟨k, a, hk, rfl, rfl, rfl, hw, hm⟩ := hrel
    subst hw
    have hk0 : (0 : Int) ≤ (k : Int) := by omega
    by_cases hkn : k < n
    · have hk1 : (k : Int) < (n : Int) := by omega
      have hlk : k < l.length := by have := HN.out; omega
      obtain ⟨ad, _, had, _, hcell⟩ := HR.out.byte hkn
      obtain ⟨c, hc⟩ : ∃ c, c = l[k] := ⟨_, rfl⟩
      rw [← hc] at hcell
      injection had with had
      rw [← had, add_lit0] at hcell
      have hcD : isD 16 c = true := by rw [hc]; exact List.all_eq_true.1 HD.out _ (List.getElem_mem hlk)
      have hTK : val 16 (l.take (k + 1)) = val 16 (l.take k) * 16 + dv c := by rw [List.take_succ_eq_append_getElem hlk, val_snoc, hc]
      have hle := val_take 16 (by omega) l (k + 1)
      obtain ⟨x, hx⟩ : ∃ x, x = c.toNat := ⟨_, rfl⟩
      have hcell3 : wr.cell? ⟨W.heap.size, k, none⟩ = some (.int .u8 (x : Int)) := by rw [hx]; exact hcell
      have ha := hm.out
      have hvv := HV.out
      have ai0 : 0 ≤ a := by omega
      have icut : a < 1152921504606846976 := by omega
      have hw1 : wrap64 ((k : Int) + 1) = (k : Int) + 1 := w64 _ (by omega)
      rcases hex_facts hcD with ⟨f1, f2, f3, f4⟩ | ⟨f0, f1, f2, f3, f4⟩
      · rw [← hx] at f1 f2 f3
        have g1 : (48 : Int) ≤ (x : Int) := by omega
        have g2 : (x : Int) ≤ 57 := by omega
        have g3 : ((x : Int) == 95) = false := by simp; omega
        have g4 : (x : Int) - 48 < 16 := by omega
        have iov : a * 16 + ((x : Int) - 48) < 9223372036854775808 := by omega
        have HNX : Hid (a * 16 + ((x : Int) - 48) = ((val 16 (l.take (k + 1)) : Nat) : Int)) := Lib.hid (by rw [hTK]; omega)
        clear hcell hcD hx had hc ha hvv hle hTK hlk f1 f2 f3 f4
        go_wp2
        refine ⟨⟨k + 1, a * 16 + ((x : Int) - 48), by omega, rfl, by first | rfl | (congr 1; omega), by first | rfl | (congr 1; omega), trivial, HNX⟩, by simp [intOf]; omega⟩
      · rw [← hx] at f0
        have g0 : ¬ ((48 : Int) ≤ (x : Int) ∧ (x : Int) ≤ 57) := by omega
        obtain ⟨y, hy⟩ : ∃ y, y = (c ||| 32).toNat := ⟨_, rfl⟩
        rw [← hy] at f2 f3
        rw [← hx] at f1
        have g1 : (97 : Int) ≤ (y : Int) := by omega
        have g2 : (y : Int) ≤ 122 := by omega
        have g3 : ((x : Int) == 95) = false := by simp; omega
        have g4 : (y : Int) - 97 + 10 < 16 := by omega
        have HLW := Lib.hid (lower_v c)
        rw [← hx, ← hy] at HLW
        have iov : a * 16 + ((y : Int) - 97 + 10) < 9223372036854775808 := by omega
        have HNX : Hid (a * 16 + ((y : Int) - 97 + 10) = ((val 16 (l.take (k + 1)) : Nat) : Int)) := Lib.hid (by rw [hTK]; omega)
        have G0 := Lib.hid g0
        clear hcell hcD hx had hc ha hvv hle hTK hlk f1 f2 f3 f4 hy g0 f0
        by_cases g5 : (48 : Int) ≤ (x : Int)
        · have g6 : ¬ ((x : Int) ≤ 57) := by have := G0.out; omega
          go_wp2_with (go_at_call 83; (with_reducible refine (HLW.out _).mono ?_); rintro e w1 ⟨rfl, rfl⟩)
          refine ⟨⟨k + 1, a * 16 + ((y : Int) - 97 + 10), by omega, rfl, by first | rfl | (congr 1; omega), by first | rfl | (congr 1; omega), trivial, HNX⟩, by simp [intOf]; omega⟩
        · go_wp2_with (go_at_call 83; (with_reducible refine (HLW.out _).mono ?_); rintro e w1 ⟨rfl, rfl⟩)
          refine ⟨⟨k + 1, a * 16 + ((y : Int) - 97 + 10), by omega, rfl, by first | rfl | (congr 1; omega), by first | rfl | (congr 1; omega), trivial, HNX⟩, by simp [intOf]; omega⟩
    · have HRES := Lib.hid (show a = (val 16 l : Nat) by rw [hm.out, List.take_of_length_le (by have := HN.out; omega)])
      have hkk : ¬ ((k : Int) < (n : Int)) := by omega
      clear hkn
      go_wp2
      go_ret2
      rw [HRES.out]
      exact ⟨rfl, HL2.out⟩
end Ar
end Go.Proofs.YtcidklbeafjmoaaGreatDoor
