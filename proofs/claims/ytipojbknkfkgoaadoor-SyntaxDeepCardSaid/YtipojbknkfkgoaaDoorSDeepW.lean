/- The walk of SyntaxDeep. -/
import Derived.Test.YtipojbknkfkgoaaDoorSDeepT
namespace Go.Proofs.YtipojbknkfkgoaaDoor
open Go.RowKit Go.Maps
open Lx (nl Tok)
open Pz
namespace syntaxDeep
theorem rep_len (l : L) (n : Nat) : (rep l n).length = n * l.length := by
  induction n with
  | zero => simp [rep]
  | succ n ih => rw [rep, List.length_append, ih, Nat.succ_mul]
theorem wraps {a : Nat} (h : a ≤ 200) : wrap64 ((a : Int) + 1) = ((a + 1 : Nat) : Int) ∧ IntKind.i64.wrap ((a : Int) + 1) = ((a + 1 : Nat) : Int) ∧ wrap64 (2 * (a : Int)) = ((2 * a : Nat) : Int) ∧ IntKind.i64.wrap (2 * (a : Int)) = ((2 * a : Nat) : Int) ∧ wrap64 (((2 * a : Nat) : Int) + 2) = ((2 * a + 2 : Nat) : Int) ∧ IntKind.i64.wrap (((2 * a : Nat) : Int) + 2) = ((2 * a + 2 : Nat) : Int) := by
  refine ⟨?_, ?_, ?_, ?_, ?_, ?_⟩
  · unfold wrap64; omega
  · rw [IntKind.wrap_i64]; omega
  · unfold wrap64; omega
  · rw [IntKind.wrap_i64]; omega
  · unfold wrap64; omega
  · rw [IntKind.wrap_i64]; omega
set_option maxHeartbeats 3200000 in
set_option maxRecDepth 100000 in
theorem walkT (w : World) (hg : Sgn w) (x : Int) (m : Nat) (hx0 : 0 ≤ x) (hx1 : x ≤ 255) (hm : m < 60) (hxm : x.tmod 60 = (m : Int)) :
    Calls Tryd.prog 4 #[.int .u8 x, .bool true] w fun e w' => e = .returned (.bool true) ∧ Below w.heap.size w w' := by
  have HA := Lib.hid (awake_v w hg)
  obtain ⟨k, hk⟩ : ∃ k, k = m + 1 := ⟨_, rfl⟩
  obtain ⟨kd, hkd⟩ : ∃ kd, kd = 2 * k := ⟨_, rfl⟩
  obtain ⟨k2, hk2⟩ : ∃ k2, k2 = 2 * k + 2 := ⟨_, rfl⟩
  have HV1 := Lib.hid (show wrap64 ((m : Int) + 1) = (k : Int) ∧ IntKind.i64.wrap ((m : Int) + 1) = (k : Int) by rw [hk]; have h := wraps (a := m) (by omega); exact ⟨h.1, h.2.1⟩)
  have HV := Lib.hid (show wrap64 (2 * (k : Int)) = (kd : Int) ∧ IntKind.i64.wrap (2 * (k : Int)) = (kd : Int) ∧ wrap64 ((kd : Int) + 2) = (k2 : Int) ∧ IntKind.i64.wrap ((kd : Int) + 2) = (k2 : Int) by rw [hkd, hk2]; exact (wraps (a := k) (by omega)).2.2)
  have hk0 : 0 < k := by omega
  have hk60 : k ≤ 60 := by omega
  have HG := Lib.hid hg
  have HK2 := Lib.hid hk2
  clear hg hk hk2 hkd
  obtain ⟨v1, v2⟩ := HV1.out
  go_enter Tryd.func4, Tryd.ntmps4
  go_wp2_with (go_at_call 7; (with_reducible refine HA.out.mono ?_); rintro e w1 ⟨rfl, hb1⟩; have HB1 := Lib.hid hb1; clear hb1)
  clear v1 v2
  go_loopw [7, 8] (fun s i wr => ∃ j : Nat, j ≤ k ∧ i = .int .i64 (j : Int) ∧ s = .string (mkS (rep [40] j)) ∧ wr = w1) (fun s i _ => k - (intOf i).toNat)
  case atStart => exact ⟨0, by omega, rfl, rfl, by first | rfl | trivial⟩
  case round =>
    obtain ⟨j, hj, rfl, rfl, hw⟩ := hrel
    subst hw
    have hj0 : (0 : Int) ≤ (j : Int) := by omega
    by_cases hjk : j < k
    · have hj1 : (j : Int) < (k : Int) := by omega
      obtain ⟨p, hp⟩ : ∃ p, p = mkS (rep [40] j) := ⟨_, rfl⟩
      have a1 : p ++ (⟨#[40]⟩ : ByteArray) = mkS (rep [40] (j + 1)) := by rw [hp]; exact mkS_add _ [40]
      have z1 : p.size ≤ 200 := by rw [hp, mkS_size, rep_len]; simp; omega
      rw [← hp]
      clear hp
      go_wp2
      go_roundw
      case rel => exact ⟨j + 1, by omega, by go_num, by first | rfl | trivial | simp, by first | rfl | trivial⟩
      case measure => simp [intOf]; omega
    · have hje : j = k := by omega
      have hj1 : ¬ (j : Int) < (k : Int) := by omega
      subst hje
      obtain ⟨p, hp⟩ : ∃ p, p = mkS (rep [40] j) := ⟨_, rfl⟩
      have a1 : p ++ (⟨#[97, 10]⟩ : ByteArray) = mkS (rep [40] j ++ [97, 10]) := by rw [hp]; exact mkS_add _ [97, 10]
      have z1 : p.size ≤ 200 := by rw [hp, mkS_size, rep_len]; simp; omega
      rw [← hp]
      clear hp
      go_wp2
      obtain ⟨w1, rfl⟩ : ∃ w1, w1 = wr := ⟨_, rfl⟩
      go_loopw [7, 9] (fun s i wr => ∃ l : Nat, l ≤ j ∧ i = .int .i64 (l : Int) ∧ s = .string (mkS (rep [40] j ++ [97, 10] ++ rep [41] l)) ∧ wr = w1) (fun s i _ => j - (intOf i).toNat)
      case atStart => exact ⟨0, by omega, rfl, by rw [rep, List.append_nil], by first | rfl | trivial⟩
      case round =>
        obtain ⟨l, hl, rfl, rfl, hw⟩ := hrel
        subst hw
        have hl0 : (0 : Int) ≤ (l : Int) := by omega
        by_cases hlk : l < j
        · have hl1 : (l : Int) < (j : Int) := by omega
          obtain ⟨p, hp⟩ : ∃ p, p = mkS (rep [40] j ++ [97, 10] ++ rep [41] l) := ⟨_, rfl⟩
          have a1 : p ++ (⟨#[41]⟩ : ByteArray) = mkS (rep [40] j ++ [97, 10] ++ rep [41] (l + 1)) := by rw [hp, rep, ← List.append_assoc]; exact mkS_add _ [41]
          have z1 : p.size ≤ 400 := by rw [hp, mkS_size, List.length_append, List.length_append, rep_len, rep_len]; simp; omega
          rw [← hp]
          clear hp
          go_wp2
          go_roundw
          case rel => exact ⟨l + 1, by omega, by go_num, by first | rfl | trivial | simp, by first | rfl | trivial⟩
          case measure => simp [intOf]; omega
        · have hle : l = j := by omega
          have hl1 : ¬ (l : Int) < (j : Int) := by omega
          subst hle
          have hS : rep [40] l ++ [97, 10] ++ rep [41] l = script true l := rfl
          rw [hS]
          have hlen : (script true l).length ≤ 4096 := by rw [← hS, List.length_append, List.length_append, rep_len, rep_len]; simp; omega
          obtain ⟨S, hSS⟩ : ∃ S, S = script true l := ⟨_, rfl⟩
          by_cases h40 : l ≤ 40
          · obtain ⟨ns, ht, hns⟩ := tree_ok true l hk0 h40
            rw [← hSS] at ht hlen ⊢
            have HP := Lib.hid (parse_ok hlen ht wr (Sgn.later' HG.out HB1.out))
            rw [hns, ← HK2.out] at HP
            have h41 : ¬ (40 : Int) < (l : Int) := by omega
            obtain ⟨v3, v4, v5, v6⟩ := HV.out
            clear hS hSS hlen ht hns
            go_wp2_with (go_at_call 8; (with_reducible refine HP.out.mono ?_); rintro e w2 ⟨A, c, rfl, _, hm2, hl2⟩; have HL2 := Lib.hid (hl2); clear hm2 hl2)
            go_ret
            exact ⟨rfl, Later.trans HB1.out (HL2.out.trans (Later.alloc _ _))⟩
          · have ht := tree_deep true l (by omega) hk60
            rw [← hSS] at ht hlen ⊢
            have hp := parse_err hlen ht wr (Sgn.later' HG.out HB1.out)
            rw [show 1 + nl S - nl S = 1 by omega] at hp
            have HP := Lib.hid (show Calls Tryd.prog 8 #[.string (mkS S)] wr fun e W' => e = .returned (.tuple #[.agg #[.slice none 0 0], .int .i64 21, .int .i64 1]) ∧ Later wr W' from hp)
            have h41 : (40 : Int) < (l : Int) := by omega
            clear hS hSS hlen ht hp
            go_wp2_with (go_at_call 8; (with_reducible refine HP.out.mono ?_); rintro e w2 ⟨rfl, hl2⟩; have HL2 := Lib.hid (hl2); clear hl2)
            go_ret
            exact ⟨rfl, Later.trans HB1.out (HL2.out.trans (Later.alloc _ _))⟩
set_option maxHeartbeats 3200000 in
set_option maxRecDepth 100000 in
theorem walkF (w : World) (hg : Sgn w) (x : Int) (m : Nat) (hx0 : 0 ≤ x) (hx1 : x ≤ 255) (hm : m < 60) (hxm : x.tmod 60 = (m : Int)) :
    Calls Tryd.prog 4 #[.int .u8 x, .bool false] w fun e w' => e = .returned (.bool true) ∧ Below w.heap.size w w' := by
  have HA := Lib.hid (awake_v w hg)
  obtain ⟨k, hk⟩ : ∃ k, k = m + 1 := ⟨_, rfl⟩
  obtain ⟨kd, hkd⟩ : ∃ kd, kd = 2 * k := ⟨_, rfl⟩
  obtain ⟨k2, hk2⟩ : ∃ k2, k2 = 2 * k + 2 := ⟨_, rfl⟩
  have HV1 := Lib.hid (show wrap64 ((m : Int) + 1) = (k : Int) ∧ IntKind.i64.wrap ((m : Int) + 1) = (k : Int) by rw [hk]; have h := wraps (a := m) (by omega); exact ⟨h.1, h.2.1⟩)
  have HV := Lib.hid (show wrap64 (2 * (k : Int)) = (kd : Int) ∧ IntKind.i64.wrap (2 * (k : Int)) = (kd : Int) ∧ wrap64 ((kd : Int) + 2) = (k2 : Int) ∧ IntKind.i64.wrap ((kd : Int) + 2) = (k2 : Int) by rw [hkd, hk2]; exact (wraps (a := k) (by omega)).2.2)
  have hk0 : 0 < k := by omega
  have hk60 : k ≤ 60 := by omega
  have HG := Lib.hid hg
  have HK2 := Lib.hid hk2
  clear hg hk hk2 hkd
  obtain ⟨v1, v2⟩ := HV1.out
  go_enter Tryd.func4, Tryd.ntmps4
  go_wp2_with (go_at_call 7; (with_reducible refine HA.out.mono ?_); rintro e w1 ⟨rfl, hb1⟩; have HB1 := Lib.hid hb1; clear hb1)
  clear v1 v2
  go_loopw [7, 8] (fun s i wr => ∃ j : Nat, j ≤ k ∧ i = .int .i64 (j : Int) ∧ s = .string (mkS (rep [123, 32] j)) ∧ wr = w1) (fun s i _ => k - (intOf i).toNat)
  case atStart => exact ⟨0, by omega, rfl, rfl, by first | rfl | trivial⟩
  case round =>
    obtain ⟨j, hj, rfl, rfl, hw⟩ := hrel
    subst hw
    have hj0 : (0 : Int) ≤ (j : Int) := by omega
    by_cases hjk : j < k
    · have hj1 : (j : Int) < (k : Int) := by omega
      obtain ⟨p, hp⟩ : ∃ p, p = mkS (rep [123, 32] j) := ⟨_, rfl⟩
      have a1 : p ++ (⟨#[123, 32]⟩ : ByteArray) = mkS (rep [123, 32] (j + 1)) := by rw [hp]; exact mkS_add _ [123, 32]
      have z1 : p.size ≤ 200 := by rw [hp, mkS_size, rep_len]; simp; omega
      rw [← hp]
      clear hp
      go_wp2
      go_roundw
      case rel => exact ⟨j + 1, by omega, by go_num, by first | rfl | trivial | simp, by first | rfl | trivial⟩
      case measure => simp [intOf]; omega
    · have hje : j = k := by omega
      have hj1 : ¬ (j : Int) < (k : Int) := by omega
      subst hje
      obtain ⟨p, hp⟩ : ∃ p, p = mkS (rep [123, 32] j) := ⟨_, rfl⟩
      have a1 : p ++ (⟨#[97, 10]⟩ : ByteArray) = mkS (rep [123, 32] j ++ [97, 10]) := by rw [hp]; exact mkS_add _ [97, 10]
      have z1 : p.size ≤ 200 := by rw [hp, mkS_size, rep_len]; simp; omega
      rw [← hp]
      clear hp
      go_wp2
      obtain ⟨w1, rfl⟩ : ∃ w1, w1 = wr := ⟨_, rfl⟩
      go_loopw [7, 9] (fun s i wr => ∃ l : Nat, l ≤ j ∧ i = .int .i64 (l : Int) ∧ s = .string (mkS (rep [123, 32] j ++ [97, 10] ++ rep [125, 10] l)) ∧ wr = w1) (fun s i _ => j - (intOf i).toNat)
      case atStart => exact ⟨0, by omega, rfl, by rw [rep, List.append_nil], by first | rfl | trivial⟩
      case round =>
        obtain ⟨l, hl, rfl, rfl, hw⟩ := hrel
        subst hw
        have hl0 : (0 : Int) ≤ (l : Int) := by omega
        by_cases hlk : l < j
        · have hl1 : (l : Int) < (j : Int) := by omega
          obtain ⟨p, hp⟩ : ∃ p, p = mkS (rep [123, 32] j ++ [97, 10] ++ rep [125, 10] l) := ⟨_, rfl⟩
          have a1 : p ++ (⟨#[125, 10]⟩ : ByteArray) = mkS (rep [123, 32] j ++ [97, 10] ++ rep [125, 10] (l + 1)) := by rw [hp, rep, ← List.append_assoc]; exact mkS_add _ [125, 10]
          have z1 : p.size ≤ 400 := by rw [hp, mkS_size, List.length_append, List.length_append, rep_len, rep_len]; simp; omega
          rw [← hp]
          clear hp
          go_wp2
          go_roundw
          case rel => exact ⟨l + 1, by omega, by go_num, by first | rfl | trivial | simp, by first | rfl | trivial⟩
          case measure => simp [intOf]; omega
        · have hle : l = j := by omega
          have hl1 : ¬ (l : Int) < (j : Int) := by omega
          subst hle
          have hS : rep [123, 32] l ++ [97, 10] ++ rep [125, 10] l = script false l := rfl
          rw [hS]
          have hlen : (script false l).length ≤ 4096 := by rw [← hS, List.length_append, List.length_append, rep_len, rep_len]; simp; omega
          obtain ⟨S, hSS⟩ : ∃ S, S = script false l := ⟨_, rfl⟩
          by_cases h40 : l ≤ 40
          · obtain ⟨ns, ht, hns⟩ := tree_ok false l hk0 h40
            rw [← hSS] at ht hlen ⊢
            have HP := Lib.hid (parse_ok hlen ht wr (Sgn.later' HG.out HB1.out))
            rw [hns, ← HK2.out] at HP
            have h41 : ¬ (40 : Int) < (l : Int) := by omega
            obtain ⟨v3, v4, v5, v6⟩ := HV.out
            clear hS hSS hlen ht hns
            go_wp2_with (go_at_call 8; (with_reducible refine HP.out.mono ?_); rintro e w2 ⟨A, c, rfl, _, hm2, hl2⟩; have HL2 := Lib.hid (hl2); clear hm2 hl2)
            go_ret
            exact ⟨rfl, Later.trans HB1.out (HL2.out.trans (Later.alloc _ _))⟩
          · have ht := tree_deep false l (by omega) hk60
            rw [← hSS] at ht hlen ⊢
            have hp := parse_err hlen ht wr (Sgn.later' HG.out HB1.out)
            rw [show 1 + nl S - nl S = 1 by omega] at hp
            have HP := Lib.hid (show Calls Tryd.prog 8 #[.string (mkS S)] wr fun e W' => e = .returned (.tuple #[.agg #[.slice none 0 0], .int .i64 21, .int .i64 1]) ∧ Later wr W' from hp)
            have h41 : (40 : Int) < (l : Int) := by omega
            clear hS hSS hlen ht hp
            go_wp2_with (go_at_call 8; (with_reducible refine HP.out.mono ?_); rintro e w2 ⟨rfl, hl2⟩; have HL2 := Lib.hid (hl2); clear hl2)
            go_ret
            exact ⟨rfl, Later.trans HB1.out (HL2.out.trans (Later.alloc _ _))⟩
theorem walk (w : World) (hg : Sgn w) (x : Int) (hx : (Lit.int .u8 x).wf = true) (b : Bool) (_ : True) :
    Calls Tryd.prog 4 #[.int .u8 x, .bool b] w fun e w' => e = .returned (.bool true) ∧ Below w.heap.size w w' := by
  have hx := bounds_u8 hx
  have h1 : x.tmod 60 = ((x % 60).toNat : Int) := by rw [Int.tmod_eq_emod_of_nonneg (by omega)]; omega
  cases b with
  | true => exact walkT w hg x _ hx.1 hx.2 (by omega) h1
  | false => exact walkF w hg x _ hx.1 hx.2 (by omega) h1
end syntaxDeep
end Go.Proofs.YtipojbknkfkgoaaDoor
