/- WordDeep: its walk. No premises. -/
import Derived.Test.YtlenocpaalahbaaDoorWaw
namespace Go.Proofs.YtlenocpaalahbaaDoor
open Go.RowKit Go.Maps
open Ws
namespace wordDeep
def rep (l : L) : Nat → L
  | 0 => []
  | n + 1 => rep l n ++ l
theorem rep_len (l : L) : ∀ n, (rep l n).length = n * l.length
  | 0 => by simp [rep]
  | n + 1 => by rw [rep, List.length_append, rep_len l n, Nat.add_mul, Nat.one_mul]
/-- So many braces around a. -/
def text (k : Nat) : L := rep [36, 123, 120, 58, 45] k ++ [97] ++ rep [125] k
def nest : Nat → List Wd.P
  | 0 => [.mk 1 [97] [] false []]
  | k + 1 => [.mk 3 [120] [58, 45] false (nest k)]
theorem ok1 : Wd.parse (text 1) = (nest 1, 0) := by kernel_rfl
theorem ok2 : Wd.parse (text 2) = (nest 2, 0) := by kernel_rfl
theorem ok3 : Wd.parse (text 3) = (nest 3, 0) := by kernel_rfl
theorem ok4 : Wd.parse (text 4) = (nest 4, 0) := by kernel_rfl
theorem ok5 : Wd.parse (text 5) = (nest 5, 0) := by kernel_rfl
theorem ok6 : Wd.parse (text 6) = (nest 6, 0) := by kernel_rfl
theorem ok7 : Wd.parse (text 7) = (nest 7, 0) := by kernel_rfl
theorem ok8 : Wd.parse (text 8) = (nest 8, 0) := by kernel_rfl
theorem err9 : Wd.parse (text 9) = ([], 21) := by kernel_rfl
theorem err10 : Wd.parse (text 10) = ([], 21) := by kernel_rfl
theorem err11 : Wd.parse (text 11) = ([], 21) := by kernel_rfl
theorem err12 : Wd.parse (text 12) = ([], 21) := by kernel_rfl
theorem deep_ok (k : Nat) (h0 : 1 ≤ k) (h : k ≤ 8) : Wd.parse (text k) = (nest k, 0) := by
  have hk : k = 1 ∨ k = 2 ∨ k = 3 ∨ k = 4 ∨ k = 5 ∨ k = 6 ∨ k = 7 ∨ k = 8 := by omega
  clear h0 h
  rcases hk with rfl | rfl | rfl | rfl | rfl | rfl | rfl | rfl
  · exact ok1
  · exact ok2
  · exact ok3
  · exact ok4
  · exact ok5
  · exact ok6
  · exact ok7
  · exact ok8
theorem deep_err (k : Nat) (h0 : 9 ≤ k) (h : k ≤ 12) : Wd.parse (text k) = ([], 21) := by
  have hk : k = 9 ∨ k = 10 ∨ k = 11 ∨ k = 12 := by omega
  clear h0 h
  rcases hk with rfl | rfl | rfl | rfl
  · exact err9
  · exact err10
  · exact err11
  · exact err12
set_option maxHeartbeats 3200000 in
set_option maxRecDepth 100000 in
theorem walkN (w : World) (hg : Ops w) (x : Int) (m : Nat) (hx0 : 0 ≤ x) (hx1 : x ≤ 255) (hm : m < 12) (hxm : x.tmod 12 = (m : Int)) :
    Calls Tryd.prog 6 #[.int .u8 x] w fun e w' => e = .returned (.bool true) ∧ Below w.heap.size w w' := by
  have HA := Lib.hid (awake_v hg)
  obtain ⟨k, hk⟩ : ∃ k, k = m + 1 := ⟨_, rfl⟩
  have HV1 := Lib.hid (show wrap64 ((m : Int) + 1) = (k : Int) ∧ IntKind.i64.wrap ((m : Int) + 1) = (k : Int) by rw [hk]; refine ⟨by unfold wrap64; omega, by rw [IntKind.wrap_i64]; omega⟩)
  have hk0 : 1 ≤ k := by omega
  have hk60 : k ≤ 12 := by omega
  have HG := Lib.hid hg
  clear hg hk
  obtain ⟨v1, v2⟩ := HV1.out
  go_enter Tryd.func6, Tryd.ntmps6
  go_wp2_with (go_at_call 8; (with_reducible refine HA.out.mono ?_); rintro e w1 ⟨rfl, hb1⟩; have HB1 := Lib.hid hb1; have HO1 := Lib.hid (Ops.later HG.out (Ops.pos HG.out) hb1); clear hb1)
  clear v1 v2
  go_loopw [5, 6] (fun s i wr => ∃ j : Nat, j ≤ k ∧ i = .int .i64 (j : Int) ∧ s = .string (mkS (rep [36, 123, 120, 58, 45] j)) ∧ wr = w1) (fun s i _ => k - (intOf i).toNat)
  case atStart => exact ⟨0, by omega, rfl, rfl, by first | rfl | trivial⟩
  case round =>
    obtain ⟨j, hj, rfl, rfl, hw⟩ := hrel
    subst hw
    have hj0 : (0 : Int) ≤ (j : Int) := by omega
    by_cases hjk : j < k
    · have hj1 : (j : Int) < (k : Int) := by omega
      obtain ⟨p, hp⟩ : ∃ p, p = mkS (rep [36, 123, 120, 58, 45] j) := ⟨_, rfl⟩
      have a1 : p ++ (⟨#[36, 123, 120, 58, 45]⟩ : ByteArray) = mkS (rep [36, 123, 120, 58, 45] (j + 1)) := by rw [hp]; exact mkS_add _ [36, 123, 120, 58, 45]
      have z1 : p.size ≤ 200 := by rw [hp, mkS_size, rep_len]; simp; omega
      rw [← hp]
      clear hp
      go_wp2
      go_roundw
      case rel => exact ⟨j + 1, by omega, by go_num, by first | rfl | trivial | simp, by first | rfl | trivial⟩
      case measure => simp [intOf]; omega
    · have hje : j = k := by omega
      have hj1 : ¬ (j : Int) < (k : Int) := by omega
      subst hje
      obtain ⟨p, hp⟩ : ∃ p, p = mkS (rep [36, 123, 120, 58, 45] j) := ⟨_, rfl⟩
      have a1 : p ++ (⟨#[97]⟩ : ByteArray) = mkS (rep [36, 123, 120, 58, 45] j ++ [97]) := by rw [hp]; exact mkS_add _ [97]
      have z1 : p.size ≤ 200 := by rw [hp, mkS_size, rep_len]; simp; omega
      rw [← hp]
      clear hp
      go_wp2
      obtain ⟨w1, rfl⟩ : ∃ w1, w1 = wr := ⟨_, rfl⟩
      go_loopw [5, 7] (fun s i wr => ∃ l : Nat, l ≤ j ∧ i = .int .i64 (l : Int) ∧ s = .string (mkS (rep [36, 123, 120, 58, 45] j ++ [97] ++ rep [125] l)) ∧ wr = w1) (fun s i _ => j - (intOf i).toNat)
      case atStart => exact ⟨0, by omega, rfl, by rw [rep, List.append_nil], by first | rfl | trivial⟩
      case round =>
        obtain ⟨l, hl, rfl, rfl, hw⟩ := hrel
        subst hw
        have hl0 : (0 : Int) ≤ (l : Int) := by omega
        by_cases hlk : l < j
        · have hl1 : (l : Int) < (j : Int) := by omega
          obtain ⟨p, hp⟩ : ∃ p, p = mkS (rep [36, 123, 120, 58, 45] j ++ [97] ++ rep [125] l) := ⟨_, rfl⟩
          have a1 : p ++ (⟨#[125]⟩ : ByteArray) = mkS (rep [36, 123, 120, 58, 45] j ++ [97] ++ rep [125] (l + 1)) := by rw [hp, rep, ← List.append_assoc]; exact mkS_add _ [125]
          have z1 : p.size ≤ 400 := by rw [hp, mkS_size, List.length_append, List.length_append, rep_len, rep_len]; simp; omega
          rw [← hp]
          clear hp
          go_wp2
          go_roundw
          case rel => exact ⟨l + 1, by omega, by go_num, by first | rfl | trivial | simp, by first | rfl | trivial⟩
          case measure => simp [intOf]; omega
        · have hle : l = j := by omega
          have hl1 : ¬ (l : Int) < (j : Int) := by omega
          subst hle
          have hS : rep [36, 123, 120, 58, 45] l ++ [97] ++ rep [125] l = text l := rfl
          rw [hS]
          have hlen : (text l).length ≤ 100000 := by rw [← hS, List.length_append, List.length_append, rep_len, rep_len]; simp; omega
          obtain ⟨S, hSS⟩ : ∃ S, S = text l := ⟨_, rfl⟩
          by_cases h8 : l ≤ 8
          · have ht := deep_ok l hk0 h8
            rw [← hSS] at ht hlen ⊢
            have HP := Lib.hid (parse_t HO1.out S _ rfl _ ht hlen)
            have h41 : ¬ (8 : Int) < (l : Int) := by omega
            clear hS hSS hlen ht
            go_wp2_with (go_at_call 9; (with_reducible refine HP.out.mono ?_); rintro e w2 ⟨v, rfl, hps, hl2⟩; have HPS := Lib.hid hps; have HL2 := Lib.hid (hl2); clear hps hl2)
            go_loopw [8, 10] (fun v i wr => ∃ t : Nat, t ≤ l ∧ i = .int .i64 (t : Int) ∧ Ps wr v (nest (l - t)) ∧ wr = w2) (fun v i _ => l - (intOf i).toNat)
            case atStart => exact ⟨0, by omega, rfl, HPS.out, by first | rfl | trivial⟩
            case round =>
              obtain ⟨t, ht, rfl, hp, hw⟩ := hrel
              subst hw
              have ht0 : (0 : Int) ≤ (t : Int) := by omega
              by_cases htl : t < l
              · have ht1 : (t : Int) < (l : Int) := by omega
                obtain ⟨q, hq⟩ : ∃ q, l - t = q + 1 := ⟨l - t - 1, by omega⟩
                rw [hq] at hp
                obtain ⟨b, c, rfl, hc, _, hg⟩ := hp.get (by simp [nest])
                obtain ⟨vw, pa⟩ := hg 0 _ rfl
                have q0 : wr.cell? ⟨b, 0, none⟩ = some (.int .i64 3) := pa.c0
                have q1 : wr.cell? ⟨b, 1, none⟩ = some (.string ⟨#[120]⟩) := pa.c1
                have q2 : wr.cell? ⟨b, 2, none⟩ = some (.string ⟨#[58, 45]⟩) := pa.c2
                have q3 : wr.cell? ⟨b, 3, none⟩ = some (.bool false) := pa.c3
                obtain ⟨_, A5, c5, rfl⟩ := pa.w.one
                have q4 := pa.c4
                rw [Nat.zero_mul, Nat.zero_add] at q4
                have HW := Lib.hid pa.w
                have HQ := Lib.hid (show l - (t + 1) = q by omega)
                have hln : (nest (q + 1)).length = 1 := rfl
                rw [hln] at hc ⊢
                clear hg pa hp hq hc hln
                go_wp2
                go_roundw
                case rel => exact ⟨t + 1, by omega, by go_num, by rw [HQ.out]; exact HW.out, by first | rfl | trivial⟩
                case measure => simp [intOf]; omega
              · have hte : t = l := by omega
                have ht1 : ¬ (t : Int) < (l : Int) := by omega
                rw [show l - t = 0 by omega] at hp
                obtain ⟨b, c, rfl, hc, _, hg⟩ := hp.get (by simp [nest])
                obtain ⟨vw, pa⟩ := hg 0 _ rfl
                have q0 : wr.cell? ⟨b, 0, none⟩ = some (.int .i64 1) := pa.c0
                have q1 : wr.cell? ⟨b, 1, none⟩ = some (.string ⟨#[97]⟩) := pa.c1
                have hln : (nest 0).length = 1 := rfl
                rw [hln] at hc ⊢
                clear hg pa hp hc hln hte
                go_wp2
                go_ret
                exact ⟨rfl, HB1.out.trans HL2.out⟩
          · have ht := deep_err l (by omega) hk60
            rw [← hSS] at ht hlen ⊢
            have HP := Lib.hid (parse_t HO1.out S _ rfl _ ht hlen)
            have h41 : (8 : Int) < (l : Int) := by omega
            clear hS hSS hlen ht
            go_wp2_with (go_at_call 9; (with_reducible refine HP.out.mono ?_); rintro e w2 ⟨v, rfl, hps, hl2⟩; obtain ⟨_, A5, c5, rfl⟩ := hps.one; have HL2 := Lib.hid (hl2); clear hps hl2)
            go_ret
            exact ⟨rfl, HB1.out.trans HL2.out⟩
theorem walk (w : World) (hg : Ops w) (x : Int) (hx : (Lit.int .u8 x).wf = true) :
    Calls Tryd.prog 6 #[.int .u8 x] w fun e w' => e = .returned (.bool true) ∧ Below w.heap.size w w' := by
  have hx := bounds_u8 hx
  have h1 : x.tmod 12 = ((x % 12).toNat : Int) := by rw [Int.tmod_eq_emod_of_nonneg (by omega)]; omega
  exact walkN w hg x _ hx.1 hx.2 (by omega) h1
end wordDeep
end Go.Proofs.YtlenocpaalahbaaDoor
