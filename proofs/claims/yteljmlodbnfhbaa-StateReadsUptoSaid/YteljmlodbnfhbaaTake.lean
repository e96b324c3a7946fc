/- varint's Take: what it tells of any bytes. -/
import Derived.Test.YteljmlodbnfhbaaProg
import Derived.Test.YteljmlodbnfhbaaBase
import Derived.Test.YteljmlodbnfhbaaVm
import Derived.Laws.ShiftsVarLaws
namespace Go.Proofs.Yteljmlodbnfhbaa
open Go.RowKit
theorem ne_cast (c d : Nat) : ((c : Int) != (d : Int)) = (c != d) := by rw [Bool.eq_iff_iff]; simp; omega
theorem beq_cast (c d : Nat) : ((c : Int) == (d : Int)) = (c == d) := by rw [Bool.eq_iff_iff]; simp; omega
def mayB (c i : Nat) : Bool := decide (i = 0 ∨ (c ≠ 0 ∧ (i < 9 ∨ c = 1)))
theorem mayB_1 (c i : Nat) (h0 : ¬ i = 0) (h9 : i < 9) : ((c : Int) != 0) = mayB c i := by
  have e := ne_cast c 0
  rw [show ((0 : Nat) : Int) = 0 from rfl] at e
  rw [e, mayB, Bool.eq_iff_iff]; simp [h0, h9]
theorem mayB_2 (c i : Nat) (h0 : ¬ i = 0) (h9 : ¬ i < 9) : ((c : Int) != 0 && (decide ((i : Int) < 9) || (c : Int) == 1)) = mayB c i := by
  have e := ne_cast c 0
  have e1 := beq_cast c 1
  rw [show ((0 : Nat) : Int) = 0 from rfl] at e
  rw [show ((1 : Nat) : Int) = 1 from rfl] at e1
  have e2 : decide ((i : Int) < 9) = decide (i < 9) := by rw [decide_eq_decide]; omega
  rw [e, e1, e2, mayB, Bool.eq_iff_iff]; simp [h0, h9]
theorem mayEnd_v (c i : Nat) (w : World) (hc : c < 256) (hi : i ≤ 10) :
    Calls Try.prog 79 #[.int .u8 (c : Int), .int .i64 (i : Int)] w fun e w' => e = .returned (.bool (mayB c i)) ∧ w = w' := by
  by_cases h0 : i = 0
  · subst h0
    go_enter Try.func79, Try.ntmps79
    go_wp2
    go_ret
    simp [mayB]
  · by_cases hc0 : c = 0
    · subst hc0
      go_enter Try.func79, Try.ntmps79
      go_wp2
      go_ret
      simp [mayB, h0]
    · by_cases h9 : i < 9
      · go_enter Try.func79, Try.ntmps79
        go_wp2
        go_ret
        exact ⟨by rw [← mayB_1 c i h0 h9]; rfl, rfl⟩
      · go_enter Try.func79, Try.ntmps79
        go_wp2
        go_ret
        exact ⟨by rw [← mayB_2 c i h0 h9]; rfl, rfl⟩
def cut64 (n : Nat) : Nat := n % 18446744073709551616
theorem cut64_lt {n : Nat} (h : n < 18446744073709551616) : cut64 n = n := Nat.mod_eq_of_lt h
theorem or_step (v k c : Nat) (hv : v < 128 ^ k) (hk : k ≤ 9) : bits .or .u64 (cut64 v : Int) (IntKind.u64.wrap ((c : Int) % 128 * 2 ^ (7 * k))) = (cut64 (v + 128 ^ k * (c % 128)) : Int) := by
  have e : (c : Int) % 128 * 2 ^ (7 * k) = ((c % 128 * 2 ^ (7 * k) : Nat) : Int) := by simp
  have ew : IntKind.u64.wrap ((c % 128 * 2 ^ (7 * k) : Nat) : Int) = ((c % 128 * 2 ^ (7 * k) % 18446744073709551616 : Nat) : Int) := by
    rw [IntKind.wrap_u64]; simp
  have hv2 : v < 18446744073709551616 := Nat.lt_of_lt_of_le hv (Nat.le_trans (Nat.pow_le_pow_right (by omega) hk) (by omega))
  rw [e, ew, cut64_lt hv2, u64_or_nat _ _ hv2 (Nat.mod_lt _ (by omega)), Nat.or_comm]
  have hp : ∀ j, j = k → v < 128 ^ j → j ≤ 9 → c % 128 * 2 ^ (7 * j) % 18446744073709551616 ||| v = cut64 (v + 128 ^ j * (c % 128)) := by
    intro j _ hvj hj
    unfold cut64
    match j, hj with
    | 0, _ => rw [nat_join (7 * 0) _ _ (by omega) (by omega)]; omega
    | 1, _ => rw [nat_join (7 * 1) _ _ (by omega) (by omega)]; omega
    | 2, _ => rw [nat_join (7 * 2) _ _ (by omega) (by omega)]; omega
    | 3, _ => rw [nat_join (7 * 3) _ _ (by omega) (by omega)]; omega
    | 4, _ => rw [nat_join (7 * 4) _ _ (by omega) (by omega)]; omega
    | 5, _ => rw [nat_join (7 * 5) _ _ (by omega) (by omega)]; omega
    | 6, _ => rw [nat_join (7 * 6) _ _ (by omega) (by omega)]; omega
    | 7, _ => rw [nat_join (7 * 7) _ _ (by omega) (by omega)]; omega
    | 8, _ => rw [nat_join (7 * 8) _ _ (by omega) (by omega)]; omega
    | 9, _ => rw [nat_join (7 * 9) _ _ (by omega) (by omega)]; omega
  rw [hp k rfl hv hk]
theorem val_take_lt (bs : List UInt8) (k : Nat) : val (bs.take k) < 128 ^ k := by
  have h := val_lt (bs.take k)
  exact Nat.lt_of_lt_of_le h (Nat.pow_le_pow_right (by omega) (by simp; omega))
theorem or_take (bs : List UInt8) (k c : Nat) (h : k < bs.length) (hk : k ≤ 9) (hc : c = bs[k].toNat) :
    bits .or .u64 (cut64 (val (bs.take k)) : Int) (IntKind.u64.wrap ((c : Int) % 128 * 2 ^ (7 * k))) = (cut64 (val (bs.take (k + 1))) : Int) := by
  rw [or_step _ k c (val_take_lt bs k) hk, val_snoc bs k h, hc]
theorem takeM_yes (bs : List UInt8) (k : Nat) (h : k < bs.length) (h10 : k < 10) (hh : heads bs = k) (hm : mayB bs[k].toNat k = true) :
    takeM bs = (val (bs.take (k + 1)), k + 1, 0) ∧ val (bs.take (k + 1)) < 18446744073709551616 := by
  have hx : takeM bs = (val (bs.take (k + 1)), k + 1, 0) := by
    have e : bs.getD k 0 = bs[k] := by simp [List.getD, List.getElem?_eq_getElem h]
    unfold takeM
    rw [hh, e, if_neg (by omega), if_neg (by omega), if_neg]
    simp [mayB] at hm
    rintro (⟨a, b⟩ | ⟨a, b⟩)
    · rcases hm with hm | hm
      · omega
      · exact hm.1 b
    · rcases hm with hm | hm
      · omega
      · rcases hm.2 with h9 | h1
        · omega
        · omega
  rcases takeM_cases bs with h1 | h1
  · have := h1.2.2.2.2.2.1; rw [hx] at this; exact ⟨hx, this⟩
  · rw [hx] at h1; simp at h1
theorem takeM_no (bs : List UInt8) (k : Nat) (h : k < bs.length) (h10 : k < 10) (hh : heads bs = k) (hm : mayB bs[k].toNat k = false) : takeM bs = (0, 0, 11) := by
  have e : bs.getD k 0 = bs[k] := by simp [List.getD, List.getElem?_eq_getElem h]
  unfold takeM
  rw [hh, e, if_neg (by omega), if_neg (by omega), if_pos]
  simp only [mayB, decide_eq_false_iff_not] at hm
  by_cases h0 : bs[k].toNat = 0
  · left; exact ⟨by omega, h0⟩
  · right; omega
theorem take_ret (a b c d e f : Int) (h1 : a = d) (h2 : b = e) (h3 : c = f) : Ending.returned (.tuple #[.int .u64 a, .int .i64 b, .int .i64 c]) = .returned (.tuple #[.int .u64 d, .int .i64 e, .int .i64 f]) := by rw [h1, h2, h3]
set_option maxRecDepth 100000 in
set_option maxHeartbeats 800000 in
theorem take_v (A : Option Addr) (n cap B : Nat) (bs : List UInt8) (w : World) (hr : Rd w B A n (bs.map bv)) (hn : n ≤ 140737488351232) :
    Calls Try.prog 78 #[.slice A n cap] w fun e w' => e = .returned (.tuple #[.int .u64 ((takeM bs).1 : Int), .int .i64 ((takeM bs).2.1 : Int), .int .i64 ((takeM bs).2.2 : Int)]) ∧ w = w' := by
  have hlen := Lib.hid hr.len
  have hh := heads_le bs
  obtain ⟨m, hm, hm1, hm2, hm3⟩ : ∃ m, m = min n 10 ∧ m ≤ n ∧ m ≤ 10 ∧ (m < n → 10 ≤ m) := ⟨_, rfl, by omega, by omega, by omega⟩
  have HM := Lib.hid hm
  clear hm
  by_cases hn10 : n ≤ 10
  all_goals
    go_enter Try.func78, Try.ntmps78
    go_wp2
    go_loop [5, 11] (fun x i => ∃ k : Nat, k ≤ m ∧ k ≤ heads bs ∧ i = .int .i64 (k : Int) ∧ x = .int .u64 (cut64 (val (bs.take k)) : Int)) (fun _ i => 10 - (intOf i).toNat)
    case atStart => exact ⟨0, by omega, by omega, rfl, rfl⟩
    case round =>
      obtain ⟨k, hk1, hk2, rfl, rfl⟩ := hrel
      have HR := Lib.hid hr
      clear hr
      by_cases hlt : k < m
      · obtain ⟨ad, hl, rfl, hb, hc⟩ := HR.out.byte (k := k) (by omega)
        obtain ⟨c, hcc⟩ : ∃ c, c = bs[k].toNat := ⟨_, rfl⟩
        have hc' : w.cell? (ad.add k) = some (.int .u8 (c : Int)) := by rw [hc, hcc]; rfl
        have hc256 : c < 256 := by rw [hcc]; exact UInt8.toNat_lt _
        have hat := Lib.hid (heads_at bs k hl (by omega) hk2)
        have HC := Lib.hid hcc
        clear hcc hc
        by_cases h128 : 128 ≤ c
        · go_wp2
          go_round
          case rel => exact ⟨k + 1, by omega, hat.out.1 (by rw [← HC.out]; exact h128), by go_num, int_eq (or_take bs k c hl (by omega) HC.out)⟩
          case measure => simp [intOf]; omega
        · have hk9 : k ≤ 10 := by omega
          have hto := Lib.hid (or_take bs k c hl (by omega) HC.out)
          have hhk : heads bs = k := hat.out.2 (by rw [← HC.out]; omega)
          have HK := Lib.hid hhk
          clear hhk
          by_cases hmb : mayB c k = true
          · have ht := Lib.hid (takeM_yes bs k hl (by omega) HK.out (by rw [← HC.out]; exact hmb))
            have HMB := Lib.hid hmb
            clear hmb
            go_wp2_with (go_at_call 79; refine (mayEnd_v _ _ _ hc256 hk9).mono ?_; rintro e w' ⟨rfl, rfl⟩; rw [HMB.out])
            go_ret3
            exact ⟨take_ret _ _ _ _ _ _ (by rw [hto.out, ht.out.1, cut64_lt ht.out.2]) (by rw [ht.out.1]; simp) (by rw [ht.out.1]; simp), rfl⟩
          · have hmb' : mayB c k = false := by simpa using hmb
            have ht := Lib.hid (takeM_no bs k hl (by omega) HK.out (by rw [← HC.out]; exact hmb'))
            have HMB := Lib.hid hmb'
            clear hmb hmb'
            go_wp2_with (go_at_call 79; refine (mayEnd_v _ _ _ hc256 hk9).mono ?_; rintro e w' ⟨rfl, rfl⟩; rw [HMB.out])
            go_ret3
            exact ⟨take_ret _ _ _ _ _ _ (by rw [ht.out]; rfl) (by rw [ht.out]; rfl) (by rw [ht.out]; rfl), rfl⟩
      · have hkm : heads bs = m ∧ k = m := by have := hlen.out; have := HM.out; omega
        have HK := Lib.hid hkm
        clear hkm
        by_cases hn10' : n < 10
        · have ht : takeM bs = (0, 0, 10) := by
            unfold takeM; have := hlen.out; have := HM.out; have := HK.out; rw [if_neg (by omega), if_pos (by omega)]
          have HT := Lib.hid ht
          clear ht
          go_wp2
          all_goals
            go_ret3
            exact ⟨take_ret _ _ _ _ _ _ (by rw [HT.out]; rfl) (by rw [HT.out]; rfl) (by rw [HT.out]; rfl), rfl⟩
        · have ht : takeM bs = (0, 0, 11) := by
            unfold takeM; have := hlen.out; have := HM.out; have := HK.out; rw [if_pos (by omega)]
          have HT := Lib.hid ht
          clear ht
          go_wp2
          all_goals
            go_ret3
            exact ⟨take_ret _ _ _ _ _ _ (by rw [HT.out]; rfl) (by rw [HT.out]; rfl) (by rw [HT.out]; rfl), rfl⟩
end Go.Proofs.Yteljmlodbnfhbaa
