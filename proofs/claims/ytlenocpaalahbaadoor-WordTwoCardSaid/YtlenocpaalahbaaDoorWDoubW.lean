/- WordDouble: its walk. No premises. -/
import Derived.Test.YtlenocpaalahbaaDoorWdA
namespace Go.Proofs.YtlenocpaalahbaaDoor
open Go.RowKit Go.Maps
open Ws
namespace wordDouble
theorem esc_take {S : L} {j : Nat} {c : UInt8} (hj : j < S.length) (hc : S[j] = c) : Wd.esc (S.take (j + 1)) = Wd.esc (S.take j) ++ Wd.escB c := by
  rw [List.take_succ_eq_append_getElem hj, hc]
  unfold Wd.esc
  rw [List.flatMap_append]
  simp
theorem byt (c k : UInt8) : ((c.toNat : Int) == (k.toNat : Int)) = decide (c = k) := by
  by_cases h : c = k
  · rw [decide_eq_true h]; exact byt_eq k h
  · rw [decide_eq_false h]; exact byt_ne k h
set_option maxHeartbeats 6400000 in
set_option maxRecDepth 100000 in
theorem walk (w : World) (hg : Ops w) (s : ByteArray) (_ : s.size ≤ maxLen) : Calls Tryd.prog 7 #[.string s] w fun e w' => e = .returned (.bool true) ∧ Below w.heap.size w w' := by
  obtain ⟨S, hS⟩ : ∃ S, S = s.data.toList := ⟨_, rfl⟩
  have hs : s = mkS S := by rw [hS, mkS_of]
  clear hS
  have HA := Lib.hid (awake_v hg)
  have HG := Lib.hid hg
  obtain ⟨n, hn⟩ : ∃ n, n = S.length := ⟨_, rfl⟩
  have hsz : s.size = n := by rw [hs, mkS_size, hn]
  have HN := Lib.hid hn
  have HS := Lib.hid hs
  clear hs hn hg
  by_cases hbig : n > 300
  · have hb1 : (300 : Int) < (n : Int) := by omega
    go_enter Tryd.func7, Tryd.ntmps7
    go_wp2_with (go_at_call 8; (with_reducible refine HA.out.mono ?_); rintro e w1 ⟨rfl, hb1⟩; have HB1 := Lib.hid hb1; clear hb1)
    go_ret
    exact ⟨rfl, HB1.out⟩
  have hb1 : ¬ (300 : Int) < (n : Int) := by omega
  have HNB := Lib.hid (show n ≤ 300 by omega)
  clear hbig
  go_enter Tryd.func7, Tryd.ntmps7
  go_wp2_with (go_at_call 8; (with_reducible refine HA.out.mono ?_); rintro e w1 ⟨rfl, hb1⟩; have HB1 := Lib.hid hb1; have HO1 := Lib.hid (Ops.later HG.out (Ops.pos HG.out) hb1); clear hb1)
  go_loopw [4, 5] (fun t i wr => ∃ j : Nat, j ≤ n ∧ i = .int .i64 (j : Int) ∧ t = .string (mkS (Wd.esc (S.take j))) ∧ wr = w1) (fun t i _ => n - (intOf i).toNat)
  case atStart => exact ⟨0, by omega, rfl, by rfl, by first | rfl | trivial⟩
  case round =>
    obtain ⟨j, hj, rfl, rfl, hw⟩ := hrel
    subst hw
    have hj0 : (0 : Int) ≤ (j : Int) := by omega
    have HJ := Lib.hid hj
    obtain ⟨p, hp⟩ : ∃ p, p = mkS (Wd.esc (S.take j)) := ⟨_, rfl⟩
    have z1 : p.size ≤ 700 := by
      rw [hp, mkS_size]
      have := Wd.esc_len (S.take j)
      rw [List.length_take] at this
      have := HNB.out
      omega
    rw [← hp]
    have HP := Lib.hid hp
    clear hp
    by_cases hjn : j < n
    · have hj1 : (j : Int) < (n : Int) := by omega
      have hlt : j < S.length := by have := HN.out; omega
      obtain ⟨c, hc⟩ : ∃ c, c = S[j] := ⟨_, rfl⟩
      have hgj : ∀ h, s[j]'h = c := by
        rw [HS.out, hc]
        intro h
        rfl
      have hw1 : wrap64 ((j : Int) + 1) = (j : Int) + 1 := w64 _ (by omega)
      have hj2 : (j : Int) + 1 ≤ (n : Int) := by omega
      have hj3 : (j : Int) ≤ (j : Int) + 1 := by omega
      have hn1 : ((j : Int) + 1).toNat = j + 1 := by omega
      have hq : s.extract j (j + 1) = mkS [c] := by rw [HS.out]; exact set_text S j c hlt hc.symm
      have hq1 : (mkS [c]).size = 1 := mkS_size [c]
      have hE := esc_take hlt hc.symm
      have HE := Lib.hid hE
      have b34 : ((c.toNat : Int) == 34) = decide (c = 34) := byt c 34
      have b92 : ((c.toNat : Int) == 92) = decide (c = 92) := byt c 92
      have b36 : ((c.toNat : Int) == 36) = decide (c = 36) := byt c 36
      have b96 : ((c.toNat : Int) == 96) = decide (c = 96) := byt c 96
      clear hE hc hlt
      by_cases hsp : Wd.spec c = true
      · have a1 : p ++ (⟨#[92]⟩ : ByteArray) = mkS (Wd.esc (S.take j) ++ [92]) := by rw [HP.out]; exact mkS_add _ [92]
        obtain ⟨p1, hp1⟩ : ∃ p1, p1 = mkS (Wd.esc (S.take j) ++ [92]) := ⟨_, rfl⟩
        have z2 : p1.size ≤ 701 := by
          have := HP.out
          rw [hp1, mkS_size, List.length_append]
          have h9 : (Wd.esc (S.take j)).length ≤ 700 := by rw [← mkS_size, ← HP.out]; exact z1
          simp; omega
        rw [← hp1] at a1
        have a2 : p1 ++ mkS [c] = mkS (Wd.esc (S.take (j + 1))) := by rw [hp1, HE.out, mkS_add]; unfold Wd.escB; rw [hsp]; simp
        have HA2 := Lib.hid a2
        clear hp1 a2
        have hcs : c = 34 ∨ c = 92 ∨ c = 36 ∨ c = 96 := by
          unfold Wd.spec at hsp
          simp only [Bool.or_eq_true, beq_iff_eq] at hsp
          rcases hsp with ((h | h) | h) | h
          · exact .inl h
          · exact .inr (.inl h)
          · exact .inr (.inr (.inl h))
          · exact .inr (.inr (.inr h))
        clear hsp
        rcases hcs with rfl | rfl | rfl | rfl
        · rw [decide_eq_true rfl] at b34
          rw [decide_eq_false (by decide)] at b92
          rw [decide_eq_false (by decide)] at b36
          rw [decide_eq_false (by decide)] at b96
          obtain ⟨q, hqq⟩ : ∃ q, q = mkS [(34 : UInt8)] := ⟨_, rfl⟩
          rw [← hqq] at hq hq1 HA2
          clear hqq
          go_wp2
          go_roundw
          case rel => exact ⟨j + 1, by omega, by go_num, by rw [HA2.out], by first | rfl | trivial⟩
          case measure => simp [intOf]; omega
        · rw [decide_eq_false (by decide)] at b34
          rw [decide_eq_true rfl] at b92
          rw [decide_eq_false (by decide)] at b36
          rw [decide_eq_false (by decide)] at b96
          obtain ⟨q, hqq⟩ : ∃ q, q = mkS [(92 : UInt8)] := ⟨_, rfl⟩
          rw [← hqq] at hq hq1 HA2
          clear hqq
          go_wp2
          go_roundw
          case rel => exact ⟨j + 1, by omega, by go_num, by rw [HA2.out], by first | rfl | trivial⟩
          case measure => simp [intOf]; omega
        · rw [decide_eq_false (by decide)] at b34
          rw [decide_eq_false (by decide)] at b92
          rw [decide_eq_true rfl] at b36
          rw [decide_eq_false (by decide)] at b96
          obtain ⟨q, hqq⟩ : ∃ q, q = mkS [(36 : UInt8)] := ⟨_, rfl⟩
          rw [← hqq] at hq hq1 HA2
          clear hqq
          go_wp2
          go_roundw
          case rel => exact ⟨j + 1, by omega, by go_num, by rw [HA2.out], by first | rfl | trivial⟩
          case measure => simp [intOf]; omega
        · rw [decide_eq_false (by decide)] at b34
          rw [decide_eq_false (by decide)] at b92
          rw [decide_eq_false (by decide)] at b36
          rw [decide_eq_true rfl] at b96
          obtain ⟨q, hqq⟩ : ∃ q, q = mkS [(96 : UInt8)] := ⟨_, rfl⟩
          rw [← hqq] at hq hq1 HA2
          clear hqq
          go_wp2
          go_roundw
          case rel => exact ⟨j + 1, by omega, by go_num, by rw [HA2.out], by first | rfl | trivial⟩
          case measure => simp [intOf]; omega
      · have hcs : c ≠ 34 ∧ c ≠ 92 ∧ c ≠ 36 ∧ c ≠ 96 := by
          unfold Wd.spec at hsp
          simp only [Bool.or_eq_true, beq_iff_eq, not_or] at hsp
          exact ⟨hsp.1.1.1, hsp.1.1.2, hsp.1.2, hsp.2⟩
        have a2 : p ++ mkS [c] = mkS (Wd.esc (S.take (j + 1))) := by rw [HP.out, HE.out, mkS_add]; unfold Wd.escB; rw [if_neg hsp]
        have HA2 := Lib.hid a2
        rw [decide_eq_false hcs.1] at b34
        rw [decide_eq_false hcs.2.1] at b92
        rw [decide_eq_false hcs.2.2.1] at b36
        rw [decide_eq_false hcs.2.2.2] at b96
        clear hsp hcs a2
        obtain ⟨q, hqq⟩ : ∃ q, q = mkS [c] := ⟨_, rfl⟩
        rw [← hqq] at hq hq1 HA2
        clear hqq
        go_wp2
        go_roundw
        case rel => exact ⟨j + 1, by omega, by go_num, by rw [HA2.out], by first | rfl | trivial⟩
        case measure => simp [intOf]; omega
    · have hje : j = n := by omega
      have hj1 : ¬ (j : Int) < (n : Int) := by omega
      have hfull : S.take j = S := List.take_of_length_le (by have := HN.out; omega)
      have a1 : ((⟨#[34]⟩ : ByteArray) ++ p) ++ (⟨#[34]⟩ : ByteArray) = mkS ([34] ++ Wd.esc S ++ [34]) := by
        rw [HP.out, hfull]
        show (mkS [34] ++ mkS (Wd.esc S)) ++ mkS [34] = _
        rw [mkS_add, mkS_add]
      have z3 : ¬ 9223372036854775807 < 1 + p.size := by omega
      have z4 : ¬ 9223372036854775807 < 1 + p.size + 1 := by omega
      have HPR := Lib.hid (parse_t HO1.out ([34] ++ Wd.esc S ++ [34]) _ a1 _ (Wd.parse_double S) (by have := Wd.esc_len S; have := HN.out; have := HNB.out; simp; omega))
      clear hje hfull a1
      go_wp2_with (go_at_call 9; (with_reducible refine HPR.out.mono ?_); rintro e w2 ⟨v, rfl, hps, hl2⟩; obtain ⟨b, c, rfl, hc, _, hg⟩ := hps.get (by simp); obtain ⟨vw, pa⟩ := hg 0 _ rfl; have q0 : w2.cell? ⟨b, 0, none⟩ = some (.int .i64 2) := pa.c0; have q1 : w2.cell? ⟨b, 1, none⟩ = some (.string s) := (by have h9 := pa.c1; rw [Nat.zero_mul, Nat.zero_add] at h9; rw [HS.out]; exact h9); have HL2 := Lib.hid hl2; clear hps hl2 hg pa)
      go_ret
      exact ⟨rfl, HB1.out.trans HL2.out⟩
end wordDouble
end Go.Proofs.YtlenocpaalahbaaDoor
