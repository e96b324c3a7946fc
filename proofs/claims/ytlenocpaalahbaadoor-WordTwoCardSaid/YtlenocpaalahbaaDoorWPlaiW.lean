/- WordPlain: its walk. No premises. -/
import Derived.Test.YtlenocpaalahbaaDoorWDoubW
namespace Go.Proofs.YtlenocpaalahbaaDoor
open Go.RowKit Go.Maps
open Ws
namespace wordPlain
open wordDouble (byt)
def sing (l : L) : Bool := !l.contains 39
theorem sing_take {S : L} {j : Nat} {c : UInt8} (hj : j < S.length) (hc : S[j] = c) : sing (S.take (j + 1)) = (sing (S.take j) && c != 39) := by
  rw [List.take_succ_eq_append_getElem hj, hc]
  unfold sing
  rw [Bool.eq_iff_iff]
  simp only [Bool.not_eq_true', Bool.and_eq_true, bne_iff_ne, ne_eq, List.contains_eq_mem, List.mem_append, List.mem_singleton, decide_eq_false_iff_not, not_or]
  exact and_congr_right fun _ => ⟨fun h e => h e.symm, fun h e => h e.symm⟩
theorem all_take {S : L} {j : Nat} {c : UInt8} (hj : j < S.length) (hc : S[j] = c) : (S.take (j + 1)).all Wd.plainB = ((S.take j).all Wd.plainB && Wd.plainB c) := by
  rw [List.take_succ_eq_append_getElem hj, hc, List.all_append]
  simp
theorem any_p {W : World} (hO : Ops W) (raw : L) (ts : ByteArray) (ht : ts = mkS raw) (hr : raw.length ≤ 100000) : Calls Tryd.prog 9 #[.string ts] W fun e W' => ∃ A n c z, e = .returned (.tuple #[.slice A n c, .int .i64 z]) ∧ Later W W' := by
  refine (parse_t hO raw ts ht _ rfl hr).mono fun e W' ⟨v, e1, h1, h2⟩ => ?_
  obtain ⟨_, A, c, rfl⟩ := h1.one
  exact ⟨A, _, c, _, e1, h2⟩
set_option maxHeartbeats 6400000 in
set_option maxRecDepth 100000 in
theorem walk (w : World) (hg : Ops w) (s : ByteArray) (_ : s.size ≤ maxLen) : Calls Tryd.prog 3 #[.string s] w fun e w' => e = .returned (.bool true) ∧ Below w.heap.size w w' := by
  obtain ⟨S, hS⟩ : ∃ S, S = s.data.toList := ⟨_, rfl⟩
  have hs : s = mkS S := by rw [hS, mkS_of]
  clear hS
  have HA := Lib.hid (awake_v hg)
  have HG := Lib.hid hg
  obtain ⟨n, hn⟩ : ∃ n, n = S.length := ⟨_, rfl⟩
  have hsz : s.size = n := by rw [hs, mkS_size, hn]
  have HN := Lib.hid hn
  have HS := Lib.hid hs
  clear hs hn hg
  by_cases hbig : n > 500
  · have hb1 : (500 : Int) < (n : Int) := by omega
    go_enter Tryd.func3, Tryd.ntmps3
    go_wp2_with (go_at_call 8; (with_reducible refine HA.out.mono ?_); rintro e w1 ⟨rfl, hb1⟩; have HB1 := Lib.hid hb1; clear hb1)
    go_ret
    exact ⟨rfl, HB1.out⟩
  have hb1 : ¬ (500 : Int) < (n : Int) := by omega
  have HNB := Lib.hid (show n ≤ 500 by omega)
  clear hbig
  go_enter Tryd.func3, Tryd.ntmps3
  go_wp2_with (go_at_call 8; (with_reducible refine HA.out.mono ?_); rintro e w1 ⟨rfl, hb1⟩; have HB1 := Lib.hid hb1; have HO1 := Lib.hid (Ops.later HG.out (Ops.pos HG.out) hb1); clear hb1)
  go_loopw [4, 5, 6] (fun a b i wr => ∃ j : Nat, j ≤ n ∧ i = .int .i64 (j : Int) ∧ a = .bool ((S.take j).all Wd.plainB) ∧ b = .bool (sing (S.take j)) ∧ wr = w1) (fun a b i _ => n - (intOf i).toNat)
  case atStart => exact ⟨0, by omega, rfl, by rfl, by rfl, by first | rfl | trivial⟩
  case round =>
    obtain ⟨j, hj, rfl, rfl, rfl, hw⟩ := hrel
    subst hw
    have hj0 : (0 : Int) ≤ (j : Int) := by omega
    have HJ := Lib.hid hj
    obtain ⟨pl, hpl⟩ : ∃ pl, pl = (S.take j).all Wd.plainB := ⟨_, rfl⟩
    obtain ⟨sg, hsg⟩ : ∃ sg, sg = sing (S.take j) := ⟨_, rfl⟩
    rw [← hpl, ← hsg]
    have HPL := Lib.hid hpl
    have HSG := Lib.hid hsg
    clear hpl hsg
    by_cases hjn : j < n
    · have hj1 : (j : Int) < (n : Int) := by omega
      have hlt : j < S.length := by have := HN.out; omega
      obtain ⟨c, hc⟩ : ∃ c, c = S[j] := ⟨_, rfl⟩
      have hgj : ∀ h, s[j]'h = c := by
        rw [HS.out, hc]
        intro h
        rfl
      have hw1 : wrap64 ((j : Int) + 1) = (j : Int) + 1 := w64 _ (by omega)
      have HE1 := Lib.hid (all_take hlt hc.symm)
      have HE2 := Lib.hid (sing_take hlt hc.symm)
      have b92 : ((c.toNat : Int) == 92) = decide (c = 92) := byt c 92
      have b39 : ((c.toNat : Int) == 39) = decide (c = 39) := byt c 39
      have b34 : ((c.toNat : Int) == 34) = decide (c = 34) := byt c 34
      have b36 : ((c.toNat : Int) == 36) = decide (c = 36) := byt c 36
      have b126 : ((c.toNat : Int) == 126) = decide (c = 126) := byt c 126
      have b96 : ((c.toNat : Int) == 96) = decide (c = 96) := byt c 96
      clear hc hlt
      by_cases hsp : Wd.plainB c = true
      · obtain ⟨n92, n39, n34, n36, n126, n96⟩ := Wd.plain_ne hsp
        have HF1 := Lib.hid (show (S.take (j + 1)).all Wd.plainB = pl by rw [HE1.out, hsp, Bool.and_true, HPL.out])
        have HF2 := Lib.hid (show sing (S.take (j + 1)) = sg by rw [HE2.out, HSG.out, show (c != 39) = true from bne_iff_ne.2 n39, Bool.and_true])
        rw [decide_eq_false n92] at b92
        rw [decide_eq_false n39] at b39
        rw [decide_eq_false n34] at b34
        rw [decide_eq_false n36] at b36
        rw [decide_eq_false n126] at b126
        rw [decide_eq_false n96] at b96
        clear hsp n92 n39 n34 n36 n126 n96
        go_wp2
        go_roundw
        case rel => exact ⟨j + 1, by omega, by go_num, by rw [HF1.out], by rw [HF2.out], by first | rfl | trivial⟩
        case measure => simp [intOf]; omega
      · have hcs : c = 92 ∨ c = 39 ∨ c = 34 ∨ c = 36 ∨ c = 126 ∨ c = 96 := by
          unfold Wd.plainB at hsp
          simp only [Bool.and_eq_true, bne_iff_ne, ne_eq, not_and, Decidable.not_not] at hsp
          by_cases h1 : c = 92
          · exact .inl h1
          by_cases h2 : c = 39
          · exact .inr (.inl h2)
          by_cases h3 : c = 34
          · exact .inr (.inr (.inl h3))
          by_cases h4 : c = 36
          · exact .inr (.inr (.inr (.inl h4)))
          by_cases h5 : c = 126
          · exact .inr (.inr (.inr (.inr (.inl h5))))
          exact .inr (.inr (.inr (.inr (.inr (hsp ⟨⟨⟨⟨h1, h2⟩, h3⟩, h4⟩, h5⟩)))))
        have HF1 := Lib.hid (show (S.take (j + 1)).all Wd.plainB = false by rw [HE1.out, Bool.eq_false_iff.2 hsp, Bool.and_false])
        clear hsp
        rcases hcs with rfl | rfl | rfl | rfl | rfl | rfl
        · rw [decide_eq_true rfl] at b92
          rw [decide_eq_false (by decide)] at b39
          rw [decide_eq_false (by decide)] at b34
          rw [decide_eq_false (by decide)] at b36
          rw [decide_eq_false (by decide)] at b126
          rw [decide_eq_false (by decide)] at b96
          have HF2 := Lib.hid (show sing (S.take (j + 1)) = sg by rw [HE2.out, HSG.out, show ((92 : UInt8) != 39) = true by decide, Bool.and_true])
          go_wp2
          go_roundw
          case rel => exact ⟨j + 1, by omega, by go_num, by rw [HF1.out], by rw [HF2.out], by first | rfl | trivial⟩
          case measure => simp [intOf]; omega
        · rw [decide_eq_false (by decide)] at b92
          rw [decide_eq_true rfl] at b39
          rw [decide_eq_false (by decide)] at b34
          rw [decide_eq_false (by decide)] at b36
          rw [decide_eq_false (by decide)] at b126
          rw [decide_eq_false (by decide)] at b96
          have HF2 := Lib.hid (show sing (S.take (j + 1)) = false by rw [HE2.out]; simp)
          go_wp2
          go_roundw
          case rel => exact ⟨j + 1, by omega, by go_num, by rw [HF1.out], by rw [HF2.out], by first | rfl | trivial⟩
          case measure => simp [intOf]; omega
        · rw [decide_eq_false (by decide)] at b92
          rw [decide_eq_false (by decide)] at b39
          rw [decide_eq_true rfl] at b34
          rw [decide_eq_false (by decide)] at b36
          rw [decide_eq_false (by decide)] at b126
          rw [decide_eq_false (by decide)] at b96
          have HF2 := Lib.hid (show sing (S.take (j + 1)) = sg by rw [HE2.out, HSG.out, show ((34 : UInt8) != 39) = true by decide, Bool.and_true])
          go_wp2
          go_roundw
          case rel => exact ⟨j + 1, by omega, by go_num, by rw [HF1.out], by rw [HF2.out], by first | rfl | trivial⟩
          case measure => simp [intOf]; omega
        · rw [decide_eq_false (by decide)] at b92
          rw [decide_eq_false (by decide)] at b39
          rw [decide_eq_false (by decide)] at b34
          rw [decide_eq_true rfl] at b36
          rw [decide_eq_false (by decide)] at b126
          rw [decide_eq_false (by decide)] at b96
          have HF2 := Lib.hid (show sing (S.take (j + 1)) = sg by rw [HE2.out, HSG.out, show ((36 : UInt8) != 39) = true by decide, Bool.and_true])
          go_wp2
          go_roundw
          case rel => exact ⟨j + 1, by omega, by go_num, by rw [HF1.out], by rw [HF2.out], by first | rfl | trivial⟩
          case measure => simp [intOf]; omega
        · rw [decide_eq_false (by decide)] at b92
          rw [decide_eq_false (by decide)] at b39
          rw [decide_eq_false (by decide)] at b34
          rw [decide_eq_false (by decide)] at b36
          rw [decide_eq_true rfl] at b126
          rw [decide_eq_false (by decide)] at b96
          have HF2 := Lib.hid (show sing (S.take (j + 1)) = sg by rw [HE2.out, HSG.out, show ((126 : UInt8) != 39) = true by decide, Bool.and_true])
          go_wp2
          go_roundw
          case rel => exact ⟨j + 1, by omega, by go_num, by rw [HF1.out], by rw [HF2.out], by first | rfl | trivial⟩
          case measure => simp [intOf]; omega
        · rw [decide_eq_false (by decide)] at b92
          rw [decide_eq_false (by decide)] at b39
          rw [decide_eq_false (by decide)] at b34
          rw [decide_eq_false (by decide)] at b36
          rw [decide_eq_false (by decide)] at b126
          rw [decide_eq_true rfl] at b96
          have HF2 := Lib.hid (show sing (S.take (j + 1)) = sg by rw [HE2.out, HSG.out, show ((96 : UInt8) != 39) = true by decide, Bool.and_true])
          go_wp2
          go_roundw
          case rel => exact ⟨j + 1, by omega, by go_num, by rw [HF1.out], by rw [HF2.out], by first | rfl | trivial⟩
          case measure => simp [intOf]; omega
    · have hje : j = n := by omega
      have hj1 : ¬ (j : Int) < (n : Int) := by omega
      have hfull : S.take j = S := List.take_of_length_le (by have := HN.out; omega)
      have hpl := HPL.out
      have hsg := HSG.out
      rw [hfull] at hpl hsg
      have a1 : ((⟨#[39]⟩ : ByteArray) ++ s) ++ (⟨#[39]⟩ : ByteArray) = mkS ([39] ++ S ++ [39]) := by
        rw [HS.out]
        show (mkS [39] ++ mkS S) ++ mkS [39] = _
        rw [mkS_add, mkS_add]
      have z3 : ¬ 9223372036854775807 < 1 + n := by have := HNB.out; omega
      have z4 : ¬ 9223372036854775807 < 1 + n + 1 := by have := HNB.out; omega
      have hlen : S.length ≤ 500 := by have := HN.out; have := HNB.out; omega
      have htl : (s.toList == ([] : List UInt8)) = decide (S = []) := by rw [HS.out]; exact nil_eq S
      have HA1 := Lib.hid a1
      have HLL := Lib.hid hlen
      clear hje hfull a1
      cases pl with
      | true =>
        have hs39 : (39 : UInt8) ∉ S := fun e => (Wd.plain_ne (List.all_eq_true.1 hpl.symm 39 e)).2.1 rfl
        have hsgt : sg = true := by rw [hsg]; unfold sing; simp [hs39]
        subst hsgt
        by_cases hnil : S = []
        · have hpp := Wd.parse_plain hpl.symm
          rw [if_pos hnil] at hpp
          have HP1 := Lib.hid (parse_t HO1.out S s HS.out _ hpp (by omega))
          have HP2 := Lib.hid (fun (W1 : World) (h1 : Ops W1) => parse_t h1 ([39] ++ S ++ [39]) _ HA1.out _ (Wd.parse_single hs39) (by have := HLL.out; simp; omega))
          have hse : (s.toList == ([] : List UInt8)) = true := by rw [htl]; simp [hnil]
          clear hpl hsg hs39 hnil hpp htl hlen
          go_wp2_with (first
            | (go_at_call 9; (with_reducible refine HP1.out.mono ?_); rintro e w2 ⟨v, rfl, hps, hl2⟩; obtain ⟨_, A2, c2, rfl⟩ := hps.one; have HL2 := Lib.hid hl2; have HO2 := Lib.hid (Ops.later HO1.out (Ops.pos HO1.out) hl2); clear hps hl2)
            | (go_at_call 9; (with_reducible refine (HP2.out _ HO2.out).mono ?_); rintro e w3 ⟨v3, rfl, hp3, hl3⟩; obtain ⟨b3, c3, rfl, hc3, _, hg3⟩ := hp3.get (by simp); obtain ⟨vw3, pa3⟩ := hg3 0 _ rfl; have q0 : w3.cell? ⟨b3, 0, none⟩ = some (.int .i64 2) := pa3.c0; have q1 : w3.cell? ⟨b3, 1, none⟩ = some (.string s) := (by have h9 := pa3.c1; rw [Nat.zero_mul, Nat.zero_add] at h9; rw [HS.out]; exact h9); have HL3 := Lib.hid hl3; clear hp3 hl3 hg3 pa3))
          go_ret
          exact ⟨rfl, HB1.out.trans (HL2.out.trans HL3.out)⟩
        · have hpp := Wd.parse_plain hpl.symm
          rw [if_neg hnil] at hpp
          have HP1 := Lib.hid (parse_t HO1.out S s HS.out _ hpp (by omega))
          have HP2 := Lib.hid (fun (W1 : World) (h1 : Ops W1) => parse_t h1 ([39] ++ S ++ [39]) _ HA1.out _ (Wd.parse_single hs39) (by have := HLL.out; simp; omega))
          have hse : (s.toList == ([] : List UInt8)) = false := by rw [htl]; simp [hnil]
          clear hpl hsg hs39 hnil hpp htl hlen
          go_wp2_with (first
            | (go_at_call 9; (with_reducible refine HP1.out.mono ?_); rintro e w2 ⟨v, rfl, hps, hl2⟩; obtain ⟨b2, c2, rfl, hc2, _, hg⟩ := hps.get (by simp); obtain ⟨vw2, pa⟩ := hg 0 _ rfl; have q2 : w2.cell? ⟨b2, 0, none⟩ = some (.int .i64 1) := pa.c0; have q3 : w2.cell? ⟨b2, 1, none⟩ = some (.string s) := (by have h9 := pa.c1; rw [Nat.zero_mul, Nat.zero_add] at h9; rw [HS.out]; exact h9); have HL2 := Lib.hid hl2; have HO2 := Lib.hid (Ops.later HO1.out (Ops.pos HO1.out) hl2); clear hps hl2 hg pa)
            | (go_at_call 9; (with_reducible refine (HP2.out _ HO2.out).mono ?_); rintro e w3 ⟨v3, rfl, hp3, hl3⟩; obtain ⟨b3, c3, rfl, hc3, _, hg3⟩ := hp3.get (by simp); obtain ⟨vw3, pa3⟩ := hg3 0 _ rfl; have q0 : w3.cell? ⟨b3, 0, none⟩ = some (.int .i64 2) := pa3.c0; have q1 : w3.cell? ⟨b3, 1, none⟩ = some (.string s) := (by have h9 := pa3.c1; rw [Nat.zero_mul, Nat.zero_add] at h9; rw [HS.out]; exact h9); have HL3 := Lib.hid hl3; clear hp3 hl3 hg3 pa3))
          go_ret
          exact ⟨rfl, HB1.out.trans (HL2.out.trans HL3.out)⟩
      | false =>
        have HP1 := Lib.hid (any_p HO1.out S s HS.out (by omega))
        cases sg with
        | true =>
          have hs39 : (39 : UInt8) ∉ S := fun e => by unfold sing at hsg; simp [e] at hsg
          have HP2 := Lib.hid (fun (W1 : World) (h1 : Ops W1) => parse_t h1 ([39] ++ S ++ [39]) _ HA1.out _ (Wd.parse_single hs39) (by have := HLL.out; simp; omega))
          clear hpl hsg hs39 htl hlen
          go_wp2_with (first
            | (go_at_call 9; (with_reducible refine HP1.out.mono ?_); rintro e w2 ⟨A2, n2, c2, z2', rfl, hl2⟩; have HL2 := Lib.hid hl2; have HO2 := Lib.hid (Ops.later HO1.out (Ops.pos HO1.out) hl2); clear hl2)
            | (go_at_call 9; (with_reducible refine (HP2.out _ HO2.out).mono ?_); rintro e w3 ⟨v3, rfl, hp3, hl3⟩; obtain ⟨b3, c3, rfl, hc3, _, hg3⟩ := hp3.get (by simp); obtain ⟨vw3, pa3⟩ := hg3 0 _ rfl; have q0 : w3.cell? ⟨b3, 0, none⟩ = some (.int .i64 2) := pa3.c0; have q1 : w3.cell? ⟨b3, 1, none⟩ = some (.string s) := (by have h9 := pa3.c1; rw [Nat.zero_mul, Nat.zero_add] at h9; rw [HS.out]; exact h9); have HL3 := Lib.hid hl3; clear hp3 hl3 hg3 pa3))
          go_ret
          exact ⟨rfl, HB1.out.trans (HL2.out.trans HL3.out)⟩
        | false =>
          have HP2 := Lib.hid (fun (W1 : World) (h1 : Ops W1) => any_p h1 ([39] ++ S ++ [39]) _ HA1.out (by have := HLL.out; simp; omega))
          clear hpl hsg htl hlen
          go_wp2_with (first
            | (go_at_call 9; (with_reducible refine HP1.out.mono ?_); rintro e w2 ⟨A2, n2, c2, z2', rfl, hl2⟩; have HL2 := Lib.hid hl2; have HO2 := Lib.hid (Ops.later HO1.out (Ops.pos HO1.out) hl2); clear hl2)
            | (go_at_call 9; (with_reducible refine (HP2.out _ HO2.out).mono ?_); rintro e w3 ⟨A3, n3, c3, z3', rfl, hl3⟩; have HL3 := Lib.hid hl3; clear hl3))
          go_ret
          exact ⟨rfl, HB1.out.trans (HL2.out.trans HL3.out)⟩
end wordPlain
end Go.Proofs.YtlenocpaalahbaaDoor
