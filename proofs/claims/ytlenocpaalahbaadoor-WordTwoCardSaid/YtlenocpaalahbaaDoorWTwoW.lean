/- WordTwo: its walk. No premises. -/
import Derived.Test.YtlenocpaalahbaaDoorWdU
import Derived.Test.YtlenocpaalahbaaDoorWPlaiW
import Derived.BigQuiet
namespace Go.Proofs.YtlenocpaalahbaaDoor
open Go.RowKit Go.Maps
open Ws
namespace wordTwo
theorem parse_len (raw : L) : (Wd.parse raw).1.length ≤ 3 * raw.length + 10 := by
  have h1 := (Wd.loop_m (fun _ h => Wd.left_ne h) (fun x hx => Wd.part_m (Wd.brace_len 8) x hx) raw.length (Wd.start raw)).2
  have h2 : Wd.m (Wd.start raw) ≤ 3 * raw.length + 3 := by
    unfold Wd.start
    split
    · have a := Wd.add_m (.mk 5 [] [] false []) Wd.R0
      have b := Wd.need_len [126] ⟨raw, 0⟩
      unfold Wd.m
      simp [Wd.R0] at a b ⊢
      omega
    · unfold Wd.m
      simp [Wd.R0]
  unfold Wd.parse Wd.told
  split
  · simp
  · have h3 : ∀ r : Wd.R, (Wd.all r).length ≤ r.ps.length + 1 := fun r => by unfold Wd.all Wd.close; split <;> simp
    have h4 := h3 (Wd.loop Wd.left (Wd.part (Wd.brace 8)) raw.length (Wd.start raw)).1
    unfold Wd.m at h1 h2
    dsimp only at h1 h4 ⊢
    omega
/-- Where a slice of parts lies, and what is read there. -/
theorem rows {W : World} {A : Option Addr} {c n : Nat} {ps : List Wd.P} (h : Ps W (.slice A n c) ps) {j : Nat} {p : Wd.P} (hj : ps[j]? = some p) : ∃ b, A = some ⟨b, 0, none⟩ ∧ ∃ vw, PAt W (fun _ => True) b (j * 5) p vw := by
  obtain ⟨b, c8, e8, _, _, hg⟩ := h.get (by intro e; rw [e] at hj; simp at hj)
  injection e8 with eA _ _
  exact ⟨b, eA, hg j p hj⟩
theorem meas_up (N j : Nat) (h : j < N) : N - (intOf (.int .i64 ((j : Int) + 1))).toNat < N - (intOf (.int .i64 (j : Int))).toNat := by
  simp only [intOf]
  omega
set_option maxHeartbeats 6400000 in
set_option maxRecDepth 100000 in
theorem walk (w : World) (hg : Ops w) (a : ByteArray) (_ : a.size ≤ maxLen) (b : ByteArray) (_ : b.size ≤ maxLen) : Calls Tryd.prog 5 #[.string a, .string b] w fun e w' => e = .returned (.bool true) ∧ Below w.heap.size w w' := by
  obtain ⟨SA, hSA⟩ : ∃ S, S = a.data.toList := ⟨_, rfl⟩
  have ha : a = mkS SA := by rw [hSA, mkS_of]
  obtain ⟨SB, hSB⟩ : ∃ S, S = b.data.toList := ⟨_, rfl⟩
  have hb : b = mkS SB := by rw [hSB, mkS_of]
  clear hSA hSB
  have HA := Lib.hid (awake_v hg)
  have HG := Lib.hid hg
  obtain ⟨na, hna⟩ : ∃ n, n = SA.length := ⟨_, rfl⟩
  obtain ⟨nb, hnb⟩ : ∃ n, n = SB.length := ⟨_, rfl⟩
  have hza : a.size = na := by rw [ha, mkS_size, hna]
  have hzb : b.size = nb := by rw [hb, mkS_size, hnb]
  have HAS := Lib.hid ha
  have HBS := Lib.hid hb
  have HNA := Lib.hid hna
  have HNB := Lib.hid hnb
  clear ha hb hna hnb hg
  by_cases big1 : na > 300
  · have hb1 : (300 : Int) < (na : Int) := by omega
    go_enter Tryd.func5, Tryd.ntmps5
    go_wp2_with (go_at_call 8; (with_reducible refine HA.out.mono ?_); rintro e w1 ⟨rfl, hb9⟩; have HB1 := Lib.hid hb9; clear hb9)
    go_ret
    exact ⟨rfl, HB1.out⟩
  have hb1 : ¬ (300 : Int) < (na : Int) := by omega
  by_cases big2 : nb > 300
  · have hb2 : (300 : Int) < (nb : Int) := by omega
    go_enter Tryd.func5, Tryd.ntmps5
    go_wp2_with (go_at_call 8; (with_reducible refine HA.out.mono ?_); rintro e w1 ⟨rfl, hb9⟩; have HB1 := Lib.hid hb9; clear hb9)
    go_ret
    exact ⟨rfl, HB1.out⟩
  have hb2 : ¬ (300 : Int) < (nb : Int) := by omega
  have HBG := Lib.hid (And.intro (show na ≤ 300 by omega) (show nb ≤ 300 by omega))
  clear big1 big2
  -- the head of b
  have head : (nb = 0 ∧ SB = []) ∨ ∃ c r, SB = c :: r ∧ 0 < nb := by
    cases e : SB with
    | nil => exact .inl ⟨by rw [HNB.out, e]; rfl, rfl⟩
    | cons c r => exact .inr ⟨c, r, rfl, by rw [HNB.out, e]; simp⟩
  by_cases hd : SB.head? = some 126
  · obtain ⟨r, hr⟩ : ∃ r, SB = 126 :: r := by
      cases e : SB with
      | nil => rw [e] at hd; cases hd
      | cons c r => rw [e] at hd; simp at hd; subst hd; exact ⟨r, rfl⟩
    have hn0 : 0 < nb := by rw [HNB.out, hr]; simp
    have hn1 : (0 : Int) < (nb : Int) := by omega
    have hgj : ∀ h, b[0]'h = 126 := by
      rw [HBS.out, hr]
      intro h
      rfl
    clear head hr hd
    go_enter Tryd.func5, Tryd.ntmps5
    go_wp2_with (go_at_call 8; (with_reducible refine HA.out.mono ?_); rintro e w1 ⟨rfl, hb9⟩; have HB1 := Lib.hid hb9; clear hb9)
    go_ret
    exact ⟨rfl, HB1.out⟩
  have HHD := Lib.hid hd
  -- b's first byte is none
  have hfirst : nb = 0 ∨ ∃ c : UInt8, c ≠ 126 ∧ 0 < nb ∧ ∀ h, b[0]'h = c := by
    rcases head with ⟨h0, _⟩ | ⟨c, r, hc, h0⟩
    · exact .inl h0
    · refine .inr ⟨c, fun e => HHD.out (by rw [hc, e]; rfl), h0, ?_⟩
      rw [HBS.out, hc]
      intro h
      rfl
  clear head hd
  obtain ⟨l, hl⟩ : ∃ l, l = (Wd.parse SA).1 := ⟨_, rfl⟩
  obtain ⟨le, hle⟩ : ∃ e, e = (Wd.parse SA).2 := ⟨_, rfl⟩
  obtain ⟨m, hm⟩ : ∃ m, m = (Wd.parse SB).1 := ⟨_, rfl⟩
  obtain ⟨me, hme⟩ : ∃ e, e = (Wd.parse SB).2 := ⟨_, rfl⟩
  have hpa : Wd.parse SA = (l, le) := by rw [hl, hle]
  have hpb : Wd.parse SB = (m, me) := by rw [hm, hme]
  have hP1 := fun (W : World) (hO : Ops W) => parse_t hO SA a HAS.out _ hpa (by have := HNA.out; have := HBG.out; omega)
  have hP2 := fun (W : World) (hO : Ops W) => parse_t hO SB b HBS.out _ hpb (by have := HNB.out; have := HBG.out; omega)
  have hcat : (a ++ (⟨#[39, 39]⟩ : ByteArray)) ++ b = mkS (SA ++ 39 :: 39 :: SB) := by
    rw [HAS.out, HBS.out]
    show (mkS SA ++ mkS [39, 39]) ++ mkS SB = _
    rw [mkS_add, mkS_add, List.append_assoc]
    rfl
  have hcl : (SA ++ 39 :: 39 :: SB).length ≤ 100000 := by have := HNA.out; have := HNB.out; have := HBG.out; simp; omega
  have hz3 : ¬ 9223372036854775807 < na + 2 := by have := HBG.out; omega
  have hz4 : ¬ 9223372036854775807 < na + 2 + nb := by have := HBG.out; omega
  have HP1 := Lib.hid hP1
  have HP2 := Lib.hid hP2
  have HPA := Lib.hid hpa
  have HPB := Lib.hid hpb
  have HCAT := Lib.hid hcat
  have HCL := Lib.hid hcl
  have hll : l.length ≤ 910 := by have := parse_len SA; rw [← hl] at this; have := HNA.out; have := HBG.out; omega
  have hml : m.length ≤ 910 := by have := parse_len SB; rw [← hm] at this; have := HNB.out; have := HBG.out; omega
  have HLL := Lib.hid (And.intro hll hml)
  clear hl hle hm hme hpa hpb hP1 hP2 hcat hcl hll hml
  have htl : (a.toList == ([126] : List UInt8)) = decide (SA = [126]) := by
    rw [HAS.out, toList_mkS]
    by_cases h : SA = [126] <;> simp [h]
  by_cases bad : le ≠ 0 ∨ me ≠ 0 ∨ SA = [126]
  · have HP3 := Lib.hid (fun (W : World) (hO : Ops W) => wordPlain.any_p hO (SA ++ 39 :: 39 :: SB) _ HCAT.out HCL.out)
    rcases hfirst with h0 | ⟨c, hc, hn0, hgj⟩
    · subst h0
      rcases bad with h | h | h
      · have f1 : ((le : Int) != 0) = true := by simp [h]
        clear h htl
        go_enter Tryd.func5, Tryd.ntmps5
        go_wp2_with (first
          | (go_at_call 8; (with_reducible refine HA.out.mono ?_); rintro e w1 ⟨rfl, hb9⟩; have HB1 := Lib.hid hb9; have HO1 := Lib.hid (Ops.later HG.out (Ops.pos HG.out) hb9); clear hb9)
          | (go_at_call 9; (with_reducible refine (HP1.out _ HO1.out).mono ?_); rintro e w2 ⟨v, rfl, hps, hl2⟩; obtain ⟨_, A2, c2, rfl⟩ := hps.one; have HQ2 := Lib.hid hps; have HL2 := Lib.hid hl2; have HO2 := Lib.hid (Ops.later HO1.out (Ops.pos HO1.out) hl2); clear hps hl2)
          | (go_at_call 9; (with_reducible refine (HP2.out _ HO2.out).mono ?_); rintro e w3 ⟨v, rfl, hps, hl2⟩; obtain ⟨_, A3, c3, rfl⟩ := hps.one; have HQ3 := Lib.hid hps; have HL3 := Lib.hid hl2; have HO3 := Lib.hid (Ops.later HO2.out (Ops.pos HO2.out) hl2); clear hps hl2)
          | (go_at_call 9; (with_reducible refine (HP3.out _ HO3.out).mono ?_); rintro e w4 ⟨A4, n4, c4, z4', rfl, hl4⟩; have HL4 := Lib.hid hl4; clear hl4))
        go_ret
        exact ⟨rfl, HB1.out.trans (HL2.out.trans (HL3.out.trans HL4.out))⟩
      · by_cases h1 : le = 0
        · have f1 : ((le : Int) != 0) = false := by simp [h1]
          have f2 : ((me : Int) != 0) = true := by simp [h]
          clear h h1 htl
          go_enter Tryd.func5, Tryd.ntmps5
          go_wp2_with (first
            | (go_at_call 8; (with_reducible refine HA.out.mono ?_); rintro e w1 ⟨rfl, hb9⟩; have HB1 := Lib.hid hb9; have HO1 := Lib.hid (Ops.later HG.out (Ops.pos HG.out) hb9); clear hb9)
            | (go_at_call 9; (with_reducible refine (HP1.out _ HO1.out).mono ?_); rintro e w2 ⟨v, rfl, hps, hl2⟩; obtain ⟨_, A2, c2, rfl⟩ := hps.one; have HQ2 := Lib.hid hps; have HL2 := Lib.hid hl2; have HO2 := Lib.hid (Ops.later HO1.out (Ops.pos HO1.out) hl2); clear hps hl2)
            | (go_at_call 9; (with_reducible refine (HP2.out _ HO2.out).mono ?_); rintro e w3 ⟨v, rfl, hps, hl2⟩; obtain ⟨_, A3, c3, rfl⟩ := hps.one; have HQ3 := Lib.hid hps; have HL3 := Lib.hid hl2; have HO3 := Lib.hid (Ops.later HO2.out (Ops.pos HO2.out) hl2); clear hps hl2)
            | (go_at_call 9; (with_reducible refine (HP3.out _ HO3.out).mono ?_); rintro e w4 ⟨A4, n4, c4, z4', rfl, hl4⟩; have HL4 := Lib.hid hl4; clear hl4))
          go_ret
          exact ⟨rfl, HB1.out.trans (HL2.out.trans (HL3.out.trans HL4.out))⟩
        · have f1 : ((le : Int) != 0) = true := by simp [h1]
          clear h h1 htl
          go_enter Tryd.func5, Tryd.ntmps5
          go_wp2_with (first
            | (go_at_call 8; (with_reducible refine HA.out.mono ?_); rintro e w1 ⟨rfl, hb9⟩; have HB1 := Lib.hid hb9; have HO1 := Lib.hid (Ops.later HG.out (Ops.pos HG.out) hb9); clear hb9)
            | (go_at_call 9; (with_reducible refine (HP1.out _ HO1.out).mono ?_); rintro e w2 ⟨v, rfl, hps, hl2⟩; obtain ⟨_, A2, c2, rfl⟩ := hps.one; have HQ2 := Lib.hid hps; have HL2 := Lib.hid hl2; have HO2 := Lib.hid (Ops.later HO1.out (Ops.pos HO1.out) hl2); clear hps hl2)
            | (go_at_call 9; (with_reducible refine (HP2.out _ HO2.out).mono ?_); rintro e w3 ⟨v, rfl, hps, hl2⟩; obtain ⟨_, A3, c3, rfl⟩ := hps.one; have HQ3 := Lib.hid hps; have HL3 := Lib.hid hl2; have HO3 := Lib.hid (Ops.later HO2.out (Ops.pos HO2.out) hl2); clear hps hl2)
            | (go_at_call 9; (with_reducible refine (HP3.out _ HO3.out).mono ?_); rintro e w4 ⟨A4, n4, c4, z4', rfl, hl4⟩; have HL4 := Lib.hid hl4; clear hl4))
          go_ret
          exact ⟨rfl, HB1.out.trans (HL2.out.trans (HL3.out.trans HL4.out))⟩
      · rw [decide_eq_true h] at htl
        by_cases h1 : le = 0
        · have f1 : ((le : Int) != 0) = false := by simp [h1]
          by_cases h2 : me = 0
          · have f2 : ((me : Int) != 0) = false := by simp [h2]
            clear h h1 h2
            go_enter Tryd.func5, Tryd.ntmps5
            go_wp2_with (first
              | (go_at_call 8; (with_reducible refine HA.out.mono ?_); rintro e w1 ⟨rfl, hb9⟩; have HB1 := Lib.hid hb9; have HO1 := Lib.hid (Ops.later HG.out (Ops.pos HG.out) hb9); clear hb9)
              | (go_at_call 9; (with_reducible refine (HP1.out _ HO1.out).mono ?_); rintro e w2 ⟨v, rfl, hps, hl2⟩; obtain ⟨_, A2, c2, rfl⟩ := hps.one; have HQ2 := Lib.hid hps; have HL2 := Lib.hid hl2; have HO2 := Lib.hid (Ops.later HO1.out (Ops.pos HO1.out) hl2); clear hps hl2)
              | (go_at_call 9; (with_reducible refine (HP2.out _ HO2.out).mono ?_); rintro e w3 ⟨v, rfl, hps, hl2⟩; obtain ⟨_, A3, c3, rfl⟩ := hps.one; have HQ3 := Lib.hid hps; have HL3 := Lib.hid hl2; have HO3 := Lib.hid (Ops.later HO2.out (Ops.pos HO2.out) hl2); clear hps hl2)
              | (go_at_call 9; (with_reducible refine (HP3.out _ HO3.out).mono ?_); rintro e w4 ⟨A4, n4, c4, z4', rfl, hl4⟩; have HL4 := Lib.hid hl4; clear hl4))
            go_ret
            exact ⟨rfl, HB1.out.trans (HL2.out.trans (HL3.out.trans HL4.out))⟩
          · have f2 : ((me : Int) != 0) = true := by simp [h2]
            clear h h1 h2
            go_enter Tryd.func5, Tryd.ntmps5
            go_wp2_with (first
              | (go_at_call 8; (with_reducible refine HA.out.mono ?_); rintro e w1 ⟨rfl, hb9⟩; have HB1 := Lib.hid hb9; have HO1 := Lib.hid (Ops.later HG.out (Ops.pos HG.out) hb9); clear hb9)
              | (go_at_call 9; (with_reducible refine (HP1.out _ HO1.out).mono ?_); rintro e w2 ⟨v, rfl, hps, hl2⟩; obtain ⟨_, A2, c2, rfl⟩ := hps.one; have HQ2 := Lib.hid hps; have HL2 := Lib.hid hl2; have HO2 := Lib.hid (Ops.later HO1.out (Ops.pos HO1.out) hl2); clear hps hl2)
              | (go_at_call 9; (with_reducible refine (HP2.out _ HO2.out).mono ?_); rintro e w3 ⟨v, rfl, hps, hl2⟩; obtain ⟨_, A3, c3, rfl⟩ := hps.one; have HQ3 := Lib.hid hps; have HL3 := Lib.hid hl2; have HO3 := Lib.hid (Ops.later HO2.out (Ops.pos HO2.out) hl2); clear hps hl2)
              | (go_at_call 9; (with_reducible refine (HP3.out _ HO3.out).mono ?_); rintro e w4 ⟨A4, n4, c4, z4', rfl, hl4⟩; have HL4 := Lib.hid hl4; clear hl4))
            go_ret
            exact ⟨rfl, HB1.out.trans (HL2.out.trans (HL3.out.trans HL4.out))⟩
        · have f1 : ((le : Int) != 0) = true := by simp [h1]
          clear h h1
          go_enter Tryd.func5, Tryd.ntmps5
          go_wp2_with (first
            | (go_at_call 8; (with_reducible refine HA.out.mono ?_); rintro e w1 ⟨rfl, hb9⟩; have HB1 := Lib.hid hb9; have HO1 := Lib.hid (Ops.later HG.out (Ops.pos HG.out) hb9); clear hb9)
            | (go_at_call 9; (with_reducible refine (HP1.out _ HO1.out).mono ?_); rintro e w2 ⟨v, rfl, hps, hl2⟩; obtain ⟨_, A2, c2, rfl⟩ := hps.one; have HQ2 := Lib.hid hps; have HL2 := Lib.hid hl2; have HO2 := Lib.hid (Ops.later HO1.out (Ops.pos HO1.out) hl2); clear hps hl2)
            | (go_at_call 9; (with_reducible refine (HP2.out _ HO2.out).mono ?_); rintro e w3 ⟨v, rfl, hps, hl2⟩; obtain ⟨_, A3, c3, rfl⟩ := hps.one; have HQ3 := Lib.hid hps; have HL3 := Lib.hid hl2; have HO3 := Lib.hid (Ops.later HO2.out (Ops.pos HO2.out) hl2); clear hps hl2)
            | (go_at_call 9; (with_reducible refine (HP3.out _ HO3.out).mono ?_); rintro e w4 ⟨A4, n4, c4, z4', rfl, hl4⟩; have HL4 := Lib.hid hl4; clear hl4))
          go_ret
          exact ⟨rfl, HB1.out.trans (HL2.out.trans (HL3.out.trans HL4.out))⟩
    · have hn1 : (0 : Int) < (nb : Int) := by omega
      have hcf : ((c.toNat : Int) == 126) = false := (wordDouble.byt c 126).trans (decide_eq_false hc)
      clear hc
      rcases bad with h | h | h
      · have f1 : ((le : Int) != 0) = true := by simp [h]
        clear h htl
        go_enter Tryd.func5, Tryd.ntmps5
        go_wp2_with (first
          | (go_at_call 8; (with_reducible refine HA.out.mono ?_); rintro e w1 ⟨rfl, hb9⟩; have HB1 := Lib.hid hb9; have HO1 := Lib.hid (Ops.later HG.out (Ops.pos HG.out) hb9); clear hb9)
          | (go_at_call 9; (with_reducible refine (HP1.out _ HO1.out).mono ?_); rintro e w2 ⟨v, rfl, hps, hl2⟩; obtain ⟨_, A2, c2, rfl⟩ := hps.one; have HQ2 := Lib.hid hps; have HL2 := Lib.hid hl2; have HO2 := Lib.hid (Ops.later HO1.out (Ops.pos HO1.out) hl2); clear hps hl2)
          | (go_at_call 9; (with_reducible refine (HP2.out _ HO2.out).mono ?_); rintro e w3 ⟨v, rfl, hps, hl2⟩; obtain ⟨_, A3, c3, rfl⟩ := hps.one; have HQ3 := Lib.hid hps; have HL3 := Lib.hid hl2; have HO3 := Lib.hid (Ops.later HO2.out (Ops.pos HO2.out) hl2); clear hps hl2)
          | (go_at_call 9; (with_reducible refine (HP3.out _ HO3.out).mono ?_); rintro e w4 ⟨A4, n4, c4, z4', rfl, hl4⟩; have HL4 := Lib.hid hl4; clear hl4))
        go_ret
        exact ⟨rfl, HB1.out.trans (HL2.out.trans (HL3.out.trans HL4.out))⟩
      · by_cases h1 : le = 0
        · have f1 : ((le : Int) != 0) = false := by simp [h1]
          have f2 : ((me : Int) != 0) = true := by simp [h]
          clear h h1 htl
          go_enter Tryd.func5, Tryd.ntmps5
          go_wp2_with (first
            | (go_at_call 8; (with_reducible refine HA.out.mono ?_); rintro e w1 ⟨rfl, hb9⟩; have HB1 := Lib.hid hb9; have HO1 := Lib.hid (Ops.later HG.out (Ops.pos HG.out) hb9); clear hb9)
            | (go_at_call 9; (with_reducible refine (HP1.out _ HO1.out).mono ?_); rintro e w2 ⟨v, rfl, hps, hl2⟩; obtain ⟨_, A2, c2, rfl⟩ := hps.one; have HQ2 := Lib.hid hps; have HL2 := Lib.hid hl2; have HO2 := Lib.hid (Ops.later HO1.out (Ops.pos HO1.out) hl2); clear hps hl2)
            | (go_at_call 9; (with_reducible refine (HP2.out _ HO2.out).mono ?_); rintro e w3 ⟨v, rfl, hps, hl2⟩; obtain ⟨_, A3, c3, rfl⟩ := hps.one; have HQ3 := Lib.hid hps; have HL3 := Lib.hid hl2; have HO3 := Lib.hid (Ops.later HO2.out (Ops.pos HO2.out) hl2); clear hps hl2)
            | (go_at_call 9; (with_reducible refine (HP3.out _ HO3.out).mono ?_); rintro e w4 ⟨A4, n4, c4, z4', rfl, hl4⟩; have HL4 := Lib.hid hl4; clear hl4))
          go_ret
          exact ⟨rfl, HB1.out.trans (HL2.out.trans (HL3.out.trans HL4.out))⟩
        · have f1 : ((le : Int) != 0) = true := by simp [h1]
          clear h h1 htl
          go_enter Tryd.func5, Tryd.ntmps5
          go_wp2_with (first
            | (go_at_call 8; (with_reducible refine HA.out.mono ?_); rintro e w1 ⟨rfl, hb9⟩; have HB1 := Lib.hid hb9; have HO1 := Lib.hid (Ops.later HG.out (Ops.pos HG.out) hb9); clear hb9)
            | (go_at_call 9; (with_reducible refine (HP1.out _ HO1.out).mono ?_); rintro e w2 ⟨v, rfl, hps, hl2⟩; obtain ⟨_, A2, c2, rfl⟩ := hps.one; have HQ2 := Lib.hid hps; have HL2 := Lib.hid hl2; have HO2 := Lib.hid (Ops.later HO1.out (Ops.pos HO1.out) hl2); clear hps hl2)
            | (go_at_call 9; (with_reducible refine (HP2.out _ HO2.out).mono ?_); rintro e w3 ⟨v, rfl, hps, hl2⟩; obtain ⟨_, A3, c3, rfl⟩ := hps.one; have HQ3 := Lib.hid hps; have HL3 := Lib.hid hl2; have HO3 := Lib.hid (Ops.later HO2.out (Ops.pos HO2.out) hl2); clear hps hl2)
            | (go_at_call 9; (with_reducible refine (HP3.out _ HO3.out).mono ?_); rintro e w4 ⟨A4, n4, c4, z4', rfl, hl4⟩; have HL4 := Lib.hid hl4; clear hl4))
          go_ret
          exact ⟨rfl, HB1.out.trans (HL2.out.trans (HL3.out.trans HL4.out))⟩
      · rw [decide_eq_true h] at htl
        by_cases h1 : le = 0
        · have f1 : ((le : Int) != 0) = false := by simp [h1]
          by_cases h2 : me = 0
          · have f2 : ((me : Int) != 0) = false := by simp [h2]
            clear h h1 h2
            go_enter Tryd.func5, Tryd.ntmps5
            go_wp2_with (first
              | (go_at_call 8; (with_reducible refine HA.out.mono ?_); rintro e w1 ⟨rfl, hb9⟩; have HB1 := Lib.hid hb9; have HO1 := Lib.hid (Ops.later HG.out (Ops.pos HG.out) hb9); clear hb9)
              | (go_at_call 9; (with_reducible refine (HP1.out _ HO1.out).mono ?_); rintro e w2 ⟨v, rfl, hps, hl2⟩; obtain ⟨_, A2, c2, rfl⟩ := hps.one; have HQ2 := Lib.hid hps; have HL2 := Lib.hid hl2; have HO2 := Lib.hid (Ops.later HO1.out (Ops.pos HO1.out) hl2); clear hps hl2)
              | (go_at_call 9; (with_reducible refine (HP2.out _ HO2.out).mono ?_); rintro e w3 ⟨v, rfl, hps, hl2⟩; obtain ⟨_, A3, c3, rfl⟩ := hps.one; have HQ3 := Lib.hid hps; have HL3 := Lib.hid hl2; have HO3 := Lib.hid (Ops.later HO2.out (Ops.pos HO2.out) hl2); clear hps hl2)
              | (go_at_call 9; (with_reducible refine (HP3.out _ HO3.out).mono ?_); rintro e w4 ⟨A4, n4, c4, z4', rfl, hl4⟩; have HL4 := Lib.hid hl4; clear hl4))
            go_ret
            exact ⟨rfl, HB1.out.trans (HL2.out.trans (HL3.out.trans HL4.out))⟩
          · have f2 : ((me : Int) != 0) = true := by simp [h2]
            clear h h1 h2
            go_enter Tryd.func5, Tryd.ntmps5
            go_wp2_with (first
              | (go_at_call 8; (with_reducible refine HA.out.mono ?_); rintro e w1 ⟨rfl, hb9⟩; have HB1 := Lib.hid hb9; have HO1 := Lib.hid (Ops.later HG.out (Ops.pos HG.out) hb9); clear hb9)
              | (go_at_call 9; (with_reducible refine (HP1.out _ HO1.out).mono ?_); rintro e w2 ⟨v, rfl, hps, hl2⟩; obtain ⟨_, A2, c2, rfl⟩ := hps.one; have HQ2 := Lib.hid hps; have HL2 := Lib.hid hl2; have HO2 := Lib.hid (Ops.later HO1.out (Ops.pos HO1.out) hl2); clear hps hl2)
              | (go_at_call 9; (with_reducible refine (HP2.out _ HO2.out).mono ?_); rintro e w3 ⟨v, rfl, hps, hl2⟩; obtain ⟨_, A3, c3, rfl⟩ := hps.one; have HQ3 := Lib.hid hps; have HL3 := Lib.hid hl2; have HO3 := Lib.hid (Ops.later HO2.out (Ops.pos HO2.out) hl2); clear hps hl2)
              | (go_at_call 9; (with_reducible refine (HP3.out _ HO3.out).mono ?_); rintro e w4 ⟨A4, n4, c4, z4', rfl, hl4⟩; have HL4 := Lib.hid hl4; clear hl4))
            go_ret
            exact ⟨rfl, HB1.out.trans (HL2.out.trans (HL3.out.trans HL4.out))⟩
        · have f1 : ((le : Int) != 0) = true := by simp [h1]
          clear h h1
          go_enter Tryd.func5, Tryd.ntmps5
          go_wp2_with (first
            | (go_at_call 8; (with_reducible refine HA.out.mono ?_); rintro e w1 ⟨rfl, hb9⟩; have HB1 := Lib.hid hb9; have HO1 := Lib.hid (Ops.later HG.out (Ops.pos HG.out) hb9); clear hb9)
            | (go_at_call 9; (with_reducible refine (HP1.out _ HO1.out).mono ?_); rintro e w2 ⟨v, rfl, hps, hl2⟩; obtain ⟨_, A2, c2, rfl⟩ := hps.one; have HQ2 := Lib.hid hps; have HL2 := Lib.hid hl2; have HO2 := Lib.hid (Ops.later HO1.out (Ops.pos HO1.out) hl2); clear hps hl2)
            | (go_at_call 9; (with_reducible refine (HP2.out _ HO2.out).mono ?_); rintro e w3 ⟨v, rfl, hps, hl2⟩; obtain ⟨_, A3, c3, rfl⟩ := hps.one; have HQ3 := Lib.hid hps; have HL3 := Lib.hid hl2; have HO3 := Lib.hid (Ops.later HO2.out (Ops.pos HO2.out) hl2); clear hps hl2)
            | (go_at_call 9; (with_reducible refine (HP3.out _ HO3.out).mono ?_); rintro e w4 ⟨A4, n4, c4, z4', rfl, hl4⟩; have HL4 := Lib.hid hl4; clear hl4))
          go_ret
          exact ⟨rfl, HB1.out.trans (HL2.out.trans (HL3.out.trans HL4.out))⟩
  have h0 : le = 0 ∧ me = 0 ∧ SA ≠ [126] := by
    refine ⟨?_, ?_, ?_⟩
    · exact Decidable.byContradiction fun h => bad (.inl h)
    · exact Decidable.byContradiction fun h => bad (.inr (.inl h))
    · exact fun h => bad (.inr (.inr h))
  clear bad
  obtain ⟨rfl, rfl, hne⟩ := h0
  rw [decide_eq_false hne] at htl
  obtain ⟨n, hpn, htwo⟩ := Wd.parse_two HPA.out HPB.out hne HHD.out
  have HP3 := Lib.hid (fun (W : World) (hO : Ops W) => parse_t hO (SA ++ 39 :: 39 :: SB) _ HCAT.out _ hpn HCL.out)
  have HTW := Lib.hid htwo
  clear hne hpn htwo
  have fin : True := trivial
  clear fin
  rcases hfirst with h0 | ⟨c, hc, hn0, hgj⟩
  · subst h0
    have HNL := Lib.hid HTW.out.lo
    have HNH := Lib.hid HTW.out.hi
    have HNM := Lib.hid HTW.out.ml
    have hb3 : l.length ≤ 910 ∧ m.length ≤ 910 ∧ l.length ≤ n.length ∧ n.length ≤ l.length + m.length + 1 ∧ m.length ≤ n.length := by have := HLL.out; have := HNL.out; have := HNH.out; have := HNM.out; omega
    have hr1 : -9223372036854775808 ≤ (l.length : Int) + (m.length : Int) ∧ (l.length : Int) + (m.length : Int) < 9223372036854775808 := by omega
    have hr2 : -9223372036854775808 ≤ (l.length : Int) + (m.length : Int) + 1 ∧ (l.length : Int) + (m.length : Int) + 1 < 9223372036854775808 := by omega
    have hc3 : ¬ n.length < l.length := by omega
    have hc4 : ¬ l.length + m.length + 1 < n.length := by omega
    have hc1 : ¬ (n.length : Int) < (l.length : Int) := by omega
    have hc2 : ¬ (l.length : Int) + (m.length : Int) + 1 < (n.length : Int) := by omega
    have hw1 : wrap64 ((l.length : Int) + (m.length : Int)) = (l.length : Int) + (m.length : Int) := w64 _ hr1
    have hw2 : wrap64 ((l.length : Int) + (m.length : Int) + 1) = (l.length : Int) + (m.length : Int) + 1 := w64 _ hr2
    clear hr1 hr2
    have HB3 := Lib.hid hb3
    clear hb3
    go_enter Tryd.func5, Tryd.ntmps5
    go_wp2_with (first
      | (go_at_call 8; (with_reducible refine HA.out.mono ?_); rintro e w1 ⟨rfl, hb9⟩; have HB1 := Lib.hid hb9; have HO1 := Lib.hid (Ops.later HG.out (Ops.pos HG.out) hb9); clear hb9)
      | (go_at_call 9; (with_reducible refine (HP1.out _ HO1.out).mono ?_); rintro e w2 ⟨v, rfl, hps, hl2⟩; obtain ⟨_, A2, c2, rfl⟩ := hps.one; have HQ2 := Lib.hid hps; have HL2 := Lib.hid hl2; have HO2 := Lib.hid (Ops.later HO1.out (Ops.pos HO1.out) hl2); clear hps hl2)
      | (go_at_call 9; (with_reducible refine (HP2.out _ HO2.out).mono ?_); rintro e w3 ⟨v, rfl, hps, hl2⟩; obtain ⟨_, A3, c3, rfl⟩ := hps.one; have HQ3 := Lib.hid hps; have HL3 := Lib.hid hl2; have HO3 := Lib.hid (Ops.later HO2.out (Ops.pos HO2.out) hl2); clear hps hl2)
      | (go_at_call 9; (with_reducible refine (HP3.out _ HO3.out).mono ?_); rintro e w4 ⟨v, rfl, hps, hl2⟩; obtain ⟨_, A4, c4, rfl⟩ := hps.one; have HQ4 := Lib.hid hps; have HL4 := Lib.hid hl2; have HO4 := Lib.hid (Ops.later HO3.out (Ops.pos HO3.out) hl2); clear hps hl2))
    go_loopw [13] (fun i wr => ∃ j : Nat, j ≤ l.length ∧ i = .int .i64 (j : Int) ∧ Later w4 wr) (fun i _ => l.length - (intOf i).toNat)
    case atStart => exact ⟨0, by omega, rfl, Later.refl _⟩
    case round =>
      obtain ⟨j, hj, rfl, hlr⟩ := hrel
      have HLR := Lib.hid hlr
      clear hlr
      clear hw1 hw2 hz3 hz4 htl
      have hj0 : (0 : Int) ≤ (j : Int) := by omega
      by_cases hjl : j < l.length
      · have hj1 : (j : Int) < (l.length : Int) := by omega
        have hj2 : (j : Int) < (n.length : Int) := by omega
        have hwj : wrap64 ((j : Int) + 1) = (j : Int) + 1 := w64 _ (by have := HB3.out; clear HB3; (try clear hwj); omega)
        have hwl : wrap64 ((l.length : Int) - 1) = (l.length : Int) - 1 := w64 _ (by have := HB3.out; clear HB3; (try clear hwj); omega)
        have hjn : j < n.length := by clear hwj hwl; omega
        have hp : l[j]? = some (l[j]'hjl) := List.getElem?_eq_getElem hjl
        have hq : n[j]? = some (n[j]'hjn) := List.getElem?_eq_getElem hjn
        obtain ⟨p, hpe⟩ : ∃ p, p = l[j]'hjl := ⟨_, rfl⟩
        obtain ⟨q, hqe⟩ : ∃ q, q = n[j]'hjn := ⟨_, rfl⟩
        rw [← hpe] at hp
        rw [← hqe] at hq
        obtain ⟨b2, eA2, _, p2⟩ := rows (Ps.later HQ2.out (HL3.out.trans (HL4.out.trans HLR.out))) hp
        obtain ⟨b4, eA4, _, p4⟩ := rows (Ps.later HQ4.out HLR.out) hq
        obtain ⟨hk, ho, ht⟩ := HTW.out.left j p q hp hq
        subst eA2 eA4
        have k2 := p2.c0
        have k4 := p4.c0
        have t2 := p2.c1
        have t4 := p4.c1
        have o2 := p2.c2
        have o4 := p4.c2
        rw [hk] at k4
        rw [ho] at o4
        have sf : ((mkS p.o).toList != (mkS p.o).toList) = false := by simp
        have st : ((mkS p.t).toList != (mkS p.t).toList) = false := by simp
        clear p2 p4 hp hq hpe hqe hk ho
        by_cases hjj : j + 1 < l.length
        · rw [ht hjj] at t4
          have hj3 : (j : Int) < (l.length : Int) - 1 := by clear hwj hwl; omega
          clear ht hjj
          go_wp2
          go_quiet (fail)
          have HX := Lib.hid (later_drewN wr nq)
          clear hj1 hj2 hwl hjn k2 k4 t2 t4 o2 o4 sf st hj3
          go_wp2
          go_roundw
          case rel => exact ⟨j + 1, hjl, by first | rfl | go_num, HLR.out.trans HX.out⟩
          case measure => first | (rw [hwj]; exact meas_up _ _ hjl) | exact meas_up _ _ hjl
        · have hj3 : ¬ (j : Int) < (l.length : Int) - 1 := by clear hwj hwl; omega
          have hd3 : decide ((j : Int) < (l.length : Int) - 1) = false := decide_eq_false hj3
          clear ht hjj
          go_wp2
          go_quiet (fail)
          have HX := Lib.hid (later_drewN wr nq)
          clear hj1 hj2 hwl hjn k2 k4 t2 t4 o2 o4 sf st hj3
          go_wp2
          go_roundw
          case rel => exact ⟨j + 1, hjl, by first | rfl | go_num, HLR.out.trans HX.out⟩
          case measure => first | (rw [hwj]; exact meas_up _ _ hjl) | exact meas_up _ _ hjl
      · have hjl2 : ¬ (j : Int) < (l.length : Int) := by omega
        have HLR2 := HLR
        clear hjl hj hj0 HLR
        go_wp2
        obtain ⟨wo, hwo⟩ : ∃ wo, wo = wr := ⟨_, rfl⟩
        rw [← hwo] at HLR2 ⊢
        clear hwo
        obtain ⟨d, hdd⟩ : ∃ d : Nat, d = n.length - m.length := ⟨_, rfl⟩
        have hnm : (n.length : Int) - (m.length : Int) = (d : Int) := by have := HB3.out; clear HB3; omega
        have HDD := Lib.hid hdd
        have HNM2 := Lib.hid hnm
        have hd91 : d ≤ 1821 := by have := HB3.out; clear HB3; omega
        have hmd : m.length + d = n.length := by have := HB3.out; clear HB3; omega
        have hm91 : m.length ≤ 910 := by have := HB3.out; clear HB3; omega
        clear hdd hc1 hc2 hc3 hc4 hnm
        go_loopw [14] (fun i wr => ∃ j : Nat, j ≤ m.length ∧ i = .int .i64 (j : Int) ∧ Later w4 wr) (fun i _ => m.length - (intOf i).toNat)
        case atStart => exact ⟨0, by omega, rfl, HLR2.out⟩
        case round =>
          obtain ⟨j2, hj2, rfl, hlr⟩ := hrel
          have HLR := Lib.hid hlr
          clear hlr
          have hj20 : (0 : Int) ≤ (j2 : Int) := by omega
          by_cases hjm : j2 < m.length
          · have hjm1 : (j2 : Int) < (m.length : Int) := by omega
            obtain ⟨q, hqd⟩ : ∃ q : Nat, q = d + j2 := ⟨_, rfl⟩
            have hqn : q < n.length := by omega
            have hq0 : (0 : Int) ≤ (q : Int) := by omega
            have hq1 : (q : Int) < (n.length : Int) := by omega
            have hqz : ¬ (q : Int) < 0 := by omega
            have hqz2 : decide ((q : Int) < 0) = false := decide_eq_false hqz
            have hwq : wrap64 ((n.length : Int) - (m.length : Int) + (j2 : Int)) = (q : Int) := by rw [show (n.length : Int) - (m.length : Int) + (j2 : Int) = (q : Int) by have := HNM2.out; omega]; exact w64 _ (by omega)
            have hwd : wrap64 ((n.length : Int) - (m.length : Int)) = (n.length : Int) - (m.length : Int) := w64 _ (by have := HNM2.out; clear hwq; omega)
            have hwj : wrap64 ((j2 : Int) + 1) = (j2 : Int) + 1 := w64 _ (by clear hwq hwd; omega)
            have hp : m[j2]? = some (m[j2]'hjm) := List.getElem?_eq_getElem hjm
            have hq : n[q]? = some (n[q]'hqn) := List.getElem?_eq_getElem hqn
            obtain ⟨p, hpe⟩ : ∃ p, p = m[j2]'hjm := ⟨_, rfl⟩
            obtain ⟨s, hse⟩ : ∃ s, s = n[q]'hqn := ⟨_, rfl⟩
            rw [← hpe] at hp
            rw [← hse] at hq
            obtain ⟨b3, eA3, _, p3⟩ := rows (Ps.later HQ3.out (HL4.out.trans HLR.out)) hp
            obtain ⟨b4, eA4, _, p4⟩ := rows (Ps.later HQ4.out HLR.out) hq
            obtain ⟨hk, ho, ht⟩ := HTW.out.right j2 p s hp (by rw [← HDD.out, ← hqd]; exact hq)
            subst eA3 eA4
            have k3 := p3.c0
            have k4 := p4.c0
            have t3 := p3.c1
            have t4 := p4.c1
            have o3 := p3.c2
            have o4 := p4.c2
            rw [hk] at k4
            rw [ho] at o4
            have sf : ((mkS p.o).toList != (mkS p.o).toList) = false := by simp
            have st : ((mkS p.t).toList != (mkS p.t).toList) = false := by simp
            have kf : ((p.k : Int) != (p.k : Int)) = false := by simp
            clear p3 p4 hp hq hpe hse hk ho hqd hqn HNM2 HDD hmd hd91
            by_cases h0 : 0 < j2
            · rw [ht h0] at t4
              have hg : (0 : Int) < (j2 : Int) := by clear hwj hwq hwd; omega
              clear ht
              go_wp2
              go_quiet (fail)
              have HX := Lib.hid (later_drewN wr nq)
              clear hza hzb hj2 hj20 hjl2 hwd hwq hg h0 hq0 hqz hqz2 hq1 k3 k4 t3 t4 o3 o4 sf st kf hjm1
              go_wp2
              go_roundw
              case rel => exact ⟨j2 + 1, hjm, by first | rfl | go_num, HLR.out.trans HX.out⟩
              case measure => first | (rw [hwj]; exact meas_up _ _ hjm) | exact meas_up _ _ hjm
            · have hg : ¬ (0 : Int) < (j2 : Int) := by clear hwj hwq hwd; omega
              have hg2 : decide (0 < j2) = false := decide_eq_false h0
              clear ht
              go_wp2
              go_quiet (fail)
              have HX := Lib.hid (later_drewN wr nq)
              clear hza hzb hj2 hj20 hjl2 hg2 hwd hwq hg h0 hq0 hqz hqz2 hq1 k3 k4 t3 t4 o3 o4 sf st kf hjm1
              go_wp2
              go_roundw
              case rel => exact ⟨j2 + 1, hjm, by first | rfl | go_num, HLR.out.trans HX.out⟩
              case measure => first | (rw [hwj]; exact meas_up _ _ hjm) | exact meas_up _ _ hjm
          · have hjm2 : ¬ (j2 : Int) < (m.length : Int) := by omega
            clear hjm
            go_wp2
            go_ret
            exact ⟨rfl, HB1.out.trans (HL2.out.trans (HL3.out.trans (HL4.out.trans HLR.out)))⟩
  · have hn1 : (0 : Int) < (nb : Int) := by omega
    have hcf : ((c.toNat : Int) == 126) = false := (wordDouble.byt c 126).trans (decide_eq_false hc)
    clear hc
    have HNL := Lib.hid HTW.out.lo
    have HNH := Lib.hid HTW.out.hi
    have HNM := Lib.hid HTW.out.ml
    have hb3 : l.length ≤ 910 ∧ m.length ≤ 910 ∧ l.length ≤ n.length ∧ n.length ≤ l.length + m.length + 1 ∧ m.length ≤ n.length := by have := HLL.out; have := HNL.out; have := HNH.out; have := HNM.out; omega
    have hr1 : -9223372036854775808 ≤ (l.length : Int) + (m.length : Int) ∧ (l.length : Int) + (m.length : Int) < 9223372036854775808 := by omega
    have hr2 : -9223372036854775808 ≤ (l.length : Int) + (m.length : Int) + 1 ∧ (l.length : Int) + (m.length : Int) + 1 < 9223372036854775808 := by omega
    have hc3 : ¬ n.length < l.length := by omega
    have hc4 : ¬ l.length + m.length + 1 < n.length := by omega
    have hc1 : ¬ (n.length : Int) < (l.length : Int) := by omega
    have hc2 : ¬ (l.length : Int) + (m.length : Int) + 1 < (n.length : Int) := by omega
    have hw1 : wrap64 ((l.length : Int) + (m.length : Int)) = (l.length : Int) + (m.length : Int) := w64 _ hr1
    have hw2 : wrap64 ((l.length : Int) + (m.length : Int) + 1) = (l.length : Int) + (m.length : Int) + 1 := w64 _ hr2
    clear hr1 hr2
    have HB3 := Lib.hid hb3
    clear hb3
    go_enter Tryd.func5, Tryd.ntmps5
    go_wp2_with (first
      | (go_at_call 8; (with_reducible refine HA.out.mono ?_); rintro e w1 ⟨rfl, hb9⟩; have HB1 := Lib.hid hb9; have HO1 := Lib.hid (Ops.later HG.out (Ops.pos HG.out) hb9); clear hb9)
      | (go_at_call 9; (with_reducible refine (HP1.out _ HO1.out).mono ?_); rintro e w2 ⟨v, rfl, hps, hl2⟩; obtain ⟨_, A2, c2, rfl⟩ := hps.one; have HQ2 := Lib.hid hps; have HL2 := Lib.hid hl2; have HO2 := Lib.hid (Ops.later HO1.out (Ops.pos HO1.out) hl2); clear hps hl2)
      | (go_at_call 9; (with_reducible refine (HP2.out _ HO2.out).mono ?_); rintro e w3 ⟨v, rfl, hps, hl2⟩; obtain ⟨_, A3, c3, rfl⟩ := hps.one; have HQ3 := Lib.hid hps; have HL3 := Lib.hid hl2; have HO3 := Lib.hid (Ops.later HO2.out (Ops.pos HO2.out) hl2); clear hps hl2)
      | (go_at_call 9; (with_reducible refine (HP3.out _ HO3.out).mono ?_); rintro e w4 ⟨v, rfl, hps, hl2⟩; obtain ⟨_, A4, c4, rfl⟩ := hps.one; have HQ4 := Lib.hid hps; have HL4 := Lib.hid hl2; have HO4 := Lib.hid (Ops.later HO3.out (Ops.pos HO3.out) hl2); clear hps hl2))
    go_loopw [13] (fun i wr => ∃ j : Nat, j ≤ l.length ∧ i = .int .i64 (j : Int) ∧ Later w4 wr) (fun i _ => l.length - (intOf i).toNat)
    case atStart => exact ⟨0, by omega, rfl, Later.refl _⟩
    case round =>
      obtain ⟨j, hj, rfl, hlr⟩ := hrel
      have HLR := Lib.hid hlr
      clear hlr
      clear hw1 hw2 hz3 hz4 htl hn1 hcf hn0 hgj hb1 hb2
      have hj0 : (0 : Int) ≤ (j : Int) := by omega
      by_cases hjl : j < l.length
      · have hj1 : (j : Int) < (l.length : Int) := by omega
        have hj2 : (j : Int) < (n.length : Int) := by omega
        have hwj : wrap64 ((j : Int) + 1) = (j : Int) + 1 := w64 _ (by have := HB3.out; clear HB3; (try clear hwj); omega)
        have hwl : wrap64 ((l.length : Int) - 1) = (l.length : Int) - 1 := w64 _ (by have := HB3.out; clear HB3; (try clear hwj); omega)
        have hjn : j < n.length := by clear hwj hwl; omega
        have hp : l[j]? = some (l[j]'hjl) := List.getElem?_eq_getElem hjl
        have hq : n[j]? = some (n[j]'hjn) := List.getElem?_eq_getElem hjn
        obtain ⟨p, hpe⟩ : ∃ p, p = l[j]'hjl := ⟨_, rfl⟩
        obtain ⟨q, hqe⟩ : ∃ q, q = n[j]'hjn := ⟨_, rfl⟩
        rw [← hpe] at hp
        rw [← hqe] at hq
        obtain ⟨b2, eA2, _, p2⟩ := rows (Ps.later HQ2.out (HL3.out.trans (HL4.out.trans HLR.out))) hp
        obtain ⟨b4, eA4, _, p4⟩ := rows (Ps.later HQ4.out HLR.out) hq
        obtain ⟨hk, ho, ht⟩ := HTW.out.left j p q hp hq
        subst eA2 eA4
        have k2 := p2.c0
        have k4 := p4.c0
        have t2 := p2.c1
        have t4 := p4.c1
        have o2 := p2.c2
        have o4 := p4.c2
        rw [hk] at k4
        rw [ho] at o4
        have sf : ((mkS p.o).toList != (mkS p.o).toList) = false := by simp
        have st : ((mkS p.t).toList != (mkS p.t).toList) = false := by simp
        clear p2 p4 hp hq hpe hqe hk ho
        by_cases hjj : j + 1 < l.length
        · rw [ht hjj] at t4
          have hj3 : (j : Int) < (l.length : Int) - 1 := by clear hwj hwl; omega
          clear ht hjj
          go_wp2
          go_quiet (fail)
          have HX := Lib.hid (later_drewN wr nq)
          clear hj1 hj2 hwl hjn k2 k4 t2 t4 o2 o4 sf st hj3
          go_wp2
          go_roundw
          case rel => exact ⟨j + 1, hjl, by first | rfl | go_num, HLR.out.trans HX.out⟩
          case measure => first | (rw [hwj]; exact meas_up _ _ hjl) | exact meas_up _ _ hjl
        · have hj3 : ¬ (j : Int) < (l.length : Int) - 1 := by clear hwj hwl; omega
          have hd3 : decide ((j : Int) < (l.length : Int) - 1) = false := decide_eq_false hj3
          clear ht hjj
          go_wp2
          go_quiet (fail)
          have HX := Lib.hid (later_drewN wr nq)
          clear hj1 hj2 hwl hjn k2 k4 t2 t4 o2 o4 sf st hj3
          go_wp2
          go_roundw
          case rel => exact ⟨j + 1, hjl, by first | rfl | go_num, HLR.out.trans HX.out⟩
          case measure => first | (rw [hwj]; exact meas_up _ _ hjl) | exact meas_up _ _ hjl
      · have hjl2 : ¬ (j : Int) < (l.length : Int) := by omega
        have HLR2 := HLR
        clear hjl hj hj0 HLR
        go_wp2
        obtain ⟨wo, hwo⟩ : ∃ wo, wo = wr := ⟨_, rfl⟩
        rw [← hwo] at HLR2 ⊢
        clear hwo
        obtain ⟨d, hdd⟩ : ∃ d : Nat, d = n.length - m.length := ⟨_, rfl⟩
        have hnm : (n.length : Int) - (m.length : Int) = (d : Int) := by have := HB3.out; clear HB3; omega
        have HDD := Lib.hid hdd
        have HNM2 := Lib.hid hnm
        have hd91 : d ≤ 1821 := by have := HB3.out; clear HB3; omega
        have hmd : m.length + d = n.length := by have := HB3.out; clear HB3; omega
        have hm91 : m.length ≤ 910 := by have := HB3.out; clear HB3; omega
        clear hdd hc1 hc2 hc3 hc4 hnm
        go_loopw [14] (fun i wr => ∃ j : Nat, j ≤ m.length ∧ i = .int .i64 (j : Int) ∧ Later w4 wr) (fun i _ => m.length - (intOf i).toNat)
        case atStart => exact ⟨0, by omega, rfl, HLR2.out⟩
        case round =>
          obtain ⟨j2, hj2, rfl, hlr⟩ := hrel
          have HLR := Lib.hid hlr
          clear hlr
          have hj20 : (0 : Int) ≤ (j2 : Int) := by omega
          by_cases hjm : j2 < m.length
          · have hjm1 : (j2 : Int) < (m.length : Int) := by omega
            obtain ⟨q, hqd⟩ : ∃ q : Nat, q = d + j2 := ⟨_, rfl⟩
            have hqn : q < n.length := by omega
            have hq0 : (0 : Int) ≤ (q : Int) := by omega
            have hq1 : (q : Int) < (n.length : Int) := by omega
            have hqz : ¬ (q : Int) < 0 := by omega
            have hqz2 : decide ((q : Int) < 0) = false := decide_eq_false hqz
            have hwq : wrap64 ((n.length : Int) - (m.length : Int) + (j2 : Int)) = (q : Int) := by rw [show (n.length : Int) - (m.length : Int) + (j2 : Int) = (q : Int) by have := HNM2.out; omega]; exact w64 _ (by omega)
            have hwd : wrap64 ((n.length : Int) - (m.length : Int)) = (n.length : Int) - (m.length : Int) := w64 _ (by have := HNM2.out; clear hwq; omega)
            have hwj : wrap64 ((j2 : Int) + 1) = (j2 : Int) + 1 := w64 _ (by clear hwq hwd; omega)
            have hp : m[j2]? = some (m[j2]'hjm) := List.getElem?_eq_getElem hjm
            have hq : n[q]? = some (n[q]'hqn) := List.getElem?_eq_getElem hqn
            obtain ⟨p, hpe⟩ : ∃ p, p = m[j2]'hjm := ⟨_, rfl⟩
            obtain ⟨s, hse⟩ : ∃ s, s = n[q]'hqn := ⟨_, rfl⟩
            rw [← hpe] at hp
            rw [← hse] at hq
            obtain ⟨b3, eA3, _, p3⟩ := rows (Ps.later HQ3.out (HL4.out.trans HLR.out)) hp
            obtain ⟨b4, eA4, _, p4⟩ := rows (Ps.later HQ4.out HLR.out) hq
            obtain ⟨hk, ho, ht⟩ := HTW.out.right j2 p s hp (by rw [← HDD.out, ← hqd]; exact hq)
            subst eA3 eA4
            have k3 := p3.c0
            have k4 := p4.c0
            have t3 := p3.c1
            have t4 := p4.c1
            have o3 := p3.c2
            have o4 := p4.c2
            rw [hk] at k4
            rw [ho] at o4
            have sf : ((mkS p.o).toList != (mkS p.o).toList) = false := by simp
            have st : ((mkS p.t).toList != (mkS p.t).toList) = false := by simp
            have kf : ((p.k : Int) != (p.k : Int)) = false := by simp
            clear p3 p4 hp hq hpe hse hk ho hqd hqn HNM2 HDD hmd hd91
            by_cases h0 : 0 < j2
            · rw [ht h0] at t4
              have hg : (0 : Int) < (j2 : Int) := by clear hwj hwq hwd; omega
              clear ht
              go_wp2
              go_quiet (fail)
              have HX := Lib.hid (later_drewN wr nq)
              clear hza hzb hj2 hj20 hjl2 hwd hwq hg h0 hq0 hqz hqz2 hq1 k3 k4 t3 t4 o3 o4 sf st kf hjm1
              go_wp2
              go_roundw
              case rel => exact ⟨j2 + 1, hjm, by first | rfl | go_num, HLR.out.trans HX.out⟩
              case measure => first | (rw [hwj]; exact meas_up _ _ hjm) | exact meas_up _ _ hjm
            · have hg : ¬ (0 : Int) < (j2 : Int) := by clear hwj hwq hwd; omega
              have hg2 : decide (0 < j2) = false := decide_eq_false h0
              clear ht
              go_wp2
              go_quiet (fail)
              have HX := Lib.hid (later_drewN wr nq)
              clear hza hzb hj2 hj20 hjl2 hg2 hwd hwq hg h0 hq0 hqz hqz2 hq1 k3 k4 t3 t4 o3 o4 sf st kf hjm1
              go_wp2
              go_roundw
              case rel => exact ⟨j2 + 1, hjm, by first | rfl | go_num, HLR.out.trans HX.out⟩
              case measure => first | (rw [hwj]; exact meas_up _ _ hjm) | exact meas_up _ _ hjm
          · have hjm2 : ¬ (j2 : Int) < (m.length : Int) := by omega
            clear hjm
            go_wp2
            go_ret
            exact ⟨rfl, HB1.out.trans (HL2.out.trans (HL3.out.trans (HL4.out.trans HLR.out)))⟩
end wordTwo
end Go.Proofs.YtlenocpaalahbaaDoor
