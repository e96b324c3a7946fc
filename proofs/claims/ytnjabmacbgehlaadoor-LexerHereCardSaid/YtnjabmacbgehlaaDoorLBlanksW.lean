/- The walk of LexerBlanks: whatever the script is, the call returns true. -/
import Derived.Test.YtnjabmacbgehlaaDoorLLinesW
import Derived.Test.YtnjabmacbgehlaaDoorLxS
namespace Go.Proofs.YtnjabmacbgehlaaDoor
open Go.RowKit Go.Maps
open Lx (nl Tok)
namespace lexerBlanks
theorem render_len (t : Tok) : (Lx.render t).length ≤ t.text.length + 10 := by
  unfold Lx.render
  split
  · simp
  · split
    · simp
    · simp
theorem str_none (l : List UInt8) (h : l ≠ []) : ¬ (mkS l).toList = ([] : List UInt8) := by rw [toList_mkS]; exact h
set_option maxHeartbeats 1600000 in
set_option maxRecDepth 100000 in
theorem walkX (w : World) (hg : Sgn w) (s : List UInt8) (h : (1000 : Int) < ((mkS s).size : Int)) :
    Calls Tryd.prog 5 #[.string (mkS s)] w fun e w' => e = .returned (.bool true) ∧ Below w.heap.size w w' := by
  have HA := Lib.hid (awake_v w hg)
  clear hg
  go_enter Tryd.func5, Tryd.ntmps5
  go_wp2_with (go_at_call 9; (with_reducible refine HA.out.mono ?_); rintro e w1 ⟨rfl, hb1⟩; have HB1 := Lib.hid hb1; clear hb1)
  go_ret
  exact ⟨rfl, HB1.out⟩
set_option maxHeartbeats 1600000 in
set_option maxRecDepth 100000 in
theorem walkE (w : World) (hg : Sgn w) (s : List UInt8) (h : ¬ (1000 : Int) < ((mkS s).size : Int)) (n k : Nat) (hall : Lx.all s = .error (n, k)) :
    Calls Tryd.prog 5 #[.string (mkS s)] w fun e w' => e = .returned (.bool true) ∧ Below w.heap.size w w' := by
  have HA := Lib.hid (awake_v w hg)
  have hz := mkS_size s
  obtain ⟨hn, _⟩ := (Lx.all_lines s).1 n k hall
  have HAL := Lib.hid (show ∀ W, Later w W → Calls Tryd.prog 16 #[.string (mkS s)] W fun e W' => e = .returned (.tuple #[.slice none 0 0, .int .i64 (n : Int), .int .i64 ((1 + nl s - k : Nat) : Int)]) ∧ Later W W' from fun W hW => by
    have := all_v s (by omega) W (hg.later hW)
    rw [hall] at this
    exact this)
  have e1 : ((n : Int) != 0) = true := by simp; omega
  clear hg hall hz
  go_enter Tryd.func5, Tryd.ntmps5
  go_wp2_with (first
    | (go_at_call 9; (with_reducible refine HA.out.mono ?_); rintro e w1 ⟨rfl, hb1⟩; have HB1 := Lib.hid hb1; clear hb1)
    | (go_at_call 16; (with_reducible refine (HAL.out _ HB1.out).mono ?_); rintro e w2 ⟨rfl, hl2⟩; have HL2 := Lib.hid (HB1.out.trans hl2); clear hl2))
  go_ret
  exact ⟨rfl, HL2.out⟩
set_option maxHeartbeats 3200000 in
set_option maxRecDepth 100000 in
theorem walkO (w : World) (hg : Sgn w) (s : List UInt8) (h : ¬ (1000 : Int) < ((mkS s).size : Int)) (o : List Tok) (hall : Lx.all s = .ok o) :
    Calls Tryd.prog 5 #[.string (mkS s)] w fun e w' => e = .returned (.bool true) ∧ Below w.heap.size w w' := by
  have HA := Lib.hid (awake_v w hg)
  have hz := mkS_size s
  obtain ⟨hsm, htx⟩ := Lx.all_small hall
  obtain ⟨n, hn⟩ : ∃ n, n = o.length := ⟨_, rfl⟩
  have hn1 : n ≤ 1001 := by omega
  have hnp : 0 < n := by have := (lexerLines.lined s o hall).pos; omega
  have HAL := Lib.hid (show ∀ W, Later w W → Calls Tryd.prog 16 #[.string (mkS s)] W fun e W' => (∃ vt, e = .returned (.tuple #[vt, .int .i64 0, .int .i64 0]) ∧ W'.ownsRow W.heap.size 33 4 vt n (cellsT (nl s) o)) ∧ Later W W' from fun W hW => by
    have := all_v s (by omega) W (hg.later hW)
    rw [hall] at this
    rw [hn]
    exact this)
  have HTX := Lib.hid (show ∀ t ∈ o, t.text.length ≤ 1002 from fun t ht => by have := htx t ht; omega)
  have HNO := Lib.hid hn
  have HALL := Lib.hid hall
  have HG := Lib.hid hg
  clear hg hall hn hsm htx hz
  go_enter Tryd.func5, Tryd.ntmps5
  go_wp2_with (first
    | (go_at_call 9; (with_reducible refine HA.out.mono ?_); rintro e w1 ⟨rfl, hb1⟩; have HB1 := Lib.hid hb1; clear hb1)
    | (go_at_call 16; (with_reducible refine (HAL.out _ HB1.out).mono ?_); rintro e w2 ⟨⟨vt, rfl, ho⟩, hl2⟩; obtain ⟨ad, c2, hv2, hc2⟩ := two_at ho HNO.out hnp; subst hv2; have HO2 := Lib.hid ho; have HL2 := Lib.hid (HB1.out.trans hl2); clear ho hl2))
  have hat := toks_at (ts := o) (by rw [← HNO.out]; exact HO2.out)
  have HAT := Lib.hid hat
  clear hat
  go_loopw [7, 8] (fun t i wr => ∃ j : Nat, j ≤ n ∧ i = .int .i64 (j : Int) ∧ t = .string (mkS ((o.take j).flatMap Lx.render)) ∧ wr = w2 ∧ ((o.take j).flatMap Lx.render).length ≤ j * 1012 ∧ ∀ x ∈ o.take j, x.kind ≠ 5 ∧ x.text ≠ [60, 60]) (fun t i _ => n - (intOf i).toNat)
  case atStart => exact ⟨0, by omega, rfl, rfl, rfl, by simp, by simp⟩
  case round =>
    obtain ⟨j, hj, rfl, rfl, hw, hlen, hok⟩ := hrel
    subst hw
    have HOK := Lib.hid hok
    have hj0 : (0 : Int) ≤ (j : Int) := by omega
    clear hok
    by_cases hjn : j < n
    · have hjl : j < o.length := by rw [← HNO.out]; exact hjn
      have hti := HAT.out j hjl
      have hj1 : (j : Int) < (n : Int) := by omega
      obtain ⟨t, ht⟩ : ∃ t, t = o[j] := ⟨_, rfl⟩
      rw [← ht] at hti
      have HTK := Lib.hid (show o.take (j + 1) = o.take j ++ [t] by rw [List.take_succ_eq_append_getElem hjl, ht])
      have htl := HTX.out t (by rw [ht]; exact List.getElem_mem _)
      have t0 := hti.c0
      have t1 := hti.c1
      have t2 := hti.c2
      obtain ⟨b0, hb0⟩ : ∃ b0, b0 = (o.take j).flatMap Lx.render := ⟨_, rfl⟩
      rw [← hb0] at hlen ⊢
      have HNX := Lib.hid (show (o.take (j + 1)).flatMap Lx.render = b0 ++ Lx.render t by rw [HTK.out, List.flatMap_append, ← hb0]; simp)
      have HLN := Lib.hid (show (b0 ++ Lx.render t).length ≤ (j + 1) * 1012 by have := render_len t; rw [List.length_append]; omega)
      have HKK := Lib.hid (show t.kind ≠ 5 → t.text ≠ [60, 60] → ∀ x ∈ o.take (j + 1), x.kind ≠ 5 ∧ x.text ≠ [60, 60] from fun h1 h2 x hx => by
        rw [HTK.out, List.mem_append] at hx
        rcases hx with hx | hx
        · exact HOK.out x hx
        · rw [List.mem_singleton] at hx; subst hx; exact ⟨h1, h2⟩)
      obtain ⟨kd, tx, bo, hkd, htx, hbo⟩ : ∃ kd tx bo, kd = t.kind ∧ tx = t.text ∧ bo = t.body := ⟨_, _, _, rfl, rfl, rfl⟩
      rw [← hkd] at t0 HKK
      rw [← htx] at t1 htl HKK
      rw [← hbo] at t2
      have HRE := Lib.hid (show Lx.render t = if kd = 1 ∨ kd = 2 then 32 :: (tx ++ [9]) else if kd = 3 then [32, 35, 32, 39, 32, 110, 111, 116, 101, 10] else [] by rw [hkd, htx]; rfl)
      have zb : (mkS b0).size ≤ 2000000 := by
        rw [mkS_size]
        have : j * 1012 ≤ 1001 * 1012 := Nat.mul_le_mul_right _ (by omega)
        omega
      clear hti ht hjl hb0 hkd htx hbo hlen
      by_cases hb : bo = []
      · subst hb
        have t2' : wr.cell? ⟨(ad.add (j * 4)).block, (ad.add (j * 4)).off + 2, none⟩ = some (.string ⟨#[]⟩) := t2
        clear t2
        by_cases h6 : tx = [60, 60]
        · have e6 : ((mkS tx).toList == ([60, 60] : List UInt8)) = true := by rw [toList_mkS, h6]; rfl
          clear h6
          go_wp2
          go_ret
          exact ⟨rfl, HL2.out⟩
        · have e6 : ((mkS tx).toList == ([60, 60] : List UInt8)) = false := by rw [toList_mkS]; exact beq_eq_false_iff_ne.2 h6
          obtain ⟨q1, hq1⟩ : ∃ q1, q1 = mkS (32 :: tx) := ⟨_, rfl⟩
          obtain ⟨q2, hq2⟩ : ∃ q2, q2 = mkS (32 :: (tx ++ [9])) := ⟨_, rfl⟩
          have a1 : (⟨#[32]⟩ : ByteArray) ++ mkS tx = q1 := by rw [hq1]; exact mkS_add [32] tx
          have a2 : q1 ++ (⟨#[9]⟩ : ByteArray) = q2 := by rw [hq1, hq2]; exact mkS_add (32 :: tx) [9]
          have a3 : mkS b0 ++ q2 = mkS (b0 ++ 32 :: (tx ++ [9])) := by rw [hq2, mkS_add]
          have a4 : mkS b0 ++ (⟨#[32, 35, 32, 39, 32, 110, 111, 116, 101, 10]⟩ : ByteArray) = mkS (b0 ++ [32, 35, 32, 39, 32, 110, 111, 116, 101, 10]) := mkS_add b0 [32, 35, 32, 39, 32, 110, 111, 116, 101, 10]
          have z0 : (mkS tx).size ≤ 1100 := by rw [mkS_size]; omega
          have z1 : q1.size ≤ 1100 := by rw [hq1, mkS_size, List.length_cons]; omega
          have z2 : q2.size ≤ 1100 := by rw [hq2, mkS_size, List.length_cons, List.length_append]; simp; omega
          have HH6 := Lib.hid h6
          clear h6 hq1 hq2 htl
          by_cases hk1 : kd = 1
          · have k1 : ((kd : Int) == 1) = true := by rw [hk1]; rfl
            have HR := Lib.hid (show Lx.render t = 32 :: (tx ++ [9]) by rw [HRE.out, if_pos (.inl hk1)])
            have HK5 := Lib.hid (show kd ≠ 5 by omega)
            clear hk1
            go_wp2
            go_roundw
            case rel => exact ⟨j + 1, by omega, by go_num, by rw [HNX.out, HR.out], by first | rfl | trivial, by rw [HNX.out]; exact HLN.out, HKK.out HK5.out HH6.out⟩
            case measure => simp [intOf]; omega
          · have k1 : ((kd : Int) == 1) = false := by simp; omega
            by_cases hk2 : kd = 2
            · have k2 : ((kd : Int) == 2) = true := by rw [hk2]; rfl
              have HR := Lib.hid (show Lx.render t = 32 :: (tx ++ [9]) by rw [HRE.out, if_pos (.inr hk2)])
              have HK5 := Lib.hid (show kd ≠ 5 by omega)
              clear hk2
              go_wp2
              go_roundw
              case rel => exact ⟨j + 1, by omega, by go_num, by rw [HNX.out, HR.out], by first | rfl | trivial, by rw [HNX.out]; exact HLN.out, HKK.out HK5.out HH6.out⟩
              case measure => simp [intOf]; omega
            · have k2 : ((kd : Int) == 2) = false := by simp; omega
              by_cases hk5 : kd = 5
              · have k5 : ((kd : Int) == 5) = true := by rw [hk5]; rfl
                clear hk5
                go_wp2
                go_ret
                exact ⟨rfl, HL2.out⟩
              · have k5 : ((kd : Int) == 5) = false := by simp; omega
                by_cases hk3 : kd = 3
                · have k3 : ((kd : Int) == 3) = true := by rw [hk3]; rfl
                  have HR := Lib.hid (show Lx.render t = [32, 35, 32, 39, 32, 110, 111, 116, 101, 10] by rw [HRE.out, if_neg (by omega), if_pos hk3])
                  have HK5 := Lib.hid hk5
                  clear hk3 hk5
                  go_wp2
                  go_roundw
                  case rel => exact ⟨j + 1, by omega, by go_num, by rw [HNX.out, HR.out], by first | rfl | trivial, by rw [HNX.out]; exact HLN.out, HKK.out HK5.out HH6.out⟩
                  case measure => simp [intOf]; omega
                · have k3 : ((kd : Int) == 3) = false := by simp; omega
                  have HR := Lib.hid (show Lx.render t = [] by rw [HRE.out, if_neg (by omega), if_neg hk3])
                  have HK5 := Lib.hid hk5
                  clear hk3 hk5
                  go_wp2
                  go_roundw
                  case rel => exact ⟨j + 1, by omega, by go_num, by rw [HNX.out, HR.out, List.append_nil], by first | rfl | trivial, by rw [HNX.out]; exact HLN.out, HKK.out HK5.out HH6.out⟩
                  case measure => simp [intOf]; omega
      · have eb := str_none bo hb
        clear hb
        go_wp2
        go_ret
        exact ⟨rfl, HL2.out⟩
    · have htk : o.take j = o := by rw [List.take_of_length_le]; rw [← HNO.out]; omega
      have hje : ¬ (j : Int) < (n : Int) := by omega
      have hok := HOK.out
      rw [htk] at hok hlen ⊢
      obtain ⟨p, hp⟩ : ∃ p, p = o.flatMap Lx.render := ⟨_, rfl⟩
      rw [← hp] at hlen ⊢
      have zp := mkS_size p
      by_cases h4 : (4096 : Int) < ((mkS p).size : Int)
      · clear hok htk hlen hp zp
        go_wp2
        go_ret
        exact ⟨rfl, HL2.out⟩
      · obtain ⟨m, hm, hmk⟩ := Lx.all_blanks HALL.out hok
        have hml : m.length = n := by have := congrArg List.length hmk; rw [List.length_map, List.length_map] at this; rw [this, HNO.out]
        have hal := all_v p (by omega) wr (HG.out.later HL2.out)
        rw [hp, hm, ← hp] at hal
        have HAL2 := Lib.hid (show Calls Tryd.prog 16 #[.string (mkS p)] wr fun e W' => (∃ vt, e = .returned (.tuple #[vt, .int .i64 0, .int .i64 0]) ∧ W'.ownsRow wr.heap.size 33 4 vt n (cellsT (nl p) m)) ∧ Later wr W' from by rw [← hml]; exact hal)
        have HML := Lib.hid hml
        have HMK := Lib.hid hmk
        clear hok htk hlen hp zp hm hmk hal hml
        go_wp2_with (first
          | (go_at_call 16; (with_reducible refine HAL2.out.mono ?_); rintro e w3 ⟨⟨vt, rfl, ho⟩, hl3⟩; obtain ⟨ad2, c3, hv3, hc3⟩ := two_at ho HML.out.symm hnp; subst hv3; have HO3 := Lib.hid ho; have HO23 := Lib.hid (own_below HO2.out hl3); have HL3 := Lib.hid (HL2.out.trans hl3); clear ho hl3))
        go_loopw [12] (fun i wx => ∃ i' : Nat, i' ≤ n ∧ i = .int .i64 (i' : Int) ∧ Later w3 wx) (fun i _ => n - (intOf i).toNat)
        case atStart => exact ⟨0, by omega, rfl, Later.refl _⟩
        case round =>
          obtain ⟨i, hi, rfl, hlx⟩ := hrel
          have HLX := Lib.hid hlx
          have hi0 : (0 : Int) ≤ (i : Int) := by omega
          by_cases hin : i < n
          · have hio : i < o.length := by rw [← HNO.out]; exact hin
            have him : i < m.length := by rw [HML.out]; exact hin
            have ha := toks_at (ts := o) (by rw [← HNO.out]; exact own_below HO23.out hlx) i hio
            have hb := toks_at (ts := m) (by rw [HML.out]; exact own_below HO3.out hlx) i him
            have hkk : (m[i].kind, m[i].text) = (o[i].kind, o[i].text) := by
              have h1 : (m.map fun t : Tok => (t.kind, t.text))[i]? = (o.map fun t : Tok => (t.kind, t.text))[i]? := by rw [HMK.out]
              rw [List.getElem?_map, List.getElem?_map, List.getElem?_eq_getElem him, List.getElem?_eq_getElem hio] at h1
              simpa using h1
            have u0 := ha.c0
            have u1 := ha.c1
            have v0 := hb.c0
            have v1 := hb.c1
            rw [(Prod.mk.inj hkk).1] at v0
            rw [(Prod.mk.inj hkk).2] at v1
            obtain ⟨kd, tx, hkd, htx⟩ : ∃ kd tx, kd = o[i].kind ∧ tx = o[i].text := ⟨_, _, rfl, rfl⟩
            rw [← hkd] at u0 v0
            rw [← htx] at u1 v1
            have hi1 : (i : Int) < (n : Int) := by omega
            have e1 := str_selfn tx
            have e2 : ((kd : Int) != (kd : Int)) = false := by simp
            clear ha hb hkk hkd htx hio him hlx
            go_wp2
            go_quiet (fail)
            go_wp2
            go_roundw
            case rel => exact ⟨i + 1, by omega, by go_num, HLX.out.trans (Below.drewN _ _ _)⟩
            case measure => simp [intOf]; omega
          · have hie : ¬ (i : Int) < (n : Int) := by omega
            clear hlx
            go_wp2
            go_ret
            exact ⟨rfl, Later.trans HL3.out HLX.out⟩
theorem walk (w : World) (hg : Sgn w) (t : ByteArray) (ht : t.size ≤ maxLen) :
    Calls Tryd.prog 5 #[.string t] w fun e w' => e = .returned (.bool true) ∧ Below w.heap.size w w' := by
  obtain ⟨s, rfl⟩ : ∃ s, t = mkS s := ⟨_, (mkS_of t).symm⟩
  by_cases h : (1000 : Int) < ((mkS s).size : Int)
  · exact walkX w hg s h
  · cases ha : Lx.all s with
    | error nk => exact walkE w hg s h nk.1 nk.2 (by rw [ha])
    | ok o => exact walkO w hg s h o ha
end lexerBlanks
end Go.Proofs.YtnjabmacbgehlaaDoor
