/- The walk of SyntaxLeft, all of it. -/
import Derived.Test.YtipojbknkfkgoaaDoorSLeftW
namespace Go.Proofs.YtipojbknkfkgoaaDoor
open Go.RowKit Go.Maps
open Lx (nl Tok)
open Pz
namespace syntaxLeft
theorem lt_cell {w : World} {g o : Nat} {v : Value} (h : w.cell? ⟨g, o, none⟩ = some v) : g < w.heap.size := World.block_lt_of_cell? w _ h
set_option maxHeartbeats 1600000 in
set_option maxRecDepth 100000 in
theorem walkX (w : World) (hg : Sgn w) (A1 : Option Addr) (n1 c1 : Nat) (h : (30 : Int) < (n1 : Int)) :
    Calls Tryd.prog 5 #[.slice A1 n1 c1] w fun e w' => e = .returned (.bool true) ∧ Below w.heap.size w w' := by
  have HA := Lib.hid (awake_v w hg)
  clear hg
  go_enter Tryd.func5, Tryd.ntmps5
  go_wp2_with (go_at_call 7; (with_reducible refine HA.out.mono ?_); rintro e w1 ⟨rfl, hb1⟩; have HB1 := Lib.hid hb1; clear hb1)
  go_ret
  exact ⟨rfl, HB1.out⟩
set_option maxHeartbeats 3200000 in
set_option maxRecDepth 100000 in
theorem walkM (w : World) (hg : Sgn w) (A1 : Option Addr) (n1 c1 : Nat) (l : List Bool) (h : Args w A1 n1 c1 l) (h30 : ¬ (30 : Int) < (n1 : Int)) :
    Calls Tryd.prog 5 #[.slice A1 n1 c1] w fun e w' => e = .returned (.bool true) ∧ Below w.heap.size w w' := by
  have HA := Lib.hid (awake_v w hg)
  have HR := Lib.hid h.1
  have hlen : l.length = n1 := by have := h.1.1; rw [List.length_map] at this; exact this
  have HN := Lib.hid hlen
  have HG := Lib.hid hg
  obtain ⟨n2, hn2⟩ : ∃ n2, n2 = 2 * n1 := ⟨_, rfl⟩
  obtain ⟨n3, hn3⟩ : ∃ n3, n3 = 2 * n1 + 1 := ⟨_, rfl⟩
  obtain ⟨n4, hn4⟩ : ∃ n4, n4 = 2 * n1 + 2 := ⟨_, rfl⟩
  have HP := Lib.hid (show ∀ W, Later w W → Calls Tryd.prog 8 #[.string (mkS (script l))] W fun e W' => ∃ g c gk ck ga ca, e = .returned (.tuple #[.agg #[.slice (some ⟨g, 0, none⟩) n4 c], .int .i64 0, .int .i64 0]) ∧ Later W W' ∧ n4 ≤ c ∧
    W'.cell? ⟨g, n3 * 8 + 6, none⟩ = some (.slice (some ⟨gk, 0, none⟩) 1 ck) ∧ W'.cell? ⟨gk, 0, none⟩ = some (.int .i64 (n2 : Int)) ∧
    W'.cell? ⟨g, 3, none⟩ = some (.slice (some ⟨ga, 0, none⟩) 1 ca) ∧ W'.cell? ⟨ga, 0, none⟩ = some (.string ⟨#[97, 48]⟩) ∧
    ∀ m b, l[m]? = some b → ∃ gk ck gw cw Aw Ar cww crr t ln, BinAt W' g m b gk ck gw cw Aw Ar cww crr t ln from fun W hW => by rw [hn2, hn3, hn4]; exact parse_left hlen (by omega) W (Sgn.later' hg hW))
  have HV := Lib.hid (show wrap64 (2 * (n1 : Int)) = (n2 : Int) ∧ IntKind.i64.wrap (2 * (n1 : Int)) = (n2 : Int) ∧ wrap64 ((n2 : Int) + 2) = (n4 : Int) ∧ IntKind.i64.wrap ((n2 : Int) + 2) = (n4 : Int) ∧ wrap64 ((n1 : Int) - 1) = (n1 : Int) - 1 ∧ IntKind.i64.wrap ((n1 : Int) - 1) = (n1 : Int) - 1 by rw [hn2, hn4]; exact (wraps (a := n1) (by omega)).2.2)
  have HN2 := Lib.hid hn2
  have HN4 := Lib.hid (show n4 = n3 + 1 by omega)
  have HN3 := Lib.hid (show n4 = 2 * n1 + 2 by omega)
  have hn31 : (n3 : Int) < (n4 : Int) := by omega
  have hn30 : (0 : Int) ≤ (n3 : Int) := by omega
  have HN30 := Lib.hid (show n3 ≤ 61 by omega)
  have HN1 := Lib.hid (show n1 ≤ 30 by omega)
  clear h hg hlen hn2 hn3 hn4
  go_enter Tryd.func5, Tryd.ntmps5
  go_wp2_with (go_at_call 7; (with_reducible refine HA.out.mono ?_); rintro e w1 ⟨rfl, hb1⟩; have HB1 := Lib.hid hb1; clear hb1)
  have HR1 := Lib.hid ((HR.out.below HB1.out).more HB1.out.size)
  go_loopw [4, 5] (fun s i wr => ∃ j : Nat, j ≤ n1 ∧ i = .int .i64 (j : Int) ∧ s = .string (mkS (script (l.take j))) ∧ wr = w1) (fun s i _ => n1 - (intOf i).toNat)
  case atStart => exact ⟨0, by omega, rfl, rfl, by first | rfl | trivial⟩
  case round =>
    obtain ⟨j, hj, rfl, rfl, hw⟩ := hrel
    subst hw
    have hj0 : (0 : Int) ≤ (j : Int) := by omega
    by_cases hjn : j < n1
    · obtain ⟨ad, rfl, hjl, hc⟩ := bool_at HR1.out hjn
      have hj1 : (j : Int) < (n1 : Int) := by omega
      obtain ⟨b, hb⟩ : ∃ b, b = l[j] := ⟨_, rfl⟩
      rw [← hb] at hc
      have HTK := Lib.hid (show l.take (j + 1) = l.take j ++ [b] by rw [List.take_succ_eq_append_getElem hjl, hb])
      clear hb hjl
      obtain ⟨p, hp⟩ : ∃ p, p = mkS (script (l.take j)) := ⟨_, rfl⟩
      have z1 : p.size ≤ 400 := by rw [hp, mkS_size]; unfold script; rw [List.length_append]; have := txt_len (l.take j); have h2 := HN1.out; rw [List.length_take] at this; simp only [List.length_cons, List.length_nil]; omega
      cases b with
      | true =>
        have a1 : p ++ (⟨#[32, 38, 38, 32, 98]⟩ : ByteArray) = mkS (script (l.take (j + 1))) := by rw [hp, HTK.out]; unfold script; rw [txt_snoc, ← List.append_assoc]; exact mkS_add _ [32, 38, 38, 32, 98]
        rw [← hp]
        clear hp
        go_wp2
        go_roundw
        case rel => exact ⟨j + 1, by omega, by go_num, by first | rfl | trivial, by first | rfl | trivial⟩
        case measure => simp [intOf]; omega
      | false =>
        have a1 : p ++ (⟨#[32, 124, 124, 10, 32, 98]⟩ : ByteArray) = mkS (script (l.take (j + 1))) := by rw [hp, HTK.out]; unfold script; rw [txt_snoc, ← List.append_assoc]; exact mkS_add _ [32, 124, 124, 10, 32, 98]
        rw [← hp]
        clear hp
        go_wp2
        go_roundw
        case rel => exact ⟨j + 1, by omega, by go_num, by first | rfl | trivial, by first | rfl | trivial⟩
        case measure => simp [intOf]; omega
    · have hje : j = n1 := by omega
      have hj1 : ¬ (j : Int) < (n1 : Int) := by omega
      have htk : l.take j = l := List.take_of_length_le (by rw [HN.out, hje]; exact Nat.le_refl _)
      rw [htk]
      obtain ⟨S, hS⟩ : ∃ S, S = mkS (script l) := ⟨_, rfl⟩
      have HPS := HP.out
      rw [← hS] at HPS
      have HPP := Lib.hid HPS
      rw [← hS]
      clear htk hS HPS hje
      obtain ⟨v3, v4, v5, v6, v7, v8⟩ := HV.out
      go_wp2_with (go_at_call 8; (with_reducible refine (HPP.out _ HB1.out).mono ?_); rintro e w2 ⟨g, c, gk, ck, ga, ca, rfl, hl2, hc2, x1, x2, x3, x4, hbin⟩; have HL2 := Lib.hid (hl2); have HC2 := Lib.hid hc2; have X1 := Lib.hid x1; have X2 := Lib.hid x2; have X3 := Lib.hid x3; have X4 := Lib.hid x4; have HBIN := Lib.hid hbin; clear hl2 hc2 x1 x2 x3 x4 hbin)
      clear v3 v4 v5 v6
      obtain ⟨wt, hwt⟩ : ∃ wt, wt = w2.alloc (.cells #[.slice (some ⟨g, 0, none⟩) n4 c] 25) := ⟨_, rfl⟩
      rw [← hwt]
      have HT := Lib.hid (show Later w2 wt by rw [hwt]; exact Later.alloc _ _)
      have QT := Lib.hid (show wt.heap[w2.heap.size]? = some (.cells #[.slice (some ⟨g, 0, none⟩) n4 c] 25 (0, 0)) by rw [hwt]; exact heap_alloc_new w2 _)
      clear hwt
      have d4 : wt.cell? ⟨w2.heap.size, 0, none⟩ = some (.slice (some ⟨g, 0, none⟩) n4 c) := (cell_row QT.out 0).1
      have d5 : wt.cell? ⟨g, n3 * 8 + 6, none⟩ = some (.slice (some ⟨gk, 0, none⟩) 1 ck) := cell_keeps HT.out X1.out
      have HL0 := Lib.hid (Later.refl wt)
      have HKK := Lib.hid (show ∀ W, Later wt W → Hid (Later wt W) ∧ W.cell? ⟨w2.heap.size, 0, none⟩ = some (.slice (some ⟨g, 0, none⟩) n4 c) ∧ W.cell? ⟨g, n3 * 8 + 6, none⟩ = some (.slice (some ⟨gk, 0, none⟩) 1 ck) from fun W hW => ⟨hW, cell_keeps hW d4, cell_keeps hW d5⟩)
      have HRV := Lib.hid (show ∀ W, Calls Tryd.prog 9 #[.agg #[.slice (some ⟨g, 0, none⟩) n4 c]] W fun e W' => e = .returned (.int .i64 (n3 : Int)) ∧ Later W W' from fun W => by
        have h1 := HN30.out
        have h2 := HN4.out
        have h := root_v W (some ⟨g, 0, none⟩) n4 c (by clear v7 v8; omega)
        rwa [show (n4 : Int) - 1 = n3 by clear v7 v8 h; omega] at h)
      go_region_held (fun W => Hid (Later wt W) ∧ W.cell? ⟨w2.heap.size, 0, none⟩ = some (.slice (some ⟨g, 0, none⟩) n4 c) ∧ W.cell? ⟨g, n3 * 8 + 6, none⟩ = some (.slice (some ⟨gk, 0, none⟩) 1 ck)) (first | assumption | exact HKK.out _ HL0.out | exact HKK.out _ HL9.out | exact HKK.out _ (Later.drew _)) (first
        | (go_at_call 9; (with_reducible refine (HRV.out _).mono ?_); rintro e w9 ⟨rfl, hl9⟩; have HL9 := Lib.hid ((Later.drew wt).trans hl9); clear hl9))
      have d4 : w9.cell? ⟨w2.heap.size, 0, none⟩ = some (.slice (some ⟨g, 0, none⟩) n4 c) := cell_keeps HL9.out d4
      have x2 : w9.cell? ⟨gk, 0, none⟩ = some (.int .i64 (n2 : Int)) := cell_keeps (HT.out.trans HL9.out) X2.out
      clear d5
      go_wp2
      obtain ⟨wA, rfl⟩ : ∃ wA, wA = wr := ⟨_, rfl⟩
      clear v7 v8
      go_loopw [10, 11] (fun k i wr => ∃ j : Nat, j ≤ n1 ∧ i = .int .i64 ((j : Int) - 1) ∧ k = .int .i64 ((2 * j : Nat) : Int) ∧ Later wt wr) (fun k i _ => (intOf i + 1).toNat)
      case atStart => exact ⟨n1, Nat.le_refl _, rfl, by rw [HN2.out], HL9.out⟩
      case round =>
        obtain ⟨q, hq, rfl, rfl, hlr⟩ := hrel
        have HLR := Lib.hid hlr
        clear hlr
        by_cases hq0 : q = 0
        · subst hq0
          have e1 : ((0 : Nat) : Int) - 1 = -1 := rfl
          have e2 : ((2 * 0 : Nat) : Int) = 0 := rfl
          rw [e1, e2]
          have p0 : (0 : Int) < (n4 : Int) := by have := HN3.out; omega
          have HFX := Lib.hid (fixed_v wr (Sgn.later' HG.out (((HB1.out.trans HL2.out).trans HT.out).trans HLR.out)))
          clear e1 e2
          go_wp2_with (go_at_call 8; (with_reducible refine HFX.out.mono ?_); rintro e w6 ⟨g6, c6, A6, k6, rfl, hl6, f1, f2, f3, f4⟩; have HL6 := Lib.hid (hl6); have hl := HLR.out.trans hl6; have d6 : w6.cell? ⟨w2.heap.size, 0, none⟩ = some (.slice (some ⟨g, 0, none⟩) n4 c) := cell_keeps hl (cell_row QT.out 0).1; have x3 : w6.cell? ⟨g, 3, none⟩ = some (.slice (some ⟨ga, 0, none⟩) 1 ca) := cell_keeps (HT.out.trans hl) X3.out; have x4 : w6.cell? ⟨ga, 0, none⟩ = some (.string ⟨#[97, 48]⟩) := cell_keeps (HT.out.trans hl) X4.out; have l1 := lt_cell d6; have l2 := lt_cell x3; have l3 := lt_cell x4; have l4 := lt_cell f1; clear hl hl6)
          go_ret
          exact ⟨rfl, ((((HB1.out.trans HL2.out).trans HT.out).trans HLR.out).trans HL6.out).trans (Later.alloc _ _)⟩
        · obtain ⟨m, rfl⟩ : ∃ m, q = m + 1 := ⟨q - 1, by omega⟩
          have hm : m < n1 := by omega
          have HRr := Lib.hid (HR1.out.below ((HL2.out.trans HT.out).trans HLR.out))
          obtain ⟨ad, e, hml, hc⟩ := bool_at HRr.out hm
          subst e
          obtain ⟨kk, hkk⟩ : ∃ kk, kk = 2 * m + 2 := ⟨_, rfl⟩
          obtain ⟨k1, hk1⟩ : ∃ k1, k1 = 2 * m + 1 := ⟨_, rfl⟩
          have e1 : ((m + 1 : Nat) : Int) - 1 = (m : Int) := by omega
          have e2 : ((2 * (m + 1) : Nat) : Int) = (kk : Int) := by omega
          rw [e1, e2]
          have n4e := HN4.out
          have n2e := HN2.out
          have c2e := HC2.out
          have i1 : (0 : Int) ≤ (m : Int) := by omega
          have i2 : (0 : Int) ≤ (kk : Int) := by omega
          have i3 : (kk : Int) < (n4 : Int) := by have := HN3.out; omega
          have i4 : (0 : Int) ≤ (k1 : Int) := by omega
          have i5 : (k1 : Int) < (n4 : Int) := by have := HN3.out; omega
          have i6 : (m : Int) < (n1 : Int) := by omega
          have HVM := Lib.hid (show wrap64 ((m : Int) - 1) = (m : Int) - 1 ∧ IntKind.i64.wrap ((m : Int) - 1) = (m : Int) - 1 from (wraps (a := m) (by have := HN1.out; omega)).2.2.2.2.2.2)
          have D4 := Lib.hid (cell_keeps HLR.out (cell_row QT.out 0).1)
          have d4 : wr.cell? ⟨w2.heap.size, 0, none⟩ = some (.slice (some ⟨g, 0, none⟩) n4 c) := D4.out
          have D4 := Lib.hid (cell_row QT.out 0).1
          obtain ⟨b, hbb⟩ : ∃ b, b = l[m] := ⟨_, rfl⟩
          rw [← hbb] at hc
          obtain ⟨gb, cb, gw, cw, Aw, Ar, cww, crr, t, ln, hbin⟩ := HBIN.out m b (by rw [hbb]; exact List.getElem?_eq_getElem hml)
          clear e1 e2 n4e n2e c2e
          have HBB := Lib.hid hbb
          clear hbb
          cases b with
          | true =>
            have hld : (Instr.loadAt 33 (.pointer (some ⟨g, kk * 8, none⟩))).run Tryd.prog wr = .ok (.agg #[.int .i64 3, .string t, .bool false, .slice Aw 0 cww, .int .i64 0, .slice Ar 0 crr, .slice (some ⟨gb, 0, none⟩) 2 cb, .int .i64 ln]) wr := by rw [hkk]; exact hbin.load wr (HT.out.trans HLR.out)
            have HLD := Lib.hid hld
            have HALL := Lib.hid (show (#[.int .i64 3, .string t, .bool false, .slice Aw 0 cww, .int .i64 0, .slice Ar 0 crr, .slice (some ⟨gb, 0, none⟩) 2 cb, .int .i64 ln] : Array Value).all (·.oneCell') = true by simp [Value.oneCell'])
            have HK0 := Lib.hid hbin.k0
            have HK1 := Lib.hid (show w2.cell? ⟨gb, 1, none⟩ = some (.int .i64 (k1 : Int)) by rw [hk1]; exact hbin.k1)
            have HW1 := Lib.hid (show w2.cell? ⟨g, k1 * 8 + 3, none⟩ = some (.slice (some ⟨gw, 0, none⟩) 1 cw) by rw [hk1]; exact hbin.w)
            have HW0 := Lib.hid hbin.w0
            obtain ⟨va, vb⟩ := HVM.out
            clear hld hbin hkk hk1
            go_wp2_with (first
              | (refine wpList_loadRun rfl 33 (.tmp 79) rfl _ _ rfl HLD.out ?_)
              | (refine wpList_allocO 12 rfl rfl 33 rfl _ _ info_node ?_; intro w4 hb hl hz; have HB4 := Lib.hid (hb); have HL4 := Lib.hid (hl); clear hb hl hz)
              | (refine wpList_storeO rfl 33 (.tmp 12) (.tmp 80) rfl wr.heap.size _ #[.int .i64 3, .string t, .bool false, .slice Aw 0 cww, .int .i64 0, .slice Ar 0 crr, .slice (some ⟨gb, 0, none⟩) 2 cb, .int .i64 ln] rfl rfl HB4.out size_node rfl HALL.out ?_; intro w5 hb5 hg5 hz5; have HL5 := Lib.hid (later_of_new HL4.out hg5 (Nat.le_refl _)); have hl5 := (HT.out.trans HLR.out).trans HL5.out; have x0 : w5.cell? ⟨wr.heap.size, 0, none⟩ = some (.int .i64 3) := (cell_row hb5 0).1; have x6 : w5.cell? ⟨wr.heap.size, 6, none⟩ = some (.slice (some ⟨gb, 0, none⟩) 2 cb) := (cell_row hb5 6).1; have y0 := cell_keeps hl5 HK0.out; have y1 := cell_keeps hl5 HK1.out; have y2 := cell_keeps hl5 HW1.out; have y3 := cell_keeps hl5 HW0.out; have y4 : w5.cell? ⟨w2.heap.size, 0, none⟩ = some (.slice (some ⟨g, 0, none⟩) n4 c) := cell_keeps (HLR.out.trans HL5.out) D4.out; have y5 := HR1.out.below (((HL2.out.trans HT.out).trans HLR.out).trans HL5.out); obtain ⟨ad', e', hl', hc'⟩ := bool_at y5 hm; cases e'; rw [← HBB.out] at hc'; clear hb5 hg5 hz5 hl5 y5 hl'))
            go_quiet (fail)
            go_wp2
            go_roundw
            case rel => clear va vb; exact ⟨m, by omega, by go_num, by first | rfl | trivial, (HLR.out.trans HL5.out).trans (Below.drewN _ _ _)⟩
            case measure => clear va vb; simp [intOf]
          | false =>
            have hld : (Instr.loadAt 33 (.pointer (some ⟨g, kk * 8, none⟩))).run Tryd.prog wr = .ok (.agg #[.int .i64 4, .string t, .bool false, .slice Aw 0 cww, .int .i64 0, .slice Ar 0 crr, .slice (some ⟨gb, 0, none⟩) 2 cb, .int .i64 ln]) wr := by rw [hkk]; exact hbin.load wr (HT.out.trans HLR.out)
            have HLD := Lib.hid hld
            have HALL := Lib.hid (show (#[.int .i64 4, .string t, .bool false, .slice Aw 0 cww, .int .i64 0, .slice Ar 0 crr, .slice (some ⟨gb, 0, none⟩) 2 cb, .int .i64 ln] : Array Value).all (·.oneCell') = true by simp [Value.oneCell'])
            have HK0 := Lib.hid hbin.k0
            have HK1 := Lib.hid (show w2.cell? ⟨gb, 1, none⟩ = some (.int .i64 (k1 : Int)) by rw [hk1]; exact hbin.k1)
            have HW1 := Lib.hid (show w2.cell? ⟨g, k1 * 8 + 3, none⟩ = some (.slice (some ⟨gw, 0, none⟩) 1 cw) by rw [hk1]; exact hbin.w)
            have HW0 := Lib.hid hbin.w0
            obtain ⟨va, vb⟩ := HVM.out
            clear hld hbin hkk hk1
            go_wp2_with (first
              | (refine wpList_loadRun rfl 33 (.tmp 79) rfl _ _ rfl HLD.out ?_)
              | (refine wpList_allocO 12 rfl rfl 33 rfl _ _ info_node ?_; intro w4 hb hl hz; have HB4 := Lib.hid (hb); have HL4 := Lib.hid (hl); clear hb hl hz)
              | (refine wpList_storeO rfl 33 (.tmp 12) (.tmp 80) rfl wr.heap.size _ #[.int .i64 4, .string t, .bool false, .slice Aw 0 cww, .int .i64 0, .slice Ar 0 crr, .slice (some ⟨gb, 0, none⟩) 2 cb, .int .i64 ln] rfl rfl HB4.out size_node rfl HALL.out ?_; intro w5 hb5 hg5 hz5; have HL5 := Lib.hid (later_of_new HL4.out hg5 (Nat.le_refl _)); have hl5 := (HT.out.trans HLR.out).trans HL5.out; have x0 : w5.cell? ⟨wr.heap.size, 0, none⟩ = some (.int .i64 4) := (cell_row hb5 0).1; have x6 : w5.cell? ⟨wr.heap.size, 6, none⟩ = some (.slice (some ⟨gb, 0, none⟩) 2 cb) := (cell_row hb5 6).1; have y0 := cell_keeps hl5 HK0.out; have y1 := cell_keeps hl5 HK1.out; have y2 := cell_keeps hl5 HW1.out; have y3 := cell_keeps hl5 HW0.out; have y4 : w5.cell? ⟨w2.heap.size, 0, none⟩ = some (.slice (some ⟨g, 0, none⟩) n4 c) := cell_keeps (HLR.out.trans HL5.out) D4.out; have y5 := HR1.out.below (((HL2.out.trans HT.out).trans HLR.out).trans HL5.out); obtain ⟨ad', e', hl', hc'⟩ := bool_at y5 hm; cases e'; rw [← HBB.out] at hc'; clear hb5 hg5 hz5 hl5 y5 hl'))
            go_quiet (fail)
            go_wp2
            go_roundw
            case rel => clear va vb; exact ⟨m, by omega, by go_num, by first | rfl | trivial, (HLR.out.trans HL5.out).trans (Below.drewN _ _ _)⟩
            case measure => clear va vb; simp [intOf]
theorem walk (w : World) (hg : Sgn w) (A1 : Option Addr) (n1 c1 : Nat) (l : List Bool) (h : Args w A1 n1 c1 l) :
    Calls Tryd.prog 5 #[.slice A1 n1 c1] w fun e w' => e = .returned (.bool true) ∧ Below w.heap.size w w' := by
  by_cases h30 : (30 : Int) < (n1 : Int)
  · exact walkX w hg A1 n1 c1 h30
  · exact walkM w hg A1 n1 c1 l h h30
end syntaxLeft
end Go.Proofs.YtipojbknkfkgoaaDoor
