/- The walk of UnparseFew. -/
import Derived.Test.YtkkchkkpnlnbgaaGreatDoorPm
import Derived.Test.YtkkchkkpnlnbgaaGreatDoorPc
import Derived.Test.YtkkchkkpnlnbgaaGreatDoorPd
namespace Go.Proofs.YtkkchkkpnlnbgaaGreatDoor
open Go.RowKit Go.Maps
open Lx (nl Tok)
open Pz (TreeM NodeAt parse_ok parse_err Sgn.later')
namespace unparseFew
theorem nl_take (l : List UInt8) (k : Nat) (hk : k < l.length) : nl (l.take (k + 1)) = nl (l.take k) + if l[k] = 10 then 1 else 0 := by
  rw [List.take_succ_eq_append_getElem hk, Up.nl_app]
  simp [nl]
theorem nl_le (l : List UInt8) : nl l ≤ l.length := by
  induction l with
  | nil => exact Nat.le_refl _
  | cons c l ih => simp only [nl, List.length_cons]; split <;> omega
theorem upTo_le (g : Nat → Nat) : ∀ (n m : Nat), n ≤ m → Up.upTo g n ≤ Up.upTo g m
  | n, 0, h => by have : n = 0 := by omega
                  subst this
                  exact Nat.le_refl _
  | n, m + 1, h => by
    by_cases e : n = m + 1
    · subst e; exact Nat.le_refl _
    · have := upTo_le g n m (by omega)
      simp only [Up.upTo]
      omega
set_option maxHeartbeats 1600000 in
set_option maxRecDepth 100000 in
theorem walkX (w : World) (hg : Sgn w) (s : List UInt8) (h : (1500 : Int) < ((mkS s).size : Int)) :
    Calls Tryz.prog 4 #[.string (mkS s)] w fun e w' => e = .returned (.bool true) ∧ Below w.heap.size w w' := by
  have HA := Lib.hid (Uw.awake_v w hg)
  clear hg
  go_enter Tryz.func4, Tryz.ntmps4
  go_wp2_with (go_at_call 5; (with_reducible refine HA.out.mono ?_); rintro e w1 ⟨rfl, hb1⟩; have HB1 := Lib.hid hb1; clear hb1)
  go_ret
  exact ⟨rfl, HB1.out⟩
set_option maxHeartbeats 1600000 in
set_option maxRecDepth 100000 in
theorem walkE (w : World) (hg : Sgn w) (s : List UInt8) (h : ¬ (1500 : Int) < ((mkS s).size : Int)) (n k : Nat) (hall : Sx.tree s = .error (n, k)) (hn : n ≠ 0) :
    Calls Tryz.prog 4 #[.string (mkS s)] w fun e w' => e = .returned (.bool true) ∧ Below w.heap.size w w' := by
  have HA := Lib.hid (Uw.awake_v w hg)
  have hz := mkS_size s
  have HAL := Lib.hid (show ∀ W, Later w W → Calls Tryz.prog 6 #[.string (mkS s)] W fun e W' => e = .returned (.tuple #[.agg #[.slice none 0 0], .int .i64 (n : Int), .int .i64 ((1 + nl s - k : Nat) : Int)]) ∧ Later W W' from fun W hW => parse_err (by omega) hall W (Sgn.later' hg hW))
  have e1 : ((n : Int) != 0) = true := by simp; omega
  clear hg hall hz
  go_enter Tryz.func4, Tryz.ntmps4
  go_wp2_with (first
    | (go_at_call 5; (with_reducible refine HA.out.mono ?_); rintro e w1 ⟨rfl, hb1⟩; have HB1 := Lib.hid hb1; clear hb1)
    | (go_at_call 6; (with_reducible refine (HAL.out _ HB1.out).mono ?_); rintro e w2 ⟨rfl, hl2⟩; have HL2 := Lib.hid ((HB1.out.trans hl2).trans (Later.alloc w2 (.cells #[.slice none 0 0] 25))); clear hl2))
  go_ret
  exact ⟨rfl, HL2.out⟩
set_option maxHeartbeats 3200000 in
set_option maxRecDepth 100000 in
theorem walkO (w : World) (hg : Sgn w) (s : List UInt8) (h : ¬ (1500 : Int) < ((mkS s).size : Int)) (ns : List Sx.Node) (hall : Sx.tree s = .ok ns) :
    Calls Tryz.prog 4 #[.string (mkS s)] w fun e w' => e = .returned (.bool true) ∧ Below w.heap.size w w' := by
  have HA := Lib.hid (Uw.awake_v w hg)
  have hz := mkS_size s
  obtain ⟨hf, hp0, h5, hl⟩ := Sx.tree_forest hall
  have hs4 : s.length ≤ 4096 := by omega
  have hsmall := Sx.text_small hs4 hall hf hp0
  have hle1 := Up.lines_least hf hp0 h5
  have hwh := Up.text_whole h5
  have hlt1 := Up.least_text hf hp0 h5
  have htl : (Up.text ns).length ≤ 2300000000000 := by
    unfold Up.text
    rw [if_neg (by rintro rfl; cases hp0)]
    unfold Up.size at hsmall
    omega
  obtain ⟨n, hn⟩ : ∃ n, n = ns.length := ⟨_, rfl⟩
  have hn1 : n ≤ 40000 := by omega
  have hn0 : 0 < n := by omega
  have HNS := Lib.hid hn
  obtain ⟨a, ha⟩ : ∃ a, a = Up.text ns := ⟨_, rfl⟩
  rw [← ha] at hle1 hwh hlt1 htl
  have HAL := Lib.hid (show ∀ W, Later w W → Calls Tryz.prog 6 #[.string (mkS s)] W fun e W' => ∃ g c, e = .returned (.tuple #[.agg #[.slice (some ⟨g, 0, none⟩) n c], .int .i64 0, .int .i64 0]) ∧ n ≤ c ∧ TreeM W' (nl s) (.slice (some ⟨g, 0, none⟩) n c) ns ∧ Later W W' from fun W hW => (parse_ok hs4 hall W (Sgn.later' hg hW)).mono fun e W' h => by
    obtain ⟨A, c, e1, h1, h2, h3⟩ := h
    rcases h2.at_ with h4 | ⟨g, h4, _⟩
    · rw [h4] at hn; simp at hn; omega
    · subst h4
      rw [hn]
      exact ⟨g, c, e1, h1, h2, h3⟩)
  have HSH := Lib.hid (show ∀ W g c, TreeM W (nl s) (.slice (some ⟨g, 0, none⟩) n c) ns → Calls Tryz.prog 7 #[.agg #[.slice (some ⟨g, 0, none⟩) n c]] W fun e W' => e = .returned (.string (mkS a)) ∧ Later W W' from fun W g c hm => by
    rw [hn] at hm ⊢
    rw [ha]
    exact Uw.show_tree hs4 hall hm)
  have HM := Lib.hid (And.intro hle1 (And.intro hwh (And.intro hlt1 htl)))
  clear hg hall hz hf hn h5 hl hsmall hle1 hwh hlt1 htl ha hs4 hp0
  go_enter Tryz.func4, Tryz.ntmps4
  go_wp2_with (first
    | (go_at_call 5; (with_reducible refine HA.out.mono ?_); rintro e w1 ⟨rfl, hb1⟩; have HB1 := Lib.hid hb1; clear hb1)
    | (go_at_call 6; (with_reducible refine (HAL.out _ HB1.out).mono ?_); rintro e w2 ⟨g, c, rfl, hc, hm, hl2⟩; have HL2 := Lib.hid (HB1.out.trans hl2); have HM2 := Lib.hid hm; clear hl2 hm hc)
    | (go_at_call 7; fail))
  have hm1 := HM2.out.later (Later.alloc w2 (.cells #[.slice (some ⟨g, 0, none⟩) n c] 25))
  have hbx := heap_alloc_new w2 (.cells #[.slice (some ⟨g, 0, none⟩) n c] 25)
  refine (HSH.out _ g c hm1).mono ?_
  rintro e w3 ⟨rfl, hl3⟩
  have hla := (Later.alloc w2 (.cells #[.slice (some ⟨g, 0, none⟩) n c] 25)).trans hl3
  have hb3 := later_cells hl3 hbx
  have HM3 := Lib.hid (hm1.later hl3)
  have HB3 := Lib.hid hb3
  have HL3 := Lib.hid (HL2.out.trans hla)
  have HB1 := trivial
  have d3 : w3.cell? ⟨w2.heap.size, 0, none⟩ = some (.slice (some ⟨g, 0, none⟩) n c) := (cell_row hb3 0).1
  have hlt3 := lt_of_block hb3
  clear hm1 hbx hl3 hla hb3
  obtain ⟨F, hF⟩ : ∃ F : Nat → Nat, F = fun i => (ns[i]?.map Up.own).getD 0 := ⟨_, rfl⟩
  have hFn : Up.upTo F n = Up.least ns := by rw [hF, HNS.out]; rfl
  have HFF := Lib.hid hF
  have HFN := Lib.hid hFn
  have hal := HM.out.2.2.2
  have hazs := mkS_size a
  clear hF hFn
  go_wp2
  go_loopw [8, 9] (fun v i wr => ∃ k : Nat, k ≤ n ∧ i = .int .i64 (k : Int) ∧ v = .int .i64 ((Up.upTo F k : Nat) : Int) ∧ Later w3 wr) (fun _ i _ => n - (intOf i).toNat)
  case atStart => exact ⟨0, by omega, rfl, rfl, Later.refl _⟩
  case round =>
    obtain ⟨k, hk, rfl, rfl, hlr⟩ := hrel
    have HLR := Lib.hid hlr
    have hk0 : (0 : Int) ≤ (k : Int) := by omega
    have d4 : wr.cell? ⟨w2.heap.size, 0, none⟩ = some (.slice (some ⟨g, 0, none⟩) n c) := cell_keeps hlr d3
    have hlt4 : w2.heap.size < wr.heap.size := Nat.lt_of_lt_of_le hlt3 hlr.size
    by_cases hlt : k < n
    · have hk1 : (k : Int) < (n : Int) := by omega
      have hkn : k < ns.length := by rw [← HNS.out]; exact hlt
      obtain ⟨g', eg, hat⟩ := ((HM3.out.later hlr).at_).resolve_left (fun e => by rw [e] at hkn; simp at hkn)
      injection eg with eg
      injection eg with eg
      subst eg
      obtain ⟨v, hna, hne⟩ := hat k hkn
      obtain ⟨Ak, ck, ek, hck⟩ := own_any hne.k
      have q0 := hna.c0
      have q6 := hna.c6
      rw [ek] at q6
      have hup : Up.upTo F (k + 1) = Up.upTo F k + Up.own ns[k] := by
        have e0 : F k = Up.own ns[k] := by
          rw [HFF.out]
          show (ns[k]?.map Up.own).getD 0 = _
          rw [List.getElem?_eq_getElem hkn]
          rfl
        show Up.upTo F k + F k = _
        rw [e0]
      have hle := upTo_le F (k + 1) n (by omega)
      have hM := HM.out
      have hnl := nl_le a
      rw [HFN.out] at hle
      obtain ⟨m, hm⟩ : ∃ m, m = Up.upTo F k := ⟨_, rfl⟩
      obtain ⟨m2, hm2⟩ : ∃ m2, m2 = Up.upTo F (k + 1) := ⟨_, rfl⟩
      rw [← hm, ← hm2] at hup
      rw [← hm]
      have hmb : m2 ≤ 2300000000000 := by rw [hm2]; omega
      by_cases h5 : ns[k].kind = 5
      · have e5 : ((ns[k].kind : Int) == 5) = true := by rw [h5]; rfl
        have eo : Up.own ns[k] = ns[k].kids.length := by unfold Up.own; rw [if_pos h5]
        rw [eo] at hup
        obtain ⟨L, hL⟩ : ∃ L, L = ns[k].kids.length := ⟨_, rfl⟩
        rw [← hL] at hup q6
        have q0' : wr.cell? ⟨g, k * 8, none⟩ = some (.int .i64 (ns[k].kind : Int)) := q0
        rw [h5] at q0'
        have HU := Lib.hid (And.intro hm2 hup)
        have hs1 : (0 : Int) ≤ (m : Int) + (L : Int) := by omega
        have hs2 : (m : Int) + (L : Int) ≤ 2300000000000 := by omega
        clear hlr hat hna hne ek hle hM hnl hm hL eo h5 e5 q0 hck hm2 hup hmb
        go_wp2
        go_roundw
        case rel => exact ⟨k + 1, by omega, by go_num, by rw [← HU.out.1, HU.out.2]; go_num, HLR.out⟩
        case measure => simp [intOf]; omega
      · have e5 : ((ns[k].kind : Int) == 5) = false := by simp; omega
        have eo : Up.own ns[k] = 0 := by unfold Up.own; rw [if_neg h5]
        rw [eo] at hup
        have q0' : wr.cell? ⟨g, k * 8, none⟩ = some (.int .i64 (ns[k].kind : Int)) := q0
        obtain ⟨z, hz⟩ : ∃ z : Int, z = (ns[k].kind : Int) := ⟨_, rfl⟩
        rw [← hz] at q0' e5
        have HU := Lib.hid (And.intro hm2 hup)
        clear hlr hat hna hne ek hle hM hnl hm eo h5 q0 q6 hck hz hm2 hup hmb
        go_wp2
        go_roundw
        case rel => exact ⟨k + 1, by omega, by go_num, by rw [← HU.out.1, HU.out.2]; go_num, HLR.out⟩
        case measure => simp [intOf]; omega
    · have hk1 : ¬ (k : Int) < (n : Int) := by omega
      have hkn : k = n := by omega
      subst hkn
      rw [HFN.out]
      obtain ⟨wq, rfl⟩ : ∃ wq, wq = wr := ⟨_, rfl⟩
      clear hlr
      go_wp2
      go_loopw [10, 11] (fun v i wy => ∃ j : Nat, j ≤ a.length ∧ i = .int .i64 (j : Int) ∧ v = .int .i64 ((nl (a.take j) : Nat) : Int) ∧ wy = wq) (fun _ i _ => a.length - (intOf i).toNat)
      case atStart => exact ⟨0, by omega, rfl, rfl, by first | rfl | trivial⟩
      case round =>
        obtain ⟨j, hj, rfl, rfl, rfl⟩ := hrel
        have hj0 : (0 : Int) ≤ (j : Int) := by omega
        by_cases hjl : j < a.length
        · have hj1 : (j : Int) < ((mkS a).size : Int) := by omega
          have hnt := nl_take a j hjl
          have hnb := nl_le (a.take j)
          rw [List.length_take] at hnb
          have HNT := Lib.hid hnt
          obtain ⟨b, hb⟩ : ∃ b, b = a[j] := ⟨_, rfl⟩
          have hget : ∀ h, (mkS a)[j]'h = b := fun h => by rw [hb]; rfl
          by_cases h10 : a[j] = 10
          · rw [if_pos h10] at hnt
            have HNT2 := Lib.hid hnt
            have hget2 : ∀ h, (((mkS a)[j]'h).toNat : Int) = 10 := fun h => by
              have e : (mkS a)[j]'h = 10 := (sgetk a j hjl h).trans h10
              rw [e]
              rfl
            have hnb2 : (nl (a.take j) : Int) ≤ 2300000000000 := by omega
            have hnb3 : (0 : Int) ≤ (nl (a.take j) : Int) := by omega
            clear hget hb hnt HNT hnb
            go_wp2
            go_roundw
            case rel => exact ⟨j + 1, by omega, by go_num, by rw [HNT2.out]; go_num, by first | rfl | trivial⟩
            case measure => simp [intOf]; omega
          · rw [if_neg h10] at hnt
            have HNT2 := Lib.hid hnt
            have hget2 : ∀ h, ((((mkS a)[j]'h).toNat : Int) == 10) = false := fun h => by
              have e : (mkS a)[j]'h = a[j] := sgetk a j hjl h
              rw [e]
              simp only [beq_eq_false_iff_ne, ne_eq]
              intro e2
              have e3 : a[j].toNat = (10 : UInt8).toNat := by
                show a[j].toNat = 10
                omega
              exact h10 (UInt8.toNat_inj.1 e3)
            clear hget hb hnt HNT hnb
            go_wp2
            go_roundw
            case rel => exact ⟨j + 1, by omega, by go_num, by rw [HNT2.out]; go_num, by first | rfl | trivial⟩
            case measure => simp [intOf]; omega
        · have hj1 : ¬ (j : Int) < ((mkS a).size : Int) := by omega
          have hja : a.take j = a := List.take_of_length_le (by omega)
          rw [hja]
          obtain ⟨hle, hwh, hiff, _⟩ := HM.out
          have hge : ((Up.least ns : Nat) : Int) ≤ ((nl a : Nat) : Int) := by omega
          obtain ⟨L, hL⟩ : ∃ L, L = Up.least ns := ⟨_, rfl⟩
          rw [← hL] at hge hiff ⊢
          obtain ⟨M, hMM⟩ : ∃ M, M = nl a := ⟨_, rfl⟩
          rw [← hMM] at hge ⊢
          by_cases ha0 : a = []
          · have hL0 : L = 0 := by
              rcases Nat.eq_zero_or_pos L with e | e
              · exact e
              · exact absurd ha0 (hiff.1 e)
            have hq0 : ((mkS a).toList == []) = true := by rw [toList_mkS, ha0]; rfl
            have hq1 : ((mkS a).toList != []) = false := by rw [toList_mkS, ha0]; rfl
            have hL1 : ¬ (0 : Int) < (L : Int) := by omega
            clear hle hwh hiff hL hMM hL0 ha0
            go_wp2
            go_ret
            refine ⟨?_, HL3.out.trans HLR.out⟩
            show Ending.returned (.bool (!decide (0 < L))) = _
            rw [decide_eq_false (by omega)]
            rfl
          · have hL0 : 0 < L := hiff.2 ha0
            have hq0 : ((mkS a).toList == []) = false := by rw [toList_mkS]; simpa using ha0
            have hq1 : ((mkS a).toList != []) = true := by rw [toList_mkS]; simpa using ha0
            have hL1 : (0 : Int) < (L : Int) := by omega
            have hlast : a.getLast? = some 10 := hwh.resolve_left ha0
            obtain ⟨N, hN⟩ : ∃ N, a.length = N + 1 := ⟨a.length - 1, (by have h9 := List.length_pos_iff.2 ha0; omega)⟩
            have hsz : (mkS a).size = N + 1 := by rw [hazs, hN]
            have hn2 : (N : Int) + 1 - 1 = (N : Int) := by omega
            have hN0 : (0 : Int) ≤ (N : Int) := by omega
            have hget3 : ∀ h, (((mkS a)[N]'h).toNat : Int) = 10 := fun h => by
              have hNa : N < a.length := by omega
              rw [List.getLast?_eq_getElem?, hN, Nat.add_sub_cancel, List.getElem?_eq_getElem hNa] at hlast
              injection hlast with hlast
              have e : (mkS a)[N]'h = 10 := (sgetk a N hNa h).trans hlast
              rw [e]
              rfl
            clear hle hwh hiff hL hMM hL0 hlast hazs hN
            go_wp2
            go_ret
            refine ⟨?_, HL3.out.trans HLR.out⟩
            show Ending.returned (.bool (decide (0 < L))) = _
            rw [decide_eq_true (by omega)]
theorem walk (w : World) (hg : Sgn w) (t : ByteArray) (ht : t.size ≤ maxLen) :
    Calls Tryz.prog 4 #[.string t] w fun e w' => e = .returned (.bool true) ∧ Below w.heap.size w w' := by
  obtain ⟨s, rfl⟩ : ∃ s, t = mkS s := ⟨_, (mkS_of t).symm⟩
  by_cases h : (1500 : Int) < ((mkS s).size : Int)
  · exact walkX w hg s h
  cases hx : Sx.tree s with
  | ok ns => exact walkO w hg s h ns hx
  | error e =>
    obtain ⟨n, k⟩ := e
    refine walkE w hg s h n k hx ?_
    rintro rfl
    unfold Sx.tree at hx
    cases hy : Lx.all s with
    | error e =>
      rw [hy] at hx
      injection hx with hx
      subst hx
      rcases ((Lx.all_lines s).1 0 k hy).1 with e | e <;> cases e
    | ok ts =>
      rw [hy] at hx
      exact Sx.parse_nz (Lx.all_good hy) k hx
end unparseFew
end Go.Proofs.YtkkchkkpnlnbgaaGreatDoor
