/- The walk of LexerQuotes: whatever the texts are, the call returns true. -/
import Derived.Test.YtnjabmacbgehlaaDoorLJoinsW
namespace Go.Proofs.YtnjabmacbgehlaaDoor
open Go.RowKit Go.Maps
open Lx (nl Tok)
/-- A row of texts, as the walks read it. -/
theorem strs_of {w : World} {B n : Nat} {A : Option Addr} {l : List ByteArray} (h : Rd w B A n (l.map Value.string)) : ∃ ls : List (List UInt8), Rd w B A n (ls.map fun x => Value.string (mkS x)) :=
  ⟨l.map fun s => s.data.toList, by
    have e : (l.map fun s => s.data.toList).map (fun x => Value.string (mkS x)) = l.map Value.string := by
      rw [List.map_map]
      exact List.map_congr_left fun s _ => by simp [Function.comp, mkS_of]
    rw [e]
    exact h⟩
theorem strs_at {w : World} {B n : Nat} {A : Option Addr} {ls : List (List UInt8)} (h : Rd w B A n (ls.map fun x => Value.string (mkS x))) {k : Nat} (hk : k < n) : ∃ ad, A = some ad ∧ ∃ h : k < ls.length, w.cell? (ad.add k) = some (.string (mkS ls[k])) := by
  obtain ⟨ad, u, e, _, hu, hc⟩ := h.at_ hk
  have hl : k < ls.length := by have := h.1; rw [List.length_map] at this; omega
  rw [List.getElem?_map, List.getElem?_eq_getElem hl] at hu
  injection hu with hu
  exact ⟨ad, e, hl, by rw [hc, ← hu]⟩
theorem str_selfn (l : List UInt8) : ((mkS l).toList != (mkS l).toList) = false := by simp
namespace lexerQuotes
abbrev Args (w : World) (A1 : Option Addr) (n1 c1 : Nat) (ls : List (List UInt8)) : Prop := Rd w w.heap.size A1 n1 (ls.map fun x => Value.string (mkS x)) ∧ n1 ≤ c1 ∧ c1 ≤ maxLen
theorem quotesL_short (ls : List (List UInt8)) (h : ∀ x ∈ ls, x.length ≤ 60) : (Lx.quotesL ls).length ≤ 63 * ls.length := by
  unfold Lx.quotesL
  induction ls with
  | nil => simp
  | cons x ls ih =>
    have h1 := h x (by simp)
    have h2 := ih fun y hy => h y (by simp [hy])
    simp only [List.flatMap_cons, List.length_append, List.length_cons, List.length_nil]
    omega
set_option maxHeartbeats 1600000 in
set_option maxRecDepth 100000 in
theorem walkX (w : World) (hg : Sgn w) (A1 : Option Addr) (n1 c1 : Nat) (h : (20 : Int) < (n1 : Int)) :
    Calls Tryd.prog 6 #[.slice A1 n1 c1] w fun e w' => e = .returned (.bool true) ∧ Below w.heap.size w w' := by
  have HA := Lib.hid (awake_v w hg)
  clear hg
  go_enter Tryd.func6, Tryd.ntmps6
  go_wp2_with (go_at_call 9; (with_reducible refine HA.out.mono ?_); rintro e w1 ⟨rfl, hb1⟩; have HB1 := Lib.hid hb1; clear hb1)
  go_ret
  exact ⟨rfl, HB1.out⟩
set_option maxHeartbeats 3200000 in
set_option maxRecDepth 100000 in
theorem walkM (w : World) (hg : Sgn w) (A1 : Option Addr) (n1 c1 : Nat) (ls : List (List UInt8)) (h : Args w A1 n1 c1 ls) (h20 : ¬ (20 : Int) < (n1 : Int)) :
    Calls Tryd.prog 6 #[.slice A1 n1 c1] w fun e w' => e = .returned (.bool true) ∧ Below w.heap.size w w' := by
  have HA := Lib.hid (awake_v w hg)
  have HR := Lib.hid h.1
  have hlen : ls.length = n1 := by have := h.1.1; rw [List.length_map] at this; exact this
  have HN := Lib.hid hlen
  have HG := Lib.hid hg
  clear h hg hlen
  go_enter Tryd.func6, Tryd.ntmps6
  go_wp2_with (go_at_call 9; (with_reducible refine HA.out.mono ?_); rintro e w1 ⟨rfl, hb1⟩; have HB1 := Lib.hid hb1; clear hb1)
  have HR1 := Lib.hid ((HR.out.below HB1.out).more HB1.out.size)
  go_loopw [4, 5] (fun s i wr => ∃ j : Nat, j ≤ n1 ∧ i = .int .i64 (j : Int) ∧ s = .string (mkS (Lx.quotesL (ls.take j))) ∧ wr = w1 ∧ ∀ x ∈ ls.take j, x.length ≤ 60 ∧ ∀ c ∈ x, c ≠ 39) (fun s i _ => n1 - (intOf i).toNat)
  case atStart => exact ⟨0, by omega, rfl, rfl, rfl, by simp⟩
  case round =>
    obtain ⟨j, hj, rfl, rfl, hw, hok⟩ := hrel
    subst hw
    have HOK := Lib.hid hok
    clear hok
    have hj0 : (0 : Int) ≤ (j : Int) := by omega
    by_cases hjn : j < n1
    · obtain ⟨ad, rfl, hjl, hc⟩ := strs_at HR1.out hjn
      have hj1 : (j : Int) < (n1 : Int) := by omega
      obtain ⟨x, hx⟩ : ∃ x, x = ls[j] := ⟨_, rfl⟩
      rw [← hx] at hc
      have HTK := Lib.hid (show ls.take (j + 1) = ls.take j ++ [x] by rw [List.take_succ_eq_append_getElem hjl, hx])
      clear hx hjl
      obtain ⟨m, hm⟩ : ∃ m, m = x.length := ⟨_, rfl⟩
      have hz : (mkS x).size = m := by rw [mkS_size, hm]
      have HM := Lib.hid hm
      clear hm
      by_cases h60 : (60 : Int) < (m : Int)
      · go_wp2
        go_ret
        exact ⟨rfl, HB1.out⟩
      · go_wp2
        go_loopw [6] (fun k wx => ∃ i : Nat, i ≤ m ∧ k = .int .i64 (i : Int) ∧ wx = wr ∧ ∀ c ∈ x.take i, c ≠ 39) (fun k _ => m - (intOf k).toNat)
        case atStart => exact ⟨0, by omega, rfl, rfl, by simp⟩
        case round =>
          obtain ⟨i, hi, rfl, hw, hn⟩ := hrel
          subst hw
          have HNQ := Lib.hid hn
          clear hn
          by_cases him : i < m
          · have hil : i < x.length := by rw [← HM.out]; exact him
            have hi0 : (0 : Int) ≤ (i : Int) := by omega
            have hi1 : (i : Int) < ((mkS x).size : Int) := by omega
            have hi2 : (i : Int) < (m : Int) := by omega
            obtain ⟨c, hcx⟩ : ∃ c, c = x[i] := ⟨_, rfl⟩
            have hgx : ∀ h, (mkS x)[i]'h = c := by rw [hcx]; exact sgetk x i hil
            have HNX := Lib.hid (show c ≠ 39 → ∀ c ∈ x.take (i + 1), c ≠ 39 from fun h d hd => by
              rw [List.take_succ_eq_append_getElem hil, List.mem_append] at hd
              rcases hd with hd | hd
              · exact HNQ.out d hd
              · rw [List.mem_singleton] at hd; rw [hd, ← hcx]; exact h)
            clear hcx hil
            by_cases h39 : c = 39
            · have hq : ((c.toNat : Int) == 39) = true := by rw [h39]; rfl
              go_wp2
              go_ret
              exact ⟨rfl, HB1.out⟩
            · have hq : ((c.toNat : Int) == 39) = false := by
                rw [beq_eq_false_iff_ne]
                intro e
                exact h39 (UInt8.toNat_inj.1 (by have : (39 : UInt8).toNat = 39 := rfl; omega))
              go_wp2
              go_roundw
              case rel => exact ⟨i + 1, by omega, by go_num, by first | rfl | trivial, HNX.out h39⟩
              case measure => simp [intOf]; omega
          · have hie : ¬ (i : Int) < (m : Int) := by omega
            have HNA := Lib.hid (show ∀ c ∈ x, c ≠ 39 from fun c hc => HNQ.out c (by rw [List.take_of_length_le (by rw [← HM.out]; omega)]; exact hc))
            have hlx := HM.out
            obtain ⟨q1, hq1⟩ : ∃ q1, q1 = mkS (39 :: x) := ⟨_, rfl⟩
            obtain ⟨q2, hq2⟩ : ∃ q2, q2 = mkS (39 :: x ++ [39, 32]) := ⟨_, rfl⟩
            obtain ⟨s0, hs0⟩ : ∃ s0, s0 = Lx.quotesL (ls.take j) := ⟨_, rfl⟩
            have a1 : (⟨#[39]⟩ : ByteArray) ++ mkS x = q1 := by rw [hq1]; exact mkS_add [39] x
            have a2 : q1 ++ (⟨#[39, 32]⟩ : ByteArray) = q2 := by rw [hq1, hq2]; exact mkS_add (39 :: x) [39, 32]
            have a3 : mkS s0 ++ q2 = mkS (s0 ++ (39 :: x ++ [39, 32])) := by rw [hq2, mkS_add]
            have z1 : q1.size ≤ 70 := by rw [hq1, mkS_size, List.length_cons]; omega
            have z2 : q2.size ≤ 70 := by rw [hq2, mkS_size, List.length_append, List.length_cons]; simp; omega
            have z3 : (mkS s0).size ≤ 2000 := by
              rw [mkS_size, hs0]
              have := quotesL_short (ls.take j) fun x hx => (HOK.out x hx).1
              rw [List.length_take] at this
              omega
            have HS0 := Lib.hid hs0
            rw [← hs0]
            clear hq1 hq2 hs0 hlx
            go_wp2
            go_roundw
            case rel =>
              refine ⟨j + 1, by omega, by go_num, ?_, by first | rfl | trivial, ?_⟩
              · rw [HTK.out, HS0.out]; simp [Lx.quotesL]
              · intro y hy
                rw [HTK.out, List.mem_append] at hy
                rcases hy with hy | hy
                · exact HOK.out y hy
                · rw [List.mem_singleton] at hy; subst hy; exact ⟨by have := HM.out; omega, HNA.out⟩
            case measure => simp [intOf]; omega
    · have hje : j = n1 := by omega
      have htk : ls.take j = ls := by rw [List.take_of_length_le]; rw [HN.out]; omega
      have hok := HOK.out
      rw [htk] at hok ⊢
      have hjn1 : ¬ (j : Int) < (n1 : Int) := by omega
      obtain ⟨p, hp⟩ : ∃ p, p = Lx.quotesL ls := ⟨_, rfl⟩
      have hpl : p.length ≤ 4096 := by have := quotesL_short ls fun x hx => (hok x hx).1; rw [HN.out] at this; rw [hp]; omega
      have hal := all_v p hpl _ (HG.out.later HB1.out)
      have hq := Lx.all_quotes ls fun x hx => (hok x hx).2
      rw [← hp] at hq
      rw [hq] at hal
      have hql : (Lx.quotesT ls).length = n1 + 1 := by rw [Lx.quotesT_len, HN.out]
      obtain ⟨n2, hn2⟩ : ∃ n2, n2 = n1 + 1 := ⟨_, rfl⟩
      rw [← hn2] at hql
      have HAL := Lib.hid (show Calls Tryd.prog 16 #[.string (mkS p)] wr fun e W' => (∃ vt, e = .returned (.tuple #[vt, .int .i64 0, .int .i64 0]) ∧ W'.ownsRow wr.heap.size 33 4 vt n2 (cellsT (nl p) (Lx.quotesT ls))) ∧ Later wr W' from by rw [← hql]; exact hal)
      have HQL := Lib.hid hql
      have hwr : wrap64 ((n1 : Int) + 1) = (n2 : Int) := by unfold wrap64; omega
      have hwi : IntKind.i64.wrap ((n1 : Int) + 1) = (n2 : Int) := by rw [IntKind.wrap_i64]; omega
      rw [← hp]
      have hok60 := Lib.hid (show ∀ x ∈ ls, x.length ≤ 60 from fun x hx => (hok x hx).1)
      have HN2 := Lib.hid hn2
      have hz2 : n2 ≤ 21 := by omega
      clear hal hq hql hp hpl htk hok hn2
      go_wp2_with (first
        | (go_at_call 16; (with_reducible refine HAL.out.mono ?_); rintro e w2 ⟨⟨vt, rfl, ho⟩, hl2⟩; obtain ⟨ad2, c2, hv2, hc2⟩ := two_at ho HQL.out.symm (by have := HN2.out; omega); subst hv2; have HO2 := Lib.hid ho; have HL2 := Lib.hid (HB1.out.trans hl2); have HL12 := Lib.hid hl2; clear ho hl2))
      have HR2 := Lib.hid ((HR.out.below HL2.out).more HL2.out.size)
      go_loopw [10] (fun i wx => ∃ i' : Nat, i' ≤ n1 ∧ i = .int .i64 (i' : Int) ∧ Later w2 wx) (fun i _ => n1 - (intOf i).toNat)
      case atStart => exact ⟨0, by omega, rfl, Later.refl _⟩
      case round =>
        obtain ⟨i, hi, rfl, hlx⟩ := hrel
        have HLX := Lib.hid hlx
        have hat := toks_at (ts := Lx.quotesT ls) (by rw [HQL.out]; exact own_below HO2.out hlx)
        have hi0 : (0 : Int) ≤ (i : Int) := by omega
        clear hlx
        by_cases hin : i < n1
        · have HR3 := (HR2.out.below HLX.out).more HLX.out.size
          obtain ⟨ad, hA1, hil, hc⟩ := strs_at HR3 hin
          subst hA1
          obtain ⟨tn, htn⟩ := Lx.quotesT_at ls i ls[i] (List.getElem?_eq_getElem hil)
          obtain ⟨hq1, hq2⟩ := List.getElem?_eq_some_iff.1 htn
          have hti := hat i hq1
          rw [hq2] at hti
          have t0 : wr.cell? (ad2.add (i * 4)) = some (.int .i64 1) := hti.c0
          have t1 : wr.cell? ⟨(ad2.add (i * 4)).block, (ad2.add (i * 4)).off + 1, none⟩ = some (.string (mkS (39 :: ls[i] ++ [39]))) := hti.c1
          have hi1 : (i : Int) < (n1 : Int) := by omega
          have hi2 : (i : Int) < (n2 : Int) := by have := HN2.out; omega
          obtain ⟨x, hx⟩ : ∃ x, x = ls[i] := ⟨_, rfl⟩
          rw [← hx] at hc t1
          have hs60 := hok60.out x (by rw [hx]; exact List.getElem_mem _)
          obtain ⟨T, hT⟩ : ∃ T, T = 39 :: x ++ [39] := ⟨_, rfl⟩
          obtain ⟨q1, hq1⟩ : ∃ q1, q1 = mkS (39 :: x) := ⟨_, rfl⟩
          have a1 : (⟨#[39]⟩ : ByteArray) ++ mkS x = q1 := by rw [hq1]; exact mkS_add [39] x
          have a2 : q1 ++ (⟨#[39]⟩ : ByteArray) = mkS T := by rw [hq1, hT]; exact mkS_add (39 :: x) [39]
          have z1 : q1.size ≤ 70 := by rw [hq1, mkS_size, List.length_cons]; omega
          have z2 : (mkS x).size ≤ 70 := by rw [mkS_size]; omega
          have y1 : ¬ 9223372036854775807 < 1 + (mkS x).size := by omega
          have y2 : ¬ 9223372036854775807 < q1.size + 1 := by omega
          have e1 := str_selfn T
          rw [← hT] at t1
          clear htn hq1 hq2 hti hat hT hx hil hs60
          go_wp2
          go_quiet (fail)
          go_wp2
          go_roundw
          case rel => exact ⟨i + 1, by omega, by go_num, HLX.out.trans (Below.drewN _ _ _)⟩
          case measure => simp [intOf]; omega
        · have hie : i = n1 := by omega
          subst hie
          obtain ⟨hq1, hq2⟩ := List.getElem?_eq_some_iff.1 (Lx.quotesT_last ls)
          have hti := hat ls.length hq1
          rw [hq2, HN.out] at hti
          have t0 : wr.cell? (ad2.add (i * 4)) = some (.int .i64 4) := hti.c0
          have hi2 : (i : Int) < (n2 : Int) := by have := HN2.out; omega
          clear hti hat hq1 hq2
          go_wp2
          go_ret
          exact ⟨rfl, Later.trans HL2.out HLX.out⟩
theorem walk (w : World) (hg : Sgn w) (A1 : Option Addr) (n1 c1 : Nat) (l : List ByteArray) (h : Rd w w.heap.size A1 n1 (l.map Value.string) ∧ (∀ s ∈ l, s.size ≤ maxLen) ∧ n1 ≤ c1 ∧ c1 ≤ maxLen) :
    Calls Tryd.prog 6 #[.slice A1 n1 c1] w fun e w' => e = .returned (.bool true) ∧ Below w.heap.size w w' := by
  obtain ⟨ls, h1⟩ := strs_of h.1
  by_cases h20 : (20 : Int) < (n1 : Int)
  · exact walkX w hg A1 n1 c1 h20
  · exact walkM w hg A1 n1 c1 ls ⟨h1, h.2.2⟩ h20
end lexerQuotes
end Go.Proofs.YtnjabmacbgehlaaDoor
