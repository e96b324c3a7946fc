/- GlobPlain: the walk of its text. No premises. -/
import Derived.Test.YtjjkeajgcdminaaGu
namespace Go.Proofs.Ytjjkeajgcdminaa
open Go.RowKit Go.Maps
theorem array_2 {cs : Array Value} (h : cs.size = 2) : ∃ a b, cs = #[a, b] := by
  obtain ⟨l⟩ := cs
  match l, h with
  | [a, b], _ => exact ⟨a, b, rfl⟩
namespace Gl
def hasAt (s t : L) (k : Nat) : Bool := (t.drop k).take s.length == s
def hasUp (s t : L) (n : Nat) : Bool := (List.range n).any (hasAt s t)
theorem hasUp_next (s t : L) (n : Nat) : hasUp s t (n + 1) = (hasUp s t n || hasAt s t n) := by
  unfold hasUp
  rw [List.range_succ, List.any_append]
  simp
theorem quoted (s q : L) (hq : q = List.replicate s.length 113) (m : L) : sgF (s ++ m) q 0 = s.map .lit ++ sgF (s ++ m) q s.length := by
  have := sgF_lits (t := s ++ m) (m := q) s.length 0 (by simp) (fun j _ hj => by rw [hq, List.getElem?_replicate, if_pos (by omega)])
  rw [this]
  simp
theorem star_end (t m : L) (i : Nat) (hi : i + 1 = t.length) (h : isAt t m i 42 = true) : sgF t m i = [.star] := by
  have hl := isAt_lt h
  rw [sgF_at hl, show sgAt t m i = (.star, i + 1) by unfold sgAt; rw [h]; rfl]
  simp only
  rw [sgF_end (by omega)]
theorem plain_q (s q : L) (hq : q = List.replicate s.length 113) : sgF s q 0 = s.map .lit := by
  have := quoted s q hq []
  rw [List.append_nil] at this
  rw [this, sgF_end (Nat.le_refl _), List.append_nil]
theorem begin_q (s q : L) (hq : q = List.replicate s.length 113) : sgF (s ++ [42]) q 0 = s.map .lit ++ [.star] := by
  rw [quoted s q hq [42]]
  congr 1
  refine star_end _ _ _ (by simp) ?_
  unfold isAt
  rw [List.getElem?_append_right (Nat.le_refl _), Nat.sub_self, List.getElem?_eq_none (l := q) (by rw [hq]; simp)]
  rfl
theorem has_q (s q : L) (hq : q = List.replicate s.length 113) : sgF (42 :: (s ++ [42])) (108 :: q) 0 = .star :: (s.map .lit ++ [.star]) := by
  have h0 : isAt (42 :: (s ++ [42])) (108 :: q) 0 42 = true := rfl
  rw [sgF_at (by simp), show sgAt (42 :: (s ++ [42])) (108 :: q) 0 = (.star, 1) by unfold sgAt; rw [h0]; rfl]
  simp only
  have h1 := sgF_lits (t := 42 :: (s ++ [42])) (m := 108 :: q) s.length 1 (by simp; omega) (fun j h1 hj => by
    obtain ⟨i, rfl⟩ : ∃ i, j = i + 1 := ⟨j - 1, by omega⟩
    rw [List.getElem?_cons_succ, hq, List.getElem?_replicate, if_pos (by omega)])
  rw [h1]
  simp only [List.drop_succ_cons, List.drop_zero, List.take_left]
  congr 2
  refine star_end _ _ _ (by simp; omega) ?_
  unfold isAt
  rw [Nat.add_comm 1, List.getElem?_cons_succ, List.getElem?_cons_succ, List.getElem?_append_right (Nat.le_refl _), Nat.sub_self, List.getElem?_eq_none (l := q) (by rw [hq]; simp)]
  rfl
theorem tb_beq {g : List Sg} {s : L} {b : Bool} (h : Tells g s ↔ b = true) : tb g s = b := by
  rw [Bool.eq_iff_iff, tb_iff, h]
theorem has_iff (s t : L) (N : Nat) (hN : N = t.length + 1 - s.length) : Tells (.star :: (s.map Sg.lit ++ [.star])) t ↔ hasUp s t N = true := by
  rw [tells_has]
  unfold hasUp hasAt
  rw [List.any_eq_true]
  constructor
  · rintro ⟨k, h1, h2⟩
    exact ⟨k, by rw [List.mem_range]; omega, by rw [h2]; exact beq_self_eq_true _⟩
  · rintro ⟨k, h1, h2⟩
    rw [List.mem_range] at h1
    exact ⟨k, by omega, by simpa using h2⟩
end Gl
/-- A part of a text. -/
theorem slice_str (t : L) (a b : Nat) (h : a ≤ b) (hb : b ≤ t.length) : ∀ w, (Instr.slice 9 (.string (mkS t)) (some (.int .i64 (a : Int))) (some (.int .i64 (b : Int))) none).run Try.prog w = .ok (.string (mkS ((t.drop a).take (b - a)))) w := fun w => by
  have e : (mkS t).extract a b = mkS ((t.drop a).take (b - a)) := by
    apply ByteArray.ext
    simp [mkS]
  rw [← e]
  simp [Instr.slice, Instr.sliceBounds, Instr.sliceBound, go_sem, run_underlying Try.underlying9, show b ≤ (mkS t).size by rw [mkS_size]; exact hb, h]
theorem slice_sum (t : L) (a n : Nat) (h : a + n ≤ t.length) : ∀ w, (Instr.slice 9 (.string (mkS t)) (some (.int .i64 (a : Int))) (some (.int .i64 ((a : Int) + (n : Int)))) none).run Try.prog w = .ok (.string (mkS ((t.drop a).take n))) w := fun w => by
  have := slice_str t a (a + n) (by omega) h w
  rw [Nat.add_sub_cancel_left, Int.natCast_add] at this
  exact this
namespace globPlain
open Gs
set_option maxRecDepth 100000 in
set_option maxHeartbeats 3200000 in
theorem walkL (s t : L) (w : World) : Calls Try.prog 5 #[.string (mkS s), .string (mkS t)] w fun e w' => e = .returned (.bool true) ∧ Below w.heap.size w w' := by
  have HA := Lib.hid (awake_v w)
  have hsi : ((mkS s).size : Int) = (s.length : Int) := by rw [mkS_size]
  have hti : ((mkS t).size : Int) = (t.length : Int) := by rw [mkS_size]
  by_cases h30 : (30 : Int) < (s.length : Int)
  · go_enter Try.func5, Try.ntmps5
    go_wp2_with (first
      | (go_at_call 8; (with_reducible refine HA.out.mono ?_); rintro e w1 ⟨rfl, hl1⟩; (have HL1 := Lib.hid hl1); clear hl1))
    go_ret
    exact ⟨rfl, HL1.out⟩
  · by_cases h60 : (60 : Int) < (t.length : Int)
    · go_enter Try.func5, Try.ntmps5
      go_wp2_with (first
        | (go_at_call 8; (with_reducible refine HA.out.mono ?_); rintro e w1 ⟨rfl, hl1⟩; (have HL1 := Lib.hid hl1); clear hl1))
      go_ret
      exact ⟨rfl, HL1.out⟩
    · have hs30 : s.length ≤ 30 := by omega
      have ht60 : t.length ≤ 60 := by omega
      go_enter Try.func5, Try.ntmps5
      go_wp2_with (first
        | (go_at_call 8; (with_reducible refine HA.out.mono ?_); rintro e w1 ⟨rfl, hl1⟩; (have HL1 := Lib.hid hl1); clear hl1))
      go_loopw [6, 7] (fun s6 s7 wr => ∃ k : Nat, s6 = .string (mkS (List.replicate k 113)) ∧ s7 = .int .i64 (k : Int) ∧ k ≤ s.length ∧ wr = w1) (fun _ i _ => s.length - (intOf i).toNat)
      case atStart => exact ⟨0, rfl, rfl, Nat.zero_le _, rfl⟩
      case round =>
        obtain ⟨k, rfl, rfl, hk, hw⟩ := hrel
        subst hw
        by_cases hks : k < s.length
        · have hks2 : (k : Int) < (s.length : Int) := by omega
          have hqz : (mkS (List.replicate k 113)).size ≤ 70 := by rw [mkS_size]; simp; omega
          go_wp2_with fail
          go_roundw
          case rel => exact ⟨k + 1, by rw [show (⟨#[113]⟩ : ByteArray) = mkS [113] from rfl, mkS_add, List.replicate_succ'], by go_num, by omega, trivial⟩
          case measure => simp [intOf]; omega
        · have hks2 : ¬ ((k : Int) < (s.length : Int)) := by omega
          have hke : k = s.length := by omega
          obtain ⟨q, hq⟩ : ∃ q : L, q = List.replicate s.length 113 := ⟨_, rfl⟩
          rw [hke, ← hq]
          obtain ⟨b1, hb1⟩ : ∃ b1, b1 = (decide (s.length ≤ t.length) && (t.take s.length == s)) := ⟨_, rfl⟩
          have HQ := Lib.hid hq
          have HB1 := Lib.hid hb1
          clear hq
          have hqz : (mkS q).size ≤ 70 := by rw [mkS_size, HQ.out]; simp; omega
          have hsz : (mkS s).size ≤ 70 := by rw [mkS_size]; omega
          obtain ⟨N, hN⟩ : ∃ N, N = t.length + 1 - s.length := ⟨_, rfl⟩
          have HN := Lib.hid hN
          obtain ⟨p1, hp1⟩ : ∃ p1, p1 = ((mkS s).toList == (mkS t).toList) := ⟨_, rfl⟩
          have hM0 : ∀ W, Calls Try.prog 12 #[.agg #[.string (mkS s), .string (mkS q)]] W fun e w' => e = .returned (.bool true) ∧ Later W w' := fun W => by
            have := Plain_v s q W (by omega)
            rwa [Gl.plain_q s q HQ.out, show (s.map Gl.Sg.lit).all Gl.isLit = true by rw [List.all_map, List.all_eq_true]; exact fun _ _ => rfl] at this
          have hM1 : ∀ W, Calls Try.prog 10 #[.agg #[.string (mkS s), .string (mkS q)], .string (mkS t)] W fun e w' => e = .returned (.bool p1) ∧ Later W w' := fun W => by
            have := Match_v s q t W (by omega) (by omega)
            rwa [Gl.plain_q s q HQ.out, Gl.tb_beq (b := p1) (by rw [Gl.tells_lits, hp1, toList_mkS, toList_mkS, beq_iff_eq])] at this
          have hM2 : ∀ W, Calls Try.prog 10 #[.agg #[.string (mkS s ++ ⟨#[42]⟩), .string (mkS q)], .string (mkS t)] W fun e w' => e = .returned (.bool b1) ∧ Later W w' := fun W => by
            have := Match_v (s ++ [42]) q t W (by simp; omega) (by omega)
            rw [Gl.begin_q s q HQ.out, Gl.tb_beq (b := b1) (by rw [Gl.tells_begins, HB1.out]; simp)] at this
            rw [show (⟨#[42]⟩ : ByteArray) = mkS [42] from rfl, mkS_add]
            exact this
          have hM3 : ∀ W, Calls Try.prog 10 #[.agg #[.string (⟨#[42]⟩ ++ mkS s ++ ⟨#[42]⟩), .string (⟨#[108]⟩ ++ mkS q)], .string (mkS t)] W fun e w' => e = .returned (.bool (Gl.hasUp s t N)) ∧ Later W w' := fun W => by
            have := Match_v (42 :: (s ++ [42])) (108 :: q) t W (by simp; omega) (by omega)
            rw [Gl.has_q s q HQ.out, Gl.tb_beq (b := Gl.hasUp s t N) (Gl.has_iff s t N hN)] at this
            rw [show (⟨#[42]⟩ : ByteArray) = mkS [42] from rfl, show (⟨#[108]⟩ : ByteArray) = mkS [108] from rfl, mkS_add, mkS_add, mkS_add]
            exact this
          have HM0 := Lib.hid hM0
          have HM1 := Lib.hid hM1
          have HM2 := Lib.hid hM2
          have HM3 := Lib.hid hM3
          have hp1' : ((mkS s).toList == (mkS t).toList) = p1 := hp1.symm
          clear hN hM0 hM1 hM2 hM3 hp1
          by_cases hst : s.length ≤ t.length
          · have hst2 : (s.length : Int) ≤ (t.length : Int) := by omega
            have hb1' : (((mkS t).extract 0 s.length).toList == (mkS s).toList) = b1 := by
              rw [take_text, toList_mkS, toList_mkS, hb1, decide_eq_true hst, Bool.true_and]
            clear hb1
            go_wp2_with fail
            go_loopw [9, 10] (fun s9 s10 wq => ∃ j : Nat, s9 = .bool (Gl.hasUp s t j) ∧ s10 = .int .i64 (j : Int) ∧ j ≤ N ∧ wq = wr) (fun _ i _ => N - (intOf i).toNat)
            case atStart => exact ⟨0, rfl, rfl, Nat.zero_le _, rfl⟩
            case round =>
              obtain ⟨j, rfl, rfl, hj, hw⟩ := hrel
              subst hw
              by_cases hjN : j < N
              · have hj2 : (j : Int) + (s.length : Int) ≤ (t.length : Int) := by have := HN.out; omega
                have hj3 : ¬ (9223372036854775807 < (j : Int) + (s.length : Int)) := by omega
                cases hh : Gl.hasUp s t j with
                | true =>
                  have HH := Lib.hid hh
                  clear hh
                  go_wp2_with fail
                  go_roundw
                  case rel => exact ⟨j + 1, by rw [Gl.hasUp_next, HH.out]; rfl, by go_num, by omega, trivial⟩
                  case measure => simp [intOf]; omega
                | false =>
                  have HH := Lib.hid hh
                  have hat : ((mkS ((t.drop j).take s.length)).toList == (mkS s).toList) = Gl.hasAt s t j := by
                    rw [toList_mkS, toList_mkS]
                    rfl
                  have hsl := slice_sum t j s.length (by omega)
                  clear hh
                  go_wp2_with fail
                  go_roundw
                  case rel => exact ⟨j + 1, by rw [Gl.hasUp_next, HH.out]; rfl, by go_num, by omega, trivial⟩
                  case measure => simp [intOf]; omega
              · have hj2 : ¬ ((j : Int) + (s.length : Int) ≤ (t.length : Int)) := by have := HN.out; omega
                have hje : j = N := by omega
                rw [hje]
                have hjn := HN.out
                have hj2 : ¬ ((N : Int) + (s.length : Int) ≤ (t.length : Int)) := by omega
                obtain ⟨b2, hb2⟩ : ∃ b2, b2 = Gl.hasUp s t N := ⟨_, rfl⟩
                rw [← hb2] at HM3 ⊢
                have hN9 : (N : Int) ≤ 100 := by omega
                clear hb2 hjn hje
                go_wp2_with (first
                  | (go_at_call 12; (with_reducible refine (HM0.out _).mono ?_); rintro e w2 ⟨rfl, hl2⟩; (have HL2 := Lib.hid (HL1.out.trans (Later.trans (Later.alloc _ _) hl2))); (have HP2 := Lib.hid (later_cells hl2 (heap_alloc_new wr (.cells #[.string (mkS s), .string (mkS q)] 23)))); obtain ⟨c0, _⟩ := cell_row HP2.out 0; obtain ⟨c1, _⟩ := cell_row HP2.out 1; clear hl2)
                  | (go_at_call 10; (with_reducible refine (HM1.out _).mono ?_); rintro e w3 ⟨rfl, hl3⟩; (have HL3 := Lib.hid (HL2.out.trans hl3)); clear hl3 c0 c1)
                  | (go_at_call 10; (with_reducible refine (HM2.out _).mono ?_); rintro e w4 ⟨rfl, hl4⟩; (have HL4 := Lib.hid (HL3.out.trans hl4)); clear hl4)
                  | (go_at_call 10; (with_reducible refine (HM3.out _).mono ?_); rintro e w5 ⟨rfl, hl5⟩; (have HL5 := Lib.hid (HL4.out.trans hl5)); clear hl5))
                go_ret
                exact ⟨rfl, HL5.out⟩
          · have hst2 : ¬ ((s.length : Int) ≤ (t.length : Int)) := by omega
            have hb1' : b1 = false := by rw [hb1, decide_eq_false hst, Bool.false_and]
            subst hb1'
            clear hb1
            go_wp2_with fail
            go_loopw [9, 10] (fun s9 s10 wq => ∃ j : Nat, s9 = .bool (Gl.hasUp s t j) ∧ s10 = .int .i64 (j : Int) ∧ j ≤ N ∧ wq = wr) (fun _ i _ => N - (intOf i).toNat)
            case atStart => exact ⟨0, rfl, rfl, Nat.zero_le _, rfl⟩
            case round =>
              obtain ⟨j, rfl, rfl, hj, hw⟩ := hrel
              subst hw
              by_cases hjN : j < N
              · have hj2 : (j : Int) + (s.length : Int) ≤ (t.length : Int) := by have := HN.out; omega
                have hj3 : ¬ (9223372036854775807 < (j : Int) + (s.length : Int)) := by omega
                cases hh : Gl.hasUp s t j with
                | true =>
                  have HH := Lib.hid hh
                  clear hh
                  go_wp2_with fail
                  go_roundw
                  case rel => exact ⟨j + 1, by rw [Gl.hasUp_next, HH.out]; rfl, by go_num, by omega, trivial⟩
                  case measure => simp [intOf]; omega
                | false =>
                  have HH := Lib.hid hh
                  have hat : ((mkS ((t.drop j).take s.length)).toList == (mkS s).toList) = Gl.hasAt s t j := by
                    rw [toList_mkS, toList_mkS]
                    rfl
                  have hsl := slice_sum t j s.length (by omega)
                  clear hh
                  go_wp2_with fail
                  go_roundw
                  case rel => exact ⟨j + 1, by rw [Gl.hasUp_next, HH.out]; rfl, by go_num, by omega, trivial⟩
                  case measure => simp [intOf]; omega
              · have hj2 : ¬ ((j : Int) + (s.length : Int) ≤ (t.length : Int)) := by have := HN.out; omega
                have hje : j = N := by omega
                rw [hje]
                have hjn := HN.out
                have hj2 : ¬ ((N : Int) + (s.length : Int) ≤ (t.length : Int)) := by omega
                obtain ⟨b2, hb2⟩ : ∃ b2, b2 = Gl.hasUp s t N := ⟨_, rfl⟩
                rw [← hb2] at HM3 ⊢
                have hN9 : (N : Int) ≤ 100 := by omega
                clear hb2 hjn hje
                go_wp2_with (first
                  | (go_at_call 12; (with_reducible refine (HM0.out _).mono ?_); rintro e w2 ⟨rfl, hl2⟩; (have HL2 := Lib.hid (HL1.out.trans (Later.trans (Later.alloc _ _) hl2))); (have HP2 := Lib.hid (later_cells hl2 (heap_alloc_new wr (.cells #[.string (mkS s), .string (mkS q)] 23)))); obtain ⟨c0, _⟩ := cell_row HP2.out 0; obtain ⟨c1, _⟩ := cell_row HP2.out 1; clear hl2)
                  | (go_at_call 10; (with_reducible refine (HM1.out _).mono ?_); rintro e w3 ⟨rfl, hl3⟩; (have HL3 := Lib.hid (HL2.out.trans hl3)); clear hl3 c0 c1)
                  | (go_at_call 10; (with_reducible refine (HM2.out _).mono ?_); rintro e w4 ⟨rfl, hl4⟩; (have HL4 := Lib.hid (HL3.out.trans hl4)); clear hl4)
                  | (go_at_call 10; (with_reducible refine (HM3.out _).mono ?_); rintro e w5 ⟨rfl, hl5⟩; (have HL5 := Lib.hid (HL4.out.trans hl5)); clear hl5))
                go_ret
                exact ⟨rfl, HL5.out⟩
theorem walk (w : World) (s : ByteArray) (_ : s.size ≤ maxLen) (t : ByteArray) (_ : t.size ≤ maxLen) : Calls Try.prog 5 #[.string s, .string t] w fun e w' => e = .returned (.bool true) ∧ Below w.heap.size w w' := by
  have := walkL s.data.toList t.data.toList w
  rwa [mkS_of, mkS_of] at this
end globPlain
end Go.Proofs.Ytjjkeajgcdminaa
