/- GlobParts: the walk of its text. No premises. -/
import Derived.Test.YtjjkeajgcdminaaGPlaiW
namespace Go.Proofs.Ytjjkeajgcdminaa
open Go.RowKit Go.Maps
namespace Gl
/-- The part that is asked. -/
def partOf (d : Bool) (s : L) (k : Nat) : L := if d = true then s.drop (s.length - k) else s.take k
theorem qc_part {d : Bool} {g : List Sg} {s : L} {k : Nat} : QC d g s k ↔ k ≤ s.length ∧ tb g (partOf d s k) = true := by
  unfold QC partOf
  rw [tb_iff]
structure Ends (d l : Bool) (g : List Sg) (s : L) (n : Nat) (C : L) : Prop where
  le : n ≤ s.length
  cut : C = if d = true then s.take (s.length - n) else s.drop n
  len : C.length + n = s.length
  up : ∀ k, k ≤ s.length → tb g (partOf d s k) = true → if l = true then k ≤ n else n ≤ k
  here : 0 < n → tb g (partOf d s n) = true
theorem ends {d l : Bool} {g : List Sg} {s : L} {v : Option Nat} (h : Best l (QC d g s) v) : Ends d l g s (v.getD 0) (cutOf d s v) := by
  have hle : v.getD 0 ≤ s.length := by
    cases v with
    | none => exact Nat.zero_le _
    | some p => exact h.1.1
  refine ⟨hle, rfl, ?_, fun k hk ht => ?_, fun hn => ?_⟩
  · unfold cutOf
    split
    · rw [List.length_take]; omega
    · rw [List.length_drop]; omega
  · have hq : QC d g s k := qc_part.2 ⟨hk, ht⟩
    cases v with
    | none => exact absurd hq (h k)
    | some p => exact h.2 k hq
  · cases v with
    | none => exact absurd hn (by simp)
    | some p => exact (qc_part.1 h.1).2
def anyUp (d : Bool) (g : List Sg) (s : L) (n : Nat) : Bool := (List.range n).any fun k => tb g (partOf d s k)
theorem anyUp_next (d : Bool) (g : List Sg) (s : L) (n : Nat) : anyUp d g s (n + 1) = (anyUp d g s n || tb g (partOf d s n)) := by
  unfold anyUp
  rw [List.range_succ, List.any_append]
  simp
theorem anyUp_at {d : Bool} {g : List Sg} {s : L} {n k : Nat} (hk : k < n) (h : tb g (partOf d s k) = true) : anyUp d g s n = true := by
  unfold anyUp
  rw [List.any_eq_true]
  exact ⟨k, List.mem_range.2 hk, h⟩
end Gl
namespace globParts
open Gs
set_option maxRecDepth 100000 in
set_option maxHeartbeats 6400000 in
theorem walkL (s t m : L) (d l : Bool) (_hml : m.length ≤ maxLen) (w : World) : Calls Try.prog 6 #[.string (mkS s), .agg #[.string (mkS t), .string (mkS m)], .bool d, .bool l] w fun e w' => e = .returned (.bool true) ∧ Below w.heap.size w w' := by
  have HA := Lib.hid (fun W => awake_v W)
  have hsi : ((mkS s).size : Int) = (s.length : Int) := by rw [mkS_size]
  have hti : ((mkS t).size : Int) = (t.length : Int) := by rw [mkS_size]
  have HL := Lib.hid (Later.alloc w (.cells #[.string (mkS t), .string (mkS m)] 23))
  have HB := Lib.hid (Box.new w t m)
  by_cases h30 : (30 : Int) < (t.length : Int)
  · go_enter Try.func6, Try.ntmps6
    go_wp2_with (first
      | (go_at_call 8; (with_reducible refine (HA.out _).mono ?_); rintro e w1 ⟨rfl, hl1⟩; (have HL1 := Lib.hid (HL.out.trans hl1)); obtain ⟨c0, c1⟩ := (HB.out.later hl1).cells; clear hl1))
    go_ret
    exact ⟨rfl, HL1.out⟩
  · by_cases h60 : (60 : Int) < (s.length : Int)
    · go_enter Try.func6, Try.ntmps6
      go_wp2_with (first
        | (go_at_call 8; (with_reducible refine (HA.out _).mono ?_); rintro e w1 ⟨rfl, hl1⟩; (have HL1 := Lib.hid (HL.out.trans hl1)); obtain ⟨c0, c1⟩ := (HB.out.later hl1).cells; clear hl1))
      go_ret
      exact ⟨rfl, HL1.out⟩
    · have hs60 : s.length ≤ 60 := by omega
      have ht30 : t.length ≤ 30 := by omega
      have HCU := Lib.hid (fun W => Cut_v s t m d l W (by omega) (by omega))
      obtain ⟨g, hg⟩ : ∃ g, g = Gl.sgF t m 0 := ⟨_, rfl⟩
      have HM := Lib.hid (fun (x : L) (hx : x.length ≤ 100000) W => (by rw [hg]; exact Match_v t m x W (by omega) hx : Calls Try.prog 10 #[.agg #[.string (mkS t), .string (mkS m)], .string (mkS x)] W fun e w' => e = .returned (.bool (Gl.tb g x)) ∧ Later W w'))
      rw [← hg] at HCU
      clear hg
      cases d with
      | false =>
        cases l with
        | false =>
          have HE0 := HCU
          go_enter Try.func6, Try.ntmps6
          go_wp2_with (first
            | (go_at_call 8; (with_reducible refine (HA.out _).mono ?_); rintro e w1 ⟨rfl, hl1⟩; (have HL1 := Lib.hid (HL.out.trans hl1)); (have HB1 := Lib.hid (HB.out.later hl1)); obtain ⟨c0, c1⟩ := HB1.out.cells; clear hl1)
            | (go_at_call 14; (with_reducible refine (HCU.out _).mono ?_); rintro e w2 ⟨v, rfl, hv, hl2⟩; (have HE := Lib.hid (Gl.ends hv)); obtain ⟨C, hC⟩ : ∃ C, C = Gl.cutOf false s v := ⟨_, rfl⟩; obtain ⟨n, hn⟩ : ∃ n, n = v.getD 0 := ⟨_, rfl⟩; rw [← hC, ← hn] at HE; rw [← hC]; (have hcl := HE.out.len); (have hcs : ((mkS C).size : Int) = (C.length : Int) := by rw [mkS_size]); (have hnn : (s.length : Int) - (C.length : Int) = (n : Int) := by omega); (have hnl := HE.out.le); (have HL2 := Lib.hid (HL1.out.trans hl2)); (have HB2 := Lib.hid (HB1.out.later hl2)); clear hv hC hn hl2 hcl c0 c1))
          go_loopw [12, 13] (fun s12 s13 wr => ∃ k : Nat, s12 = .bool (Gl.anyUp false g s k) ∧ s13 = .int .i64 (k : Int) ∧ k ≤ s.length + 1 ∧ Box wr w.heap.size t m ∧ Later w wr) (fun _ i _ => s.length + 1 - (intOf i).toNat)
          case atStart => exact ⟨0, rfl, rfl, Nat.zero_le _, HB2.out, HL2.out⟩
          case round =>
            obtain ⟨k, rfl, rfl, hk, hbr, hlr⟩ := hrel
            obtain ⟨c0, c1⟩ := hbr.cells
            have HBR := Lib.hid hbr
            have HLR := Lib.hid hlr
            clear hbr hlr
            by_cases hks : k ≤ s.length
            · have hks2 : (k : Int) ≤ (s.length : Int) := by omega
              have hk0 : (0 : Int) ≤ (k : Int) := by omega
              have hk2 : (k : Int) ≤ ((mkS s).size : Int) := by omega
              have hmk : ∀ W, Calls Try.prog 10 #[.agg #[.string (mkS t), .string (mkS m)], .string ((mkS s).extract 0 k)] W fun e w' => e = .returned (.bool (Gl.tb g (Gl.partOf false s k))) ∧ Later W w' := fun W => by
                rw [take_text]
                exact HM.out _ (by rw [List.length_take]; omega) W
              cases hau : Gl.anyUp false g s k with
              | true =>
                have HAU := Lib.hid hau
                clear hau
                cases hM : Gl.tb g (Gl.partOf false s k) with
                | true =>
                  rw [hM] at hmk
                  have HMK := Lib.hid hmk
                  have HMK2 := Lib.hid hM
                  clear hmk
                  have hup := HE.out.up k hks hM
                  simp only [Bool.false_eq_true, if_false] at hup
                  have hup2 : ¬ ((k : Int) < (n : Int)) := by omega
                  clear hup
                  by_cases hkn : k = n
                  · subst hkn
                    by_cases hn0 : 0 < k
                    · clear hM
                      go_wp2_with (first
                        | (go_at_call 10; (with_reducible refine (HMK.out _).mono ?_); rintro e w5 ⟨rfl, hl5⟩; (have HL5 := Lib.hid (HLR.out.trans hl5)); (have HB5 := Lib.hid (HBR.out.later hl5)); obtain ⟨d0, d1⟩ := HB5.out.cells; clear hl5 c0 c1))
                      go_roundw
                      case rel => exact ⟨k + 1, by rw [Gl.anyUp_next, HAU.out, HMK2.out]; rfl, by go_num, by omega, HB5.out, HL5.out⟩
                      case measure => simp [intOf]; omega
                    · clear hM
                      go_wp2_with (first
                        | (go_at_call 10; (with_reducible refine (HMK.out _).mono ?_); rintro e w5 ⟨rfl, hl5⟩; (have HL5 := Lib.hid (HLR.out.trans hl5)); (have HB5 := Lib.hid (HBR.out.later hl5)); obtain ⟨d0, d1⟩ := HB5.out.cells; clear hl5 c0 c1))
                      go_roundw
                      case rel => exact ⟨k + 1, by rw [Gl.anyUp_next, HAU.out, HMK2.out]; rfl, by go_num, by omega, HB5.out, HL5.out⟩
                      case measure => simp [intOf]; omega
                  · have h1 : ((k : Int) == (n : Int)) = false := by simp; omega
                    have h2 : ¬ ((k : Int) = (n : Int)) := by omega
                    clear hM
                    go_wp2_with (first
                      | (go_at_call 10; (with_reducible refine (HMK.out _).mono ?_); rintro e w5 ⟨rfl, hl5⟩; (have HL5 := Lib.hid (HLR.out.trans hl5)); (have HB5 := Lib.hid (HBR.out.later hl5)); obtain ⟨d0, d1⟩ := HB5.out.cells; clear hl5 c0 c1))
                    go_roundw
                    case rel => exact ⟨k + 1, by rw [Gl.anyUp_next, HAU.out, HMK2.out]; rfl, by go_num, by omega, HB5.out, HL5.out⟩
                    case measure => simp [intOf]; omega
                | false =>
                  rw [hM] at hmk
                  have HMK := Lib.hid hmk
                  have HMK2 := Lib.hid hM
                  clear hmk
                  by_cases hkn : k = n
                  · subst hkn
                    by_cases hn0 : 0 < k
                    · have := HE.out.here hn0
                      rw [hM] at this
                      cases this
                    · clear hM
                      go_wp2_with (first
                        | (go_at_call 10; (with_reducible refine (HMK.out _).mono ?_); rintro e w5 ⟨rfl, hl5⟩; (have HL5 := Lib.hid (HLR.out.trans hl5)); (have HB5 := Lib.hid (HBR.out.later hl5)); obtain ⟨d0, d1⟩ := HB5.out.cells; clear hl5 c0 c1))
                      go_roundw
                      case rel => exact ⟨k + 1, by rw [Gl.anyUp_next, HAU.out, HMK2.out]; rfl, by go_num, by omega, HB5.out, HL5.out⟩
                      case measure => simp [intOf]; omega
                  · have h1 : ((k : Int) == (n : Int)) = false := by simp; omega
                    have h2 : ¬ ((k : Int) = (n : Int)) := by omega
                    clear hM
                    go_wp2_with (first
                      | (go_at_call 10; (with_reducible refine (HMK.out _).mono ?_); rintro e w5 ⟨rfl, hl5⟩; (have HL5 := Lib.hid (HLR.out.trans hl5)); (have HB5 := Lib.hid (HBR.out.later hl5)); obtain ⟨d0, d1⟩ := HB5.out.cells; clear hl5 c0 c1))
                    go_roundw
                    case rel => exact ⟨k + 1, by rw [Gl.anyUp_next, HAU.out, HMK2.out]; rfl, by go_num, by omega, HB5.out, HL5.out⟩
                    case measure => simp [intOf]; omega
              | false =>
                have HAU := Lib.hid hau
                clear hau
                cases hM : Gl.tb g (Gl.partOf false s k) with
                | true =>
                  rw [hM] at hmk
                  have HMK := Lib.hid hmk
                  have HMK2 := Lib.hid hM
                  clear hmk
                  have hup := HE.out.up k hks hM
                  simp only [Bool.false_eq_true, if_false] at hup
                  have hup2 : ¬ ((k : Int) < (n : Int)) := by omega
                  clear hup
                  by_cases hkn : k = n
                  · subst hkn
                    by_cases hn0 : 0 < k
                    · clear hM
                      go_wp2_with (first
                        | (go_at_call 10; (with_reducible refine (HMK.out _).mono ?_); rintro e w5 ⟨rfl, hl5⟩; (have HL5 := Lib.hid (HLR.out.trans hl5)); (have HB5 := Lib.hid (HBR.out.later hl5)); obtain ⟨d0, d1⟩ := HB5.out.cells; clear hl5 c0 c1))
                      go_roundw
                      case rel => exact ⟨k + 1, by rw [Gl.anyUp_next, HAU.out, HMK2.out]; rfl, by go_num, by omega, HB5.out, HL5.out⟩
                      case measure => simp [intOf]; omega
                    · clear hM
                      go_wp2_with (first
                        | (go_at_call 10; (with_reducible refine (HMK.out _).mono ?_); rintro e w5 ⟨rfl, hl5⟩; (have HL5 := Lib.hid (HLR.out.trans hl5)); (have HB5 := Lib.hid (HBR.out.later hl5)); obtain ⟨d0, d1⟩ := HB5.out.cells; clear hl5 c0 c1))
                      go_roundw
                      case rel => exact ⟨k + 1, by rw [Gl.anyUp_next, HAU.out, HMK2.out]; rfl, by go_num, by omega, HB5.out, HL5.out⟩
                      case measure => simp [intOf]; omega
                  · have h1 : ((k : Int) == (n : Int)) = false := by simp; omega
                    have h2 : ¬ ((k : Int) = (n : Int)) := by omega
                    clear hM
                    go_wp2_with (first
                      | (go_at_call 10; (with_reducible refine (HMK.out _).mono ?_); rintro e w5 ⟨rfl, hl5⟩; (have HL5 := Lib.hid (HLR.out.trans hl5)); (have HB5 := Lib.hid (HBR.out.later hl5)); obtain ⟨d0, d1⟩ := HB5.out.cells; clear hl5 c0 c1))
                    go_roundw
                    case rel => exact ⟨k + 1, by rw [Gl.anyUp_next, HAU.out, HMK2.out]; rfl, by go_num, by omega, HB5.out, HL5.out⟩
                    case measure => simp [intOf]; omega
                | false =>
                  rw [hM] at hmk
                  have HMK := Lib.hid hmk
                  have HMK2 := Lib.hid hM
                  clear hmk
                  by_cases hkn : k = n
                  · subst hkn
                    by_cases hn0 : 0 < k
                    · have := HE.out.here hn0
                      rw [hM] at this
                      cases this
                    · clear hM
                      go_wp2_with (first
                        | (go_at_call 10; (with_reducible refine (HMK.out _).mono ?_); rintro e w5 ⟨rfl, hl5⟩; (have HL5 := Lib.hid (HLR.out.trans hl5)); (have HB5 := Lib.hid (HBR.out.later hl5)); obtain ⟨d0, d1⟩ := HB5.out.cells; clear hl5 c0 c1))
                      go_roundw
                      case rel => exact ⟨k + 1, by rw [Gl.anyUp_next, HAU.out, HMK2.out]; rfl, by go_num, by omega, HB5.out, HL5.out⟩
                      case measure => simp [intOf]; omega
                  · have h1 : ((k : Int) == (n : Int)) = false := by simp; omega
                    have h2 : ¬ ((k : Int) = (n : Int)) := by omega
                    clear hM
                    go_wp2_with (first
                      | (go_at_call 10; (with_reducible refine (HMK.out _).mono ?_); rintro e w5 ⟨rfl, hl5⟩; (have HL5 := Lib.hid (HLR.out.trans hl5)); (have HB5 := Lib.hid (HBR.out.later hl5)); obtain ⟨d0, d1⟩ := HB5.out.cells; clear hl5 c0 c1))
                    go_roundw
                    case rel => exact ⟨k + 1, by rw [Gl.anyUp_next, HAU.out, HMK2.out]; rfl, by go_num, by omega, HB5.out, HL5.out⟩
                    case measure => simp [intOf]; omega
            · have hks2 : ¬ ((k : Int) ≤ (s.length : Int)) := by omega
              have hke : k = s.length + 1 := by omega
              have hn0 : (0 : Int) ≤ (n : Int) := by omega
              have hn1 : (n : Int) ≤ (s.length : Int) := by omega
              have hn2 : (n : Int) ≤ ((mkS s).size : Int) := by omega
              have hmx : max (n : Int) 0 = (n : Int) := by omega
              have hmn : min (n : Int) (s.length : Int) = (n : Int) := by omega
              have heq : ((mkS C).toList == ((mkS s).extract n (mkS s).size).toList) = true := by
                rw [drop_text, toList_mkS, toList_mkS, HE.out.cut]
                exact beq_self_eq_true _
              by_cases hnz : n = 0
              · have h2 : ((n : Int) == 0) = true := by simp [hnz]
                clear hnz
                cases hau : Gl.anyUp false g s k with
                | true =>
                  clear hau
                  go_wp2
                  go_ret
                  exact ⟨rfl, HLR.out⟩
                | false =>
                  clear hau
                  go_wp2
                  go_ret
                  exact ⟨rfl, HLR.out⟩
              · have hau : Gl.anyUp false g s k = true := Gl.anyUp_at (k := n) (by omega) (HE.out.here (by omega))
                have h2 : ((n : Int) == 0) = false := by simp; omega
                rw [hau]
                clear hau
                go_wp2
                go_ret
                exact ⟨rfl, HLR.out⟩
        | true =>
          have HE0 := HCU
          go_enter Try.func6, Try.ntmps6
          go_wp2_with (first
            | (go_at_call 8; (with_reducible refine (HA.out _).mono ?_); rintro e w1 ⟨rfl, hl1⟩; (have HL1 := Lib.hid (HL.out.trans hl1)); (have HB1 := Lib.hid (HB.out.later hl1)); obtain ⟨c0, c1⟩ := HB1.out.cells; clear hl1)
            | (go_at_call 14; (with_reducible refine (HCU.out _).mono ?_); rintro e w2 ⟨v, rfl, hv, hl2⟩; (have HE := Lib.hid (Gl.ends hv)); obtain ⟨C, hC⟩ : ∃ C, C = Gl.cutOf false s v := ⟨_, rfl⟩; obtain ⟨n, hn⟩ : ∃ n, n = v.getD 0 := ⟨_, rfl⟩; rw [← hC, ← hn] at HE; rw [← hC]; (have hcl := HE.out.len); (have hcs : ((mkS C).size : Int) = (C.length : Int) := by rw [mkS_size]); (have hnn : (s.length : Int) - (C.length : Int) = (n : Int) := by omega); (have hnl := HE.out.le); (have HL2 := Lib.hid (HL1.out.trans hl2)); (have HB2 := Lib.hid (HB1.out.later hl2)); clear hv hC hn hl2 hcl c0 c1))
          go_loopw [12, 13] (fun s12 s13 wr => ∃ k : Nat, s12 = .bool (Gl.anyUp false g s k) ∧ s13 = .int .i64 (k : Int) ∧ k ≤ s.length + 1 ∧ Box wr w.heap.size t m ∧ Later w wr) (fun _ i _ => s.length + 1 - (intOf i).toNat)
          case atStart => exact ⟨0, rfl, rfl, Nat.zero_le _, HB2.out, HL2.out⟩
          case round =>
            obtain ⟨k, rfl, rfl, hk, hbr, hlr⟩ := hrel
            obtain ⟨c0, c1⟩ := hbr.cells
            have HBR := Lib.hid hbr
            have HLR := Lib.hid hlr
            clear hbr hlr
            by_cases hks : k ≤ s.length
            · have hks2 : (k : Int) ≤ (s.length : Int) := by omega
              have hk0 : (0 : Int) ≤ (k : Int) := by omega
              have hk2 : (k : Int) ≤ ((mkS s).size : Int) := by omega
              have hmk : ∀ W, Calls Try.prog 10 #[.agg #[.string (mkS t), .string (mkS m)], .string ((mkS s).extract 0 k)] W fun e w' => e = .returned (.bool (Gl.tb g (Gl.partOf false s k))) ∧ Later W w' := fun W => by
                rw [take_text]
                exact HM.out _ (by rw [List.length_take]; omega) W
              cases hau : Gl.anyUp false g s k with
              | true =>
                have HAU := Lib.hid hau
                clear hau
                cases hM : Gl.tb g (Gl.partOf false s k) with
                | true =>
                  rw [hM] at hmk
                  have HMK := Lib.hid hmk
                  have HMK2 := Lib.hid hM
                  clear hmk
                  have hup := HE.out.up k hks hM
                  simp only [if_true] at hup
                  have hup2 : ¬ ((n : Int) < (k : Int)) := by omega
                  clear hup
                  by_cases hkn : k = n
                  · subst hkn
                    by_cases hn0 : 0 < k
                    · clear hM
                      go_wp2_with (first
                        | (go_at_call 10; (with_reducible refine (HMK.out _).mono ?_); rintro e w5 ⟨rfl, hl5⟩; (have HL5 := Lib.hid (HLR.out.trans hl5)); (have HB5 := Lib.hid (HBR.out.later hl5)); obtain ⟨d0, d1⟩ := HB5.out.cells; clear hl5 c0 c1))
                      go_roundw
                      case rel => exact ⟨k + 1, by rw [Gl.anyUp_next, HAU.out, HMK2.out]; rfl, by go_num, by omega, HB5.out, HL5.out⟩
                      case measure => simp [intOf]; omega
                    · clear hM
                      go_wp2_with (first
                        | (go_at_call 10; (with_reducible refine (HMK.out _).mono ?_); rintro e w5 ⟨rfl, hl5⟩; (have HL5 := Lib.hid (HLR.out.trans hl5)); (have HB5 := Lib.hid (HBR.out.later hl5)); obtain ⟨d0, d1⟩ := HB5.out.cells; clear hl5 c0 c1))
                      go_roundw
                      case rel => exact ⟨k + 1, by rw [Gl.anyUp_next, HAU.out, HMK2.out]; rfl, by go_num, by omega, HB5.out, HL5.out⟩
                      case measure => simp [intOf]; omega
                  · have h1 : ((k : Int) == (n : Int)) = false := by simp; omega
                    have h2 : ¬ ((k : Int) = (n : Int)) := by omega
                    clear hM
                    go_wp2_with (first
                      | (go_at_call 10; (with_reducible refine (HMK.out _).mono ?_); rintro e w5 ⟨rfl, hl5⟩; (have HL5 := Lib.hid (HLR.out.trans hl5)); (have HB5 := Lib.hid (HBR.out.later hl5)); obtain ⟨d0, d1⟩ := HB5.out.cells; clear hl5 c0 c1))
                    go_roundw
                    case rel => exact ⟨k + 1, by rw [Gl.anyUp_next, HAU.out, HMK2.out]; rfl, by go_num, by omega, HB5.out, HL5.out⟩
                    case measure => simp [intOf]; omega
                | false =>
                  rw [hM] at hmk
                  have HMK := Lib.hid hmk
                  have HMK2 := Lib.hid hM
                  clear hmk
                  by_cases hkn : k = n
                  · subst hkn
                    by_cases hn0 : 0 < k
                    · have := HE.out.here hn0
                      rw [hM] at this
                      cases this
                    · clear hM
                      go_wp2_with (first
                        | (go_at_call 10; (with_reducible refine (HMK.out _).mono ?_); rintro e w5 ⟨rfl, hl5⟩; (have HL5 := Lib.hid (HLR.out.trans hl5)); (have HB5 := Lib.hid (HBR.out.later hl5)); obtain ⟨d0, d1⟩ := HB5.out.cells; clear hl5 c0 c1))
                      go_roundw
                      case rel => exact ⟨k + 1, by rw [Gl.anyUp_next, HAU.out, HMK2.out]; rfl, by go_num, by omega, HB5.out, HL5.out⟩
                      case measure => simp [intOf]; omega
                  · have h1 : ((k : Int) == (n : Int)) = false := by simp; omega
                    have h2 : ¬ ((k : Int) = (n : Int)) := by omega
                    clear hM
                    go_wp2_with (first
                      | (go_at_call 10; (with_reducible refine (HMK.out _).mono ?_); rintro e w5 ⟨rfl, hl5⟩; (have HL5 := Lib.hid (HLR.out.trans hl5)); (have HB5 := Lib.hid (HBR.out.later hl5)); obtain ⟨d0, d1⟩ := HB5.out.cells; clear hl5 c0 c1))
                    go_roundw
                    case rel => exact ⟨k + 1, by rw [Gl.anyUp_next, HAU.out, HMK2.out]; rfl, by go_num, by omega, HB5.out, HL5.out⟩
                    case measure => simp [intOf]; omega
              | false =>
                have HAU := Lib.hid hau
                clear hau
                cases hM : Gl.tb g (Gl.partOf false s k) with
                | true =>
                  rw [hM] at hmk
                  have HMK := Lib.hid hmk
                  have HMK2 := Lib.hid hM
                  clear hmk
                  have hup := HE.out.up k hks hM
                  simp only [if_true] at hup
                  have hup2 : ¬ ((n : Int) < (k : Int)) := by omega
                  clear hup
                  by_cases hkn : k = n
                  · subst hkn
                    by_cases hn0 : 0 < k
                    · clear hM
                      go_wp2_with (first
                        | (go_at_call 10; (with_reducible refine (HMK.out _).mono ?_); rintro e w5 ⟨rfl, hl5⟩; (have HL5 := Lib.hid (HLR.out.trans hl5)); (have HB5 := Lib.hid (HBR.out.later hl5)); obtain ⟨d0, d1⟩ := HB5.out.cells; clear hl5 c0 c1))
                      go_roundw
                      case rel => exact ⟨k + 1, by rw [Gl.anyUp_next, HAU.out, HMK2.out]; rfl, by go_num, by omega, HB5.out, HL5.out⟩
                      case measure => simp [intOf]; omega
                    · clear hM
                      go_wp2_with (first
                        | (go_at_call 10; (with_reducible refine (HMK.out _).mono ?_); rintro e w5 ⟨rfl, hl5⟩; (have HL5 := Lib.hid (HLR.out.trans hl5)); (have HB5 := Lib.hid (HBR.out.later hl5)); obtain ⟨d0, d1⟩ := HB5.out.cells; clear hl5 c0 c1))
                      go_roundw
                      case rel => exact ⟨k + 1, by rw [Gl.anyUp_next, HAU.out, HMK2.out]; rfl, by go_num, by omega, HB5.out, HL5.out⟩
                      case measure => simp [intOf]; omega
                  · have h1 : ((k : Int) == (n : Int)) = false := by simp; omega
                    have h2 : ¬ ((k : Int) = (n : Int)) := by omega
                    clear hM
                    go_wp2_with (first
                      | (go_at_call 10; (with_reducible refine (HMK.out _).mono ?_); rintro e w5 ⟨rfl, hl5⟩; (have HL5 := Lib.hid (HLR.out.trans hl5)); (have HB5 := Lib.hid (HBR.out.later hl5)); obtain ⟨d0, d1⟩ := HB5.out.cells; clear hl5 c0 c1))
                    go_roundw
                    case rel => exact ⟨k + 1, by rw [Gl.anyUp_next, HAU.out, HMK2.out]; rfl, by go_num, by omega, HB5.out, HL5.out⟩
                    case measure => simp [intOf]; omega
                | false =>
                  rw [hM] at hmk
                  have HMK := Lib.hid hmk
                  have HMK2 := Lib.hid hM
                  clear hmk
                  by_cases hkn : k = n
                  · subst hkn
                    by_cases hn0 : 0 < k
                    · have := HE.out.here hn0
                      rw [hM] at this
                      cases this
                    · clear hM
                      go_wp2_with (first
                        | (go_at_call 10; (with_reducible refine (HMK.out _).mono ?_); rintro e w5 ⟨rfl, hl5⟩; (have HL5 := Lib.hid (HLR.out.trans hl5)); (have HB5 := Lib.hid (HBR.out.later hl5)); obtain ⟨d0, d1⟩ := HB5.out.cells; clear hl5 c0 c1))
                      go_roundw
                      case rel => exact ⟨k + 1, by rw [Gl.anyUp_next, HAU.out, HMK2.out]; rfl, by go_num, by omega, HB5.out, HL5.out⟩
                      case measure => simp [intOf]; omega
                  · have h1 : ((k : Int) == (n : Int)) = false := by simp; omega
                    have h2 : ¬ ((k : Int) = (n : Int)) := by omega
                    clear hM
                    go_wp2_with (first
                      | (go_at_call 10; (with_reducible refine (HMK.out _).mono ?_); rintro e w5 ⟨rfl, hl5⟩; (have HL5 := Lib.hid (HLR.out.trans hl5)); (have HB5 := Lib.hid (HBR.out.later hl5)); obtain ⟨d0, d1⟩ := HB5.out.cells; clear hl5 c0 c1))
                    go_roundw
                    case rel => exact ⟨k + 1, by rw [Gl.anyUp_next, HAU.out, HMK2.out]; rfl, by go_num, by omega, HB5.out, HL5.out⟩
                    case measure => simp [intOf]; omega
            · have hks2 : ¬ ((k : Int) ≤ (s.length : Int)) := by omega
              have hke : k = s.length + 1 := by omega
              have hn0 : (0 : Int) ≤ (n : Int) := by omega
              have hn1 : (n : Int) ≤ (s.length : Int) := by omega
              have hn2 : (n : Int) ≤ ((mkS s).size : Int) := by omega
              have hmx : max (n : Int) 0 = (n : Int) := by omega
              have hmn : min (n : Int) (s.length : Int) = (n : Int) := by omega
              have heq : ((mkS C).toList == ((mkS s).extract n (mkS s).size).toList) = true := by
                rw [drop_text, toList_mkS, toList_mkS, HE.out.cut]
                exact beq_self_eq_true _
              by_cases hnz : n = 0
              · have h2 : ((n : Int) == 0) = true := by simp [hnz]
                clear hnz
                cases hau : Gl.anyUp false g s k with
                | true =>
                  clear hau
                  go_wp2
                  go_ret
                  exact ⟨rfl, HLR.out⟩
                | false =>
                  clear hau
                  go_wp2
                  go_ret
                  exact ⟨rfl, HLR.out⟩
              · have hau : Gl.anyUp false g s k = true := Gl.anyUp_at (k := n) (by omega) (HE.out.here (by omega))
                have h2 : ((n : Int) == 0) = false := by simp; omega
                rw [hau]
                clear hau
                go_wp2
                go_ret
                exact ⟨rfl, HLR.out⟩
      | true =>
        cases l with
        | false =>
          have HE0 := HCU
          go_enter Try.func6, Try.ntmps6
          go_wp2_with (first
            | (go_at_call 8; (with_reducible refine (HA.out _).mono ?_); rintro e w1 ⟨rfl, hl1⟩; (have HL1 := Lib.hid (HL.out.trans hl1)); (have HB1 := Lib.hid (HB.out.later hl1)); obtain ⟨c0, c1⟩ := HB1.out.cells; clear hl1)
            | (go_at_call 14; (with_reducible refine (HCU.out _).mono ?_); rintro e w2 ⟨v, rfl, hv, hl2⟩; (have HE := Lib.hid (Gl.ends hv)); obtain ⟨C, hC⟩ : ∃ C, C = Gl.cutOf true s v := ⟨_, rfl⟩; obtain ⟨n, hn⟩ : ∃ n, n = v.getD 0 := ⟨_, rfl⟩; rw [← hC, ← hn] at HE; rw [← hC]; (have hcl := HE.out.len); (have hcs : ((mkS C).size : Int) = (C.length : Int) := by rw [mkS_size]); (have hnn : (s.length : Int) - (C.length : Int) = (n : Int) := by omega); (have hnl := HE.out.le); (have HL2 := Lib.hid (HL1.out.trans hl2)); (have HB2 := Lib.hid (HB1.out.later hl2)); clear hv hC hn hl2 hcl c0 c1))
          go_loopw [12, 13] (fun s12 s13 wr => ∃ k : Nat, s12 = .bool (Gl.anyUp true g s k) ∧ s13 = .int .i64 (k : Int) ∧ k ≤ s.length + 1 ∧ Box wr w.heap.size t m ∧ Later w wr) (fun _ i _ => s.length + 1 - (intOf i).toNat)
          case atStart => exact ⟨0, rfl, rfl, Nat.zero_le _, HB2.out, HL2.out⟩
          case round =>
            obtain ⟨k, rfl, rfl, hk, hbr, hlr⟩ := hrel
            obtain ⟨c0, c1⟩ := hbr.cells
            have HBR := Lib.hid hbr
            have HLR := Lib.hid hlr
            clear hbr hlr
            by_cases hks : k ≤ s.length
            · have hks2 : (k : Int) ≤ (s.length : Int) := by omega
              have hk0 : (0 : Int) ≤ (k : Int) := by omega
              obtain ⟨p, hp⟩ : ∃ p, p = s.length - k := ⟨_, rfl⟩
              have hpi : (s.length : Int) - (k : Int) = (p : Int) := by omega
              have hp0 : (0 : Int) ≤ (p : Int) := by omega
              have hp1 : (p : Int) ≤ (s.length : Int) := by omega
              have hp2 : (p : Int) ≤ ((mkS s).size : Int) := by omega
              have hmk : ∀ W, Calls Try.prog 10 #[.agg #[.string (mkS t), .string (mkS m)], .string ((mkS s).extract p (mkS s).size)] W fun e w' => e = .returned (.bool (Gl.tb g (Gl.partOf true s k))) ∧ Later W w' := fun W => by
                rw [drop_text, hp]
                exact HM.out _ (by rw [List.length_drop]; omega) W
              clear hp
              cases hau : Gl.anyUp true g s k with
              | true =>
                have HAU := Lib.hid hau
                clear hau
                cases hM : Gl.tb g (Gl.partOf true s k) with
                | true =>
                  rw [hM] at hmk
                  have HMK := Lib.hid hmk
                  have HMK2 := Lib.hid hM
                  clear hmk
                  have hup := HE.out.up k hks hM
                  simp only [Bool.false_eq_true, if_false] at hup
                  have hup2 : ¬ ((k : Int) < (n : Int)) := by omega
                  clear hup
                  by_cases hkn : k = n
                  · subst hkn
                    by_cases hn0 : 0 < k
                    · clear hM
                      go_wp2_with (first
                        | (go_at_call 10; (with_reducible refine (HMK.out _).mono ?_); rintro e w5 ⟨rfl, hl5⟩; (have HL5 := Lib.hid (HLR.out.trans hl5)); (have HB5 := Lib.hid (HBR.out.later hl5)); obtain ⟨d0, d1⟩ := HB5.out.cells; clear hl5 c0 c1))
                      go_roundw
                      case rel => exact ⟨k + 1, by rw [Gl.anyUp_next, HAU.out, HMK2.out]; rfl, by go_num, by omega, HB5.out, HL5.out⟩
                      case measure => simp [intOf]; omega
                    · clear hM
                      go_wp2_with (first
                        | (go_at_call 10; (with_reducible refine (HMK.out _).mono ?_); rintro e w5 ⟨rfl, hl5⟩; (have HL5 := Lib.hid (HLR.out.trans hl5)); (have HB5 := Lib.hid (HBR.out.later hl5)); obtain ⟨d0, d1⟩ := HB5.out.cells; clear hl5 c0 c1))
                      go_roundw
                      case rel => exact ⟨k + 1, by rw [Gl.anyUp_next, HAU.out, HMK2.out]; rfl, by go_num, by omega, HB5.out, HL5.out⟩
                      case measure => simp [intOf]; omega
                  · have h1 : ((k : Int) == (n : Int)) = false := by simp; omega
                    have h2 : ¬ ((k : Int) = (n : Int)) := by omega
                    clear hM
                    go_wp2_with (first
                      | (go_at_call 10; (with_reducible refine (HMK.out _).mono ?_); rintro e w5 ⟨rfl, hl5⟩; (have HL5 := Lib.hid (HLR.out.trans hl5)); (have HB5 := Lib.hid (HBR.out.later hl5)); obtain ⟨d0, d1⟩ := HB5.out.cells; clear hl5 c0 c1))
                    go_roundw
                    case rel => exact ⟨k + 1, by rw [Gl.anyUp_next, HAU.out, HMK2.out]; rfl, by go_num, by omega, HB5.out, HL5.out⟩
                    case measure => simp [intOf]; omega
                | false =>
                  rw [hM] at hmk
                  have HMK := Lib.hid hmk
                  have HMK2 := Lib.hid hM
                  clear hmk
                  by_cases hkn : k = n
                  · subst hkn
                    by_cases hn0 : 0 < k
                    · have := HE.out.here hn0
                      rw [hM] at this
                      cases this
                    · clear hM
                      go_wp2_with (first
                        | (go_at_call 10; (with_reducible refine (HMK.out _).mono ?_); rintro e w5 ⟨rfl, hl5⟩; (have HL5 := Lib.hid (HLR.out.trans hl5)); (have HB5 := Lib.hid (HBR.out.later hl5)); obtain ⟨d0, d1⟩ := HB5.out.cells; clear hl5 c0 c1))
                      go_roundw
                      case rel => exact ⟨k + 1, by rw [Gl.anyUp_next, HAU.out, HMK2.out]; rfl, by go_num, by omega, HB5.out, HL5.out⟩
                      case measure => simp [intOf]; omega
                  · have h1 : ((k : Int) == (n : Int)) = false := by simp; omega
                    have h2 : ¬ ((k : Int) = (n : Int)) := by omega
                    clear hM
                    go_wp2_with (first
                      | (go_at_call 10; (with_reducible refine (HMK.out _).mono ?_); rintro e w5 ⟨rfl, hl5⟩; (have HL5 := Lib.hid (HLR.out.trans hl5)); (have HB5 := Lib.hid (HBR.out.later hl5)); obtain ⟨d0, d1⟩ := HB5.out.cells; clear hl5 c0 c1))
                    go_roundw
                    case rel => exact ⟨k + 1, by rw [Gl.anyUp_next, HAU.out, HMK2.out]; rfl, by go_num, by omega, HB5.out, HL5.out⟩
                    case measure => simp [intOf]; omega
              | false =>
                have HAU := Lib.hid hau
                clear hau
                cases hM : Gl.tb g (Gl.partOf true s k) with
                | true =>
                  rw [hM] at hmk
                  have HMK := Lib.hid hmk
                  have HMK2 := Lib.hid hM
                  clear hmk
                  have hup := HE.out.up k hks hM
                  simp only [Bool.false_eq_true, if_false] at hup
                  have hup2 : ¬ ((k : Int) < (n : Int)) := by omega
                  clear hup
                  by_cases hkn : k = n
                  · subst hkn
                    by_cases hn0 : 0 < k
                    · clear hM
                      go_wp2_with (first
                        | (go_at_call 10; (with_reducible refine (HMK.out _).mono ?_); rintro e w5 ⟨rfl, hl5⟩; (have HL5 := Lib.hid (HLR.out.trans hl5)); (have HB5 := Lib.hid (HBR.out.later hl5)); obtain ⟨d0, d1⟩ := HB5.out.cells; clear hl5 c0 c1))
                      go_roundw
                      case rel => exact ⟨k + 1, by rw [Gl.anyUp_next, HAU.out, HMK2.out]; rfl, by go_num, by omega, HB5.out, HL5.out⟩
                      case measure => simp [intOf]; omega
                    · clear hM
                      go_wp2_with (first
                        | (go_at_call 10; (with_reducible refine (HMK.out _).mono ?_); rintro e w5 ⟨rfl, hl5⟩; (have HL5 := Lib.hid (HLR.out.trans hl5)); (have HB5 := Lib.hid (HBR.out.later hl5)); obtain ⟨d0, d1⟩ := HB5.out.cells; clear hl5 c0 c1))
                      go_roundw
                      case rel => exact ⟨k + 1, by rw [Gl.anyUp_next, HAU.out, HMK2.out]; rfl, by go_num, by omega, HB5.out, HL5.out⟩
                      case measure => simp [intOf]; omega
                  · have h1 : ((k : Int) == (n : Int)) = false := by simp; omega
                    have h2 : ¬ ((k : Int) = (n : Int)) := by omega
                    clear hM
                    go_wp2_with (first
                      | (go_at_call 10; (with_reducible refine (HMK.out _).mono ?_); rintro e w5 ⟨rfl, hl5⟩; (have HL5 := Lib.hid (HLR.out.trans hl5)); (have HB5 := Lib.hid (HBR.out.later hl5)); obtain ⟨d0, d1⟩ := HB5.out.cells; clear hl5 c0 c1))
                    go_roundw
                    case rel => exact ⟨k + 1, by rw [Gl.anyUp_next, HAU.out, HMK2.out]; rfl, by go_num, by omega, HB5.out, HL5.out⟩
                    case measure => simp [intOf]; omega
                | false =>
                  rw [hM] at hmk
                  have HMK := Lib.hid hmk
                  have HMK2 := Lib.hid hM
                  clear hmk
                  by_cases hkn : k = n
                  · subst hkn
                    by_cases hn0 : 0 < k
                    · have := HE.out.here hn0
                      rw [hM] at this
                      cases this
                    · clear hM
                      go_wp2_with (first
                        | (go_at_call 10; (with_reducible refine (HMK.out _).mono ?_); rintro e w5 ⟨rfl, hl5⟩; (have HL5 := Lib.hid (HLR.out.trans hl5)); (have HB5 := Lib.hid (HBR.out.later hl5)); obtain ⟨d0, d1⟩ := HB5.out.cells; clear hl5 c0 c1))
                      go_roundw
                      case rel => exact ⟨k + 1, by rw [Gl.anyUp_next, HAU.out, HMK2.out]; rfl, by go_num, by omega, HB5.out, HL5.out⟩
                      case measure => simp [intOf]; omega
                  · have h1 : ((k : Int) == (n : Int)) = false := by simp; omega
                    have h2 : ¬ ((k : Int) = (n : Int)) := by omega
                    clear hM
                    go_wp2_with (first
                      | (go_at_call 10; (with_reducible refine (HMK.out _).mono ?_); rintro e w5 ⟨rfl, hl5⟩; (have HL5 := Lib.hid (HLR.out.trans hl5)); (have HB5 := Lib.hid (HBR.out.later hl5)); obtain ⟨d0, d1⟩ := HB5.out.cells; clear hl5 c0 c1))
                    go_roundw
                    case rel => exact ⟨k + 1, by rw [Gl.anyUp_next, HAU.out, HMK2.out]; rfl, by go_num, by omega, HB5.out, HL5.out⟩
                    case measure => simp [intOf]; omega
            · have hks2 : ¬ ((k : Int) ≤ (s.length : Int)) := by omega
              have hke : k = s.length + 1 := by omega
              have hn0 : (0 : Int) ≤ (n : Int) := by omega
              have hn1 : (n : Int) ≤ (s.length : Int) := by omega
              have hn2 : (n : Int) ≤ ((mkS s).size : Int) := by omega
              have hmx : max (n : Int) 0 = (n : Int) := by omega
              have hmn : min (n : Int) (s.length : Int) = (n : Int) := by omega
              obtain ⟨p, hp⟩ : ∃ p, p = s.length - n := ⟨_, rfl⟩
              have hpi : (s.length : Int) - (n : Int) = (p : Int) := by omega
              have hp0 : (0 : Int) ≤ (p : Int) := by omega
              have hp1 : (p : Int) ≤ (s.length : Int) := by omega
              have hp2 : (p : Int) ≤ ((mkS s).size : Int) := by omega
              have hpx : max (p : Int) 0 = (p : Int) := by omega
              have heq : ((mkS C).toList == ((mkS s).extract 0 p).toList) = true := by
                rw [take_text, toList_mkS, toList_mkS, HE.out.cut, hp]
                exact beq_self_eq_true _
              clear hp
              by_cases hnz : n = 0
              · have h2 : ((n : Int) == 0) = true := by simp [hnz]
                clear hnz
                cases hau : Gl.anyUp true g s k with
                | true =>
                  clear hau
                  go_wp2
                  go_ret
                  exact ⟨rfl, HLR.out⟩
                | false =>
                  clear hau
                  go_wp2
                  go_ret
                  exact ⟨rfl, HLR.out⟩
              · have hau : Gl.anyUp true g s k = true := Gl.anyUp_at (k := n) (by omega) (HE.out.here (by omega))
                have h2 : ((n : Int) == 0) = false := by simp; omega
                rw [hau]
                clear hau
                go_wp2
                go_ret
                exact ⟨rfl, HLR.out⟩
        | true =>
          have HE0 := HCU
          go_enter Try.func6, Try.ntmps6
          go_wp2_with (first
            | (go_at_call 8; (with_reducible refine (HA.out _).mono ?_); rintro e w1 ⟨rfl, hl1⟩; (have HL1 := Lib.hid (HL.out.trans hl1)); (have HB1 := Lib.hid (HB.out.later hl1)); obtain ⟨c0, c1⟩ := HB1.out.cells; clear hl1)
            | (go_at_call 14; (with_reducible refine (HCU.out _).mono ?_); rintro e w2 ⟨v, rfl, hv, hl2⟩; (have HE := Lib.hid (Gl.ends hv)); obtain ⟨C, hC⟩ : ∃ C, C = Gl.cutOf true s v := ⟨_, rfl⟩; obtain ⟨n, hn⟩ : ∃ n, n = v.getD 0 := ⟨_, rfl⟩; rw [← hC, ← hn] at HE; rw [← hC]; (have hcl := HE.out.len); (have hcs : ((mkS C).size : Int) = (C.length : Int) := by rw [mkS_size]); (have hnn : (s.length : Int) - (C.length : Int) = (n : Int) := by omega); (have hnl := HE.out.le); (have HL2 := Lib.hid (HL1.out.trans hl2)); (have HB2 := Lib.hid (HB1.out.later hl2)); clear hv hC hn hl2 hcl c0 c1))
          go_loopw [12, 13] (fun s12 s13 wr => ∃ k : Nat, s12 = .bool (Gl.anyUp true g s k) ∧ s13 = .int .i64 (k : Int) ∧ k ≤ s.length + 1 ∧ Box wr w.heap.size t m ∧ Later w wr) (fun _ i _ => s.length + 1 - (intOf i).toNat)
          case atStart => exact ⟨0, rfl, rfl, Nat.zero_le _, HB2.out, HL2.out⟩
          case round =>
            obtain ⟨k, rfl, rfl, hk, hbr, hlr⟩ := hrel
            obtain ⟨c0, c1⟩ := hbr.cells
            have HBR := Lib.hid hbr
            have HLR := Lib.hid hlr
            clear hbr hlr
            by_cases hks : k ≤ s.length
            · have hks2 : (k : Int) ≤ (s.length : Int) := by omega
              have hk0 : (0 : Int) ≤ (k : Int) := by omega
              obtain ⟨p, hp⟩ : ∃ p, p = s.length - k := ⟨_, rfl⟩
              have hpi : (s.length : Int) - (k : Int) = (p : Int) := by omega
              have hp0 : (0 : Int) ≤ (p : Int) := by omega
              have hp1 : (p : Int) ≤ (s.length : Int) := by omega
              have hp2 : (p : Int) ≤ ((mkS s).size : Int) := by omega
              have hmk : ∀ W, Calls Try.prog 10 #[.agg #[.string (mkS t), .string (mkS m)], .string ((mkS s).extract p (mkS s).size)] W fun e w' => e = .returned (.bool (Gl.tb g (Gl.partOf true s k))) ∧ Later W w' := fun W => by
                rw [drop_text, hp]
                exact HM.out _ (by rw [List.length_drop]; omega) W
              clear hp
              cases hau : Gl.anyUp true g s k with
              | true =>
                have HAU := Lib.hid hau
                clear hau
                cases hM : Gl.tb g (Gl.partOf true s k) with
                | true =>
                  rw [hM] at hmk
                  have HMK := Lib.hid hmk
                  have HMK2 := Lib.hid hM
                  clear hmk
                  have hup := HE.out.up k hks hM
                  simp only [if_true] at hup
                  have hup2 : ¬ ((n : Int) < (k : Int)) := by omega
                  clear hup
                  by_cases hkn : k = n
                  · subst hkn
                    by_cases hn0 : 0 < k
                    · clear hM
                      go_wp2_with (first
                        | (go_at_call 10; (with_reducible refine (HMK.out _).mono ?_); rintro e w5 ⟨rfl, hl5⟩; (have HL5 := Lib.hid (HLR.out.trans hl5)); (have HB5 := Lib.hid (HBR.out.later hl5)); obtain ⟨d0, d1⟩ := HB5.out.cells; clear hl5 c0 c1))
                      go_roundw
                      case rel => exact ⟨k + 1, by rw [Gl.anyUp_next, HAU.out, HMK2.out]; rfl, by go_num, by omega, HB5.out, HL5.out⟩
                      case measure => simp [intOf]; omega
                    · clear hM
                      go_wp2_with (first
                        | (go_at_call 10; (with_reducible refine (HMK.out _).mono ?_); rintro e w5 ⟨rfl, hl5⟩; (have HL5 := Lib.hid (HLR.out.trans hl5)); (have HB5 := Lib.hid (HBR.out.later hl5)); obtain ⟨d0, d1⟩ := HB5.out.cells; clear hl5 c0 c1))
                      go_roundw
                      case rel => exact ⟨k + 1, by rw [Gl.anyUp_next, HAU.out, HMK2.out]; rfl, by go_num, by omega, HB5.out, HL5.out⟩
                      case measure => simp [intOf]; omega
                  · have h1 : ((k : Int) == (n : Int)) = false := by simp; omega
                    have h2 : ¬ ((k : Int) = (n : Int)) := by omega
                    clear hM
                    go_wp2_with (first
                      | (go_at_call 10; (with_reducible refine (HMK.out _).mono ?_); rintro e w5 ⟨rfl, hl5⟩; (have HL5 := Lib.hid (HLR.out.trans hl5)); (have HB5 := Lib.hid (HBR.out.later hl5)); obtain ⟨d0, d1⟩ := HB5.out.cells; clear hl5 c0 c1))
                    go_roundw
                    case rel => exact ⟨k + 1, by rw [Gl.anyUp_next, HAU.out, HMK2.out]; rfl, by go_num, by omega, HB5.out, HL5.out⟩
                    case measure => simp [intOf]; omega
                | false =>
                  rw [hM] at hmk
                  have HMK := Lib.hid hmk
                  have HMK2 := Lib.hid hM
                  clear hmk
                  by_cases hkn : k = n
                  · subst hkn
                    by_cases hn0 : 0 < k
                    · have := HE.out.here hn0
                      rw [hM] at this
                      cases this
                    · clear hM
                      go_wp2_with (first
                        | (go_at_call 10; (with_reducible refine (HMK.out _).mono ?_); rintro e w5 ⟨rfl, hl5⟩; (have HL5 := Lib.hid (HLR.out.trans hl5)); (have HB5 := Lib.hid (HBR.out.later hl5)); obtain ⟨d0, d1⟩ := HB5.out.cells; clear hl5 c0 c1))
                      go_roundw
                      case rel => exact ⟨k + 1, by rw [Gl.anyUp_next, HAU.out, HMK2.out]; rfl, by go_num, by omega, HB5.out, HL5.out⟩
                      case measure => simp [intOf]; omega
                  · have h1 : ((k : Int) == (n : Int)) = false := by simp; omega
                    have h2 : ¬ ((k : Int) = (n : Int)) := by omega
                    clear hM
                    go_wp2_with (first
                      | (go_at_call 10; (with_reducible refine (HMK.out _).mono ?_); rintro e w5 ⟨rfl, hl5⟩; (have HL5 := Lib.hid (HLR.out.trans hl5)); (have HB5 := Lib.hid (HBR.out.later hl5)); obtain ⟨d0, d1⟩ := HB5.out.cells; clear hl5 c0 c1))
                    go_roundw
                    case rel => exact ⟨k + 1, by rw [Gl.anyUp_next, HAU.out, HMK2.out]; rfl, by go_num, by omega, HB5.out, HL5.out⟩
                    case measure => simp [intOf]; omega
              | false =>
                have HAU := Lib.hid hau
                clear hau
                cases hM : Gl.tb g (Gl.partOf true s k) with
                | true =>
                  rw [hM] at hmk
                  have HMK := Lib.hid hmk
                  have HMK2 := Lib.hid hM
                  clear hmk
                  have hup := HE.out.up k hks hM
                  simp only [if_true] at hup
                  have hup2 : ¬ ((n : Int) < (k : Int)) := by omega
                  clear hup
                  by_cases hkn : k = n
                  · subst hkn
                    by_cases hn0 : 0 < k
                    · clear hM
                      go_wp2_with (first
                        | (go_at_call 10; (with_reducible refine (HMK.out _).mono ?_); rintro e w5 ⟨rfl, hl5⟩; (have HL5 := Lib.hid (HLR.out.trans hl5)); (have HB5 := Lib.hid (HBR.out.later hl5)); obtain ⟨d0, d1⟩ := HB5.out.cells; clear hl5 c0 c1))
                      go_roundw
                      case rel => exact ⟨k + 1, by rw [Gl.anyUp_next, HAU.out, HMK2.out]; rfl, by go_num, by omega, HB5.out, HL5.out⟩
                      case measure => simp [intOf]; omega
                    · clear hM
                      go_wp2_with (first
                        | (go_at_call 10; (with_reducible refine (HMK.out _).mono ?_); rintro e w5 ⟨rfl, hl5⟩; (have HL5 := Lib.hid (HLR.out.trans hl5)); (have HB5 := Lib.hid (HBR.out.later hl5)); obtain ⟨d0, d1⟩ := HB5.out.cells; clear hl5 c0 c1))
                      go_roundw
                      case rel => exact ⟨k + 1, by rw [Gl.anyUp_next, HAU.out, HMK2.out]; rfl, by go_num, by omega, HB5.out, HL5.out⟩
                      case measure => simp [intOf]; omega
                  · have h1 : ((k : Int) == (n : Int)) = false := by simp; omega
                    have h2 : ¬ ((k : Int) = (n : Int)) := by omega
                    clear hM
                    go_wp2_with (first
                      | (go_at_call 10; (with_reducible refine (HMK.out _).mono ?_); rintro e w5 ⟨rfl, hl5⟩; (have HL5 := Lib.hid (HLR.out.trans hl5)); (have HB5 := Lib.hid (HBR.out.later hl5)); obtain ⟨d0, d1⟩ := HB5.out.cells; clear hl5 c0 c1))
                    go_roundw
                    case rel => exact ⟨k + 1, by rw [Gl.anyUp_next, HAU.out, HMK2.out]; rfl, by go_num, by omega, HB5.out, HL5.out⟩
                    case measure => simp [intOf]; omega
                | false =>
                  rw [hM] at hmk
                  have HMK := Lib.hid hmk
                  have HMK2 := Lib.hid hM
                  clear hmk
                  by_cases hkn : k = n
                  · subst hkn
                    by_cases hn0 : 0 < k
                    · have := HE.out.here hn0
                      rw [hM] at this
                      cases this
                    · clear hM
                      go_wp2_with (first
                        | (go_at_call 10; (with_reducible refine (HMK.out _).mono ?_); rintro e w5 ⟨rfl, hl5⟩; (have HL5 := Lib.hid (HLR.out.trans hl5)); (have HB5 := Lib.hid (HBR.out.later hl5)); obtain ⟨d0, d1⟩ := HB5.out.cells; clear hl5 c0 c1))
                      go_roundw
                      case rel => exact ⟨k + 1, by rw [Gl.anyUp_next, HAU.out, HMK2.out]; rfl, by go_num, by omega, HB5.out, HL5.out⟩
                      case measure => simp [intOf]; omega
                  · have h1 : ((k : Int) == (n : Int)) = false := by simp; omega
                    have h2 : ¬ ((k : Int) = (n : Int)) := by omega
                    clear hM
                    go_wp2_with (first
                      | (go_at_call 10; (with_reducible refine (HMK.out _).mono ?_); rintro e w5 ⟨rfl, hl5⟩; (have HL5 := Lib.hid (HLR.out.trans hl5)); (have HB5 := Lib.hid (HBR.out.later hl5)); obtain ⟨d0, d1⟩ := HB5.out.cells; clear hl5 c0 c1))
                    go_roundw
                    case rel => exact ⟨k + 1, by rw [Gl.anyUp_next, HAU.out, HMK2.out]; rfl, by go_num, by omega, HB5.out, HL5.out⟩
                    case measure => simp [intOf]; omega
            · have hks2 : ¬ ((k : Int) ≤ (s.length : Int)) := by omega
              have hke : k = s.length + 1 := by omega
              have hn0 : (0 : Int) ≤ (n : Int) := by omega
              have hn1 : (n : Int) ≤ (s.length : Int) := by omega
              have hn2 : (n : Int) ≤ ((mkS s).size : Int) := by omega
              have hmx : max (n : Int) 0 = (n : Int) := by omega
              have hmn : min (n : Int) (s.length : Int) = (n : Int) := by omega
              obtain ⟨p, hp⟩ : ∃ p, p = s.length - n := ⟨_, rfl⟩
              have hpi : (s.length : Int) - (n : Int) = (p : Int) := by omega
              have hp0 : (0 : Int) ≤ (p : Int) := by omega
              have hp1 : (p : Int) ≤ (s.length : Int) := by omega
              have hp2 : (p : Int) ≤ ((mkS s).size : Int) := by omega
              have hpx : max (p : Int) 0 = (p : Int) := by omega
              have heq : ((mkS C).toList == ((mkS s).extract 0 p).toList) = true := by
                rw [take_text, toList_mkS, toList_mkS, HE.out.cut, hp]
                exact beq_self_eq_true _
              clear hp
              by_cases hnz : n = 0
              · have h2 : ((n : Int) == 0) = true := by simp [hnz]
                clear hnz
                cases hau : Gl.anyUp true g s k with
                | true =>
                  clear hau
                  go_wp2
                  go_ret
                  exact ⟨rfl, HLR.out⟩
                | false =>
                  clear hau
                  go_wp2
                  go_ret
                  exact ⟨rfl, HLR.out⟩
              · have hau : Gl.anyUp true g s k = true := Gl.anyUp_at (k := n) (by omega) (HE.out.here (by omega))
                have h2 : ((n : Int) == 0) = false := by simp; omega
                rw [hau]
                clear hau
                go_wp2
                go_ret
                exact ⟨rfl, HLR.out⟩
theorem walk (w : World) (s : ByteArray) (_ : s.size ≤ maxLen) (t : ByteArray) (_ : t.size ≤ maxLen) (m : ByteArray) (hm : m.size ≤ maxLen) (d : Bool) (_ : True) (l : Bool) (_ : True) : Calls Try.prog 6 #[.string s, .agg #[.string t, .string m], .bool d, .bool l] w fun e w' => e = .returned (.bool true) ∧ Below w.heap.size w w' := by
  have := walkL s.data.toList t.data.toList m.data.toList d l hm w
  rwa [mkS_of, mkS_of, mkS_of] at this
end globParts
end Go.Proofs.Ytjjkeajgcdminaa
