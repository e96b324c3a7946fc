/- find: where a run stands. No premises. -/
import Derived.Test.YtdfnbanbofnabaaDoorGj
namespace Go.Proofs.YtdfnbanbofnabaaDoor
open Go.RowKit Go.Maps
namespace Gs
/-- A place, or -1. -/
def ov : Option Nat → Int
  | none => -1
  | some k => (k : Int)
theorem best_no {l : Bool} {p : Nat → Prop} (h : ∀ n, ¬ p n) : Gl.Best l p none := h
set_option maxRecDepth 100000 in
set_option maxHeartbeats 1600000 in
theorem find_v (g : List Gl.Sg) (s : L) (l : Bool) (A : Option Addr) (n c : Nat) (w : World) (hg : RdS w A n g) (hn : n ≤ 100000) (hs : s.length ≤ 100000) : Calls Tryd.prog 29 #[.slice A n c, .string (mkS s), .bool l] w fun e w' => ∃ v, e = .returned (.int .i64 (ov v)) ∧ Gl.Best l (Gl.Occ g s) v ∧ Later w w' := by
  have hst : (mkS s).size = s.length := mkS_size s
  have hgl := hg.len
  have HB := Lib.hid (fun (k : Nat) (W : World) (h : RdS W A n g) => (by rw [drop_text]; exact begins_v g (s.drop k) A n c W h hn (by rw [List.length_drop]; omega) : Calls Tryd.prog 28 #[.slice A n c, .string ((mkS s).extract k (mkS s).size)] W fun e w' => e = .returned (.bool (Gl.bg g (s.drop k))) ∧ Later W w'))
  have HG := Lib.hid hg
  have HGL := Lib.hid hgl
  have HS := Lib.hid hst
  have hsi : ((mkS s).size : Int) = (s.length : Int) := by omega
  clear hg hgl hst
  cases l with
  | false =>
    obtain ⟨N, hN⟩ : ∃ N, N = s.length + 1 - n := ⟨_, rfl⟩
    have HN := Lib.hid hN
    clear hN
    go_enter Tryd.func29, Tryd.ntmps29
    go_wp2_with fail
    go_loopw [17] (fun i wr => ∃ k : Nat, i = .int .i64 (k : Int) ∧ k ≤ N ∧ (∀ j, j < k → ¬ Gl.Occ g s j) ∧ Later w wr) (fun i _ => N - (intOf i).toNat)
    case atStart => exact ⟨0, rfl, Nat.zero_le _, fun j h => by omega, Later.refl _⟩
    case round =>
      obtain ⟨k, rfl, hk, hj, hlr⟩ := hrel
      by_cases hkn : k < N
      · have hkn2 : (k : Int) < (s.length : Int) - (n : Int) + 1 := by have := HN.out; omega
        obtain ⟨p, hp⟩ : ∃ p, p = k := ⟨_, rfl⟩
        have hpi : (k : Int) = (p : Int) := by have := HN.out; omega
        have hp0 : (0 : Int) ≤ (p : Int) := by omega
        have hp1 : (p : Int) ≤ ((mkS s).size : Int) := by have := HN.out; have := HS.out; omega
        have hp2 : (p : Int) ≤ (s.length : Int) := by have := HN.out; have := HS.out; omega
        have hcon := HB.out p wr (HG.out.later hlr)
        have HJ := Lib.hid hj
        have HLR := Lib.hid hlr
        have HP := Lib.hid hp
        clear hj hlr hp
        cases hb : Gl.bg g (s.drop p) with
        | true =>
          rw [hb] at hcon
          have HC := Lib.hid hcon
          have HBT := Lib.hid hb
          clear hcon hb
          go_wp2_with (first
            | (go_at_call 28; (with_reducible refine HC.out.mono ?_); rintro e w3 ⟨rfl, hl3⟩; (have HL3 := Lib.hid (HLR.out.trans hl3)); clear hl3))
          go_ret
          refine ⟨some p, rfl, ⟨⟨by have := HN.out; have := HP.out; have := HGL.out; omega, HBT.out⟩, fun m hm => ?_⟩, HL3.out⟩
          have h1 := hm.1
          have h3 := HGL.out
          have h4 := HP.out
          have h5 := HN.out
          simp only [Bool.false_eq_true, if_false]
          by_cases e : p ≤ m
          · exact e
          · exact absurd hm (HJ.out m (by omega))
        | false =>
          rw [hb] at hcon
          have HC := Lib.hid hcon
          have HBT := Lib.hid hb
          clear hcon hb
          go_wp2_with (first
            | (go_at_call 28; (with_reducible refine HC.out.mono ?_); rintro e w3 ⟨rfl, hl3⟩; (have HL3 := Lib.hid (HLR.out.trans hl3)); clear hl3))
          go_roundw
          case rel =>
            refine ⟨k + 1, by go_num, by omega, fun j hj => ?_, HL3.out⟩
            by_cases e : j = p
            · rw [e]
              intro ho
              have h1 := HBT.out
              rw [ho.2] at h1
              cases h1
            · intro ho
              have h1 := ho.1
              have h3 := HGL.out
              have h4 := HP.out
              have h5 := HN.out
              exact HJ.out j (by omega) ho
          case measure => simp [intOf]; omega
      · have hkn2 : ¬ ((k : Int) < (s.length : Int) - (n : Int) + 1) := by have := HN.out; omega
        have HJ := Lib.hid hj
        have HLR := Lib.hid hlr
        clear hj hlr
        go_wp2
        go_ret
        refine ⟨none, rfl, fun j hj => ?_, HLR.out⟩
        have h1 := hj.1
        have h3 := HGL.out
        have h5 := HN.out
        exact HJ.out j (by omega) hj
  | true =>
    obtain ⟨N, hN⟩ : ∃ N, N = s.length + 1 - n := ⟨_, rfl⟩
    have HN := Lib.hid hN
    clear hN
    go_enter Tryd.func29, Tryd.ntmps29
    go_wp2_with fail
    go_loopw [17] (fun i wr => ∃ k : Nat, i = .int .i64 (k : Int) ∧ k ≤ N ∧ (∀ j, N ≤ k + j → ¬ Gl.Occ g s j) ∧ Later w wr) (fun i _ => N - (intOf i).toNat)
    case atStart => exact ⟨0, rfl, Nat.zero_le _, fun j h => by exact fun ho => by (have h1 := ho.1; have h3 := HGL.out; have h5 := HN.out; omega), Later.refl _⟩
    case round =>
      obtain ⟨k, rfl, hk, hj, hlr⟩ := hrel
      by_cases hkn : k < N
      · have hkn2 : (k : Int) < (s.length : Int) - (n : Int) + 1 := by have := HN.out; omega
        obtain ⟨p, hp⟩ : ∃ p, p = N - 1 - k := ⟨_, rfl⟩
        have hpi : ((s.length : Int) - (n : Int) - (k : Int)) = (p : Int) := by have := HN.out; omega
        have hp0 : (0 : Int) ≤ (p : Int) := by omega
        have hp1 : (p : Int) ≤ ((mkS s).size : Int) := by have := HN.out; have := HS.out; omega
        have hp2 : (p : Int) ≤ (s.length : Int) := by have := HN.out; have := HS.out; omega
        have hcon := HB.out p wr (HG.out.later hlr)
        have HJ := Lib.hid hj
        have HLR := Lib.hid hlr
        have HP := Lib.hid hp
        clear hj hlr hp
        cases hb : Gl.bg g (s.drop p) with
        | true =>
          rw [hb] at hcon
          have HC := Lib.hid hcon
          have HBT := Lib.hid hb
          clear hcon hb
          go_wp2_with (first
            | (go_at_call 28; (with_reducible refine HC.out.mono ?_); rintro e w3 ⟨rfl, hl3⟩; (have HL3 := Lib.hid (HLR.out.trans hl3)); clear hl3))
          go_ret
          refine ⟨some p, rfl, ⟨⟨by have := HN.out; have := HP.out; have := HGL.out; omega, HBT.out⟩, fun m hm => ?_⟩, HL3.out⟩
          have h1 := hm.1
          have h3 := HGL.out
          have h4 := HP.out
          have h5 := HN.out
          simp only [if_true]
          by_cases e : m ≤ p
          · exact e
          · exact absurd hm (HJ.out m (by omega))
        | false =>
          rw [hb] at hcon
          have HC := Lib.hid hcon
          have HBT := Lib.hid hb
          clear hcon hb
          go_wp2_with (first
            | (go_at_call 28; (with_reducible refine HC.out.mono ?_); rintro e w3 ⟨rfl, hl3⟩; (have HL3 := Lib.hid (HLR.out.trans hl3)); clear hl3))
          go_roundw
          case rel =>
            refine ⟨k + 1, by go_num, by omega, fun j hj => ?_, HL3.out⟩
            by_cases e : j = p
            · rw [e]
              intro ho
              have h1 := HBT.out
              rw [ho.2] at h1
              cases h1
            · intro ho
              have h1 := ho.1
              have h3 := HGL.out
              have h4 := HP.out
              have h5 := HN.out
              exact HJ.out j (by omega) ho
          case measure => simp [intOf]; omega
      · have hkn2 : ¬ ((k : Int) < (s.length : Int) - (n : Int) + 1) := by have := HN.out; omega
        have HJ := Lib.hid hj
        have HLR := Lib.hid hlr
        clear hj hlr
        go_wp2
        go_ret
        refine ⟨none, rfl, fun j hj => ?_, HLR.out⟩
        have h1 := hj.1
        have h3 := HGL.out
        have h5 := HN.out
        exact HJ.out j (by omega) hj
end Gs
end Go.Proofs.YtdfnbanbofnabaaDoor
