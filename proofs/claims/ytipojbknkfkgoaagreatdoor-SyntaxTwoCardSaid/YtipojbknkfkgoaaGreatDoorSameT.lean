/- The document's texts: rows of texts that read alike are the same. No premises. -/
import Derived.Test.YtipojbknkfkgoaaGreatDoorOa
import Derived.BigQuiet
namespace Go.Proofs.YtipojbknkfkgoaaGreatDoor
open Go.RowKit Go.Maps
open Lx (nl Tok)
open Pz
theorem self_text (l : List UInt8) : ((mkS l).toList != (mkS l).toList) = false := by simp
set_option maxHeartbeats 1600000 in
set_option maxRecDepth 100000 in
theorem texts_v (A A' : Option Addr) (n c c' : Nat) (l : List (List UInt8)) (w : World) (hr : Rd w w.heap.size A n (l.map sv)) (hr' : Rd w w.heap.size A' n (l.map sv)) (hn : n ≤ maxLen) :
    Calls Tryz.prog 26 #[.slice A n c, .slice A' n c'] w fun e w' => e = .returned (.bool true) ∧ Later w w' := by
  unfold maxLen at hn
  have HR := Lib.hid hr
  have HR' := Lib.hid hr'
  clear hr hr'
  go_enter Tryz.func26, Tryz.ntmps26
  go_wp2
  go_loopw [5] (fun i wr => ∃ k : Nat, k ≤ n ∧ i = .int .i64 (k : Int) ∧ Later w wr) (fun i _ => n - (intOf i).toNat)
  case atStart => exact ⟨0, by omega, rfl, Later.refl _⟩
  case round =>
    obtain ⟨k, hk, rfl, hb⟩ := hrel
    have HB := Lib.hid hb
    clear hb
    have hk0 : (0 : Int) ≤ (k : Int) := by omega
    by_cases hlt : k < n
    · obtain ⟨ad, hl1, rfl, _, hc⟩ := (HR.out.below HB.out).at_map (k := k) hlt
      obtain ⟨ad', hl2, rfl, _, hc'⟩ := (HR'.out.below HB.out).at_map (k := k) hlt
      have hk1 : (k : Int) < (n : Int) := by omega
      obtain ⟨x, hx⟩ : ∃ x, x = l[k] := ⟨_, rfl⟩
      rw [← hx] at hc hc'
      have hc1 : wr.cell? (ad.add k) = some (.string (mkS x)) := hc
      have hc2 : wr.cell? (ad'.add k) = some (.string (mkS x)) := hc'
      have e1 := self_text x
      clear hc hc' hx hl1 hl2
      go_wp2
      go_quiet (fail)
      go_wp2
      go_roundw
      case rel => exact ⟨k + 1, by omega, by go_num, Later.trans HB.out (Below.drewN _ _ _)⟩
      case measure => simp [intOf]; omega
    · have hk1 : ¬ (k : Int) < (n : Int) := by omega
      go_wp2
      go_ret
      exact ⟨rfl, HB.out⟩
end Go.Proofs.YtipojbknkfkgoaaGreatDoor
