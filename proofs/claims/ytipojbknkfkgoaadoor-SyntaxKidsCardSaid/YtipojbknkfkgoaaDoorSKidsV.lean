/- The walk of SyntaxKids, all cases. -/
import Derived.Test.YtipojbknkfkgoaaDoorSKidsW
namespace Go.Proofs.YtipojbknkfkgoaaDoor
open Go.RowKit Go.Maps
open Lx (nl Tok)
namespace syntaxKids
open Pz
set_option maxHeartbeats 1600000 in
set_option maxRecDepth 100000 in
/-- An error of number 0: no node. -/
theorem walkZ (w : World) (hg : Sgn w) (s : List UInt8) (h : ¬ (2000 : Int) < ((mkS s).size : Int)) (k : Nat) (hall : Sx.tree s = .error (0, k)) :
    Calls Tryd.prog 3 #[.string (mkS s)] w fun e w' => e = .returned (.bool true) ∧ Below w.heap.size w w' := by
  have HA := Lib.hid (awake_v w hg)
  have hz := mkS_size s
  obtain ⟨ln, hln⟩ : ∃ ln : Int, ln = ((1 + nl s - k : Nat) : Int) := ⟨_, rfl⟩
  have HAL := Lib.hid (show ∀ W, Later w W → Calls Tryd.prog 8 #[.string (mkS s)] W fun e W' => e = .returned (.tuple #[.agg #[.slice none 0 0], .int .i64 0, .int .i64 ln]) ∧ Later W W' from fun W hW => by rw [hln]; exact parse_err (by omega) hall W (Sgn.later' hg hW))
  have HMK := Lib.hid (show ∀ w, (Instr.makeSlice 29 (.int .i64 0) (.int .i64 0)).run Tryd.prog w = .ok (.slice (some ⟨w.heap.size, 0, none⟩) 0 0) (w.alloc (.cells #[] 3)) from fun w => make_ints w 0 (by omega))
  clear hg hall hz hln
  go_enter Tryd.func3, Tryd.ntmps3
  go_wp2_with (first
    | (go_at_call 7; (with_reducible refine HA.out.mono ?_); rintro e w1 ⟨rfl, hb1⟩; have HB1 := Lib.hid hb1; clear hb1)
    | (go_at_call 8; (with_reducible refine (HAL.out _ HB1.out).mono ?_); rintro e w2 ⟨rfl, hl2⟩; have HL2 := Lib.hid (HB1.out.trans hl2); have hmk := HMK.out (w2.alloc (.cells #[.slice none 0 0] 25)); clear hl2))
  clear hmk
  obtain ⟨wt, hwt⟩ : ∃ wt, wt = w2.alloc (.cells #[.slice none 0 0] 25) := ⟨_, rfl⟩
  rw [← hwt]
  have HT := Lib.hid (show Later w2 wt by rw [hwt]; exact Later.alloc _ _)
  have QT := Lib.hid (show wt.heap[w2.heap.size]? = some (.cells #[.slice none 0 0] 25 (0, 0)) by rw [hwt]; exact heap_alloc_new w2 _)
  obtain ⟨q, hq⟩ : ∃ q, q = w2.heap.size + 1 := ⟨_, rfl⟩
  rw [← hq]
  obtain ⟨w3, hw3⟩ : ∃ w3, w3 = wt.alloc (.cells #[] 3) := ⟨_, rfl⟩
  rw [← hw3]
  have HL3 := Lib.hid (show Later wt w3 by rw [hw3]; exact Later.alloc _ _)
  clear hwt hq hw3
  go_loopw [8] (fun i wr => i = .int .i64 0 ∧ Later wt wr) (fun i _ => 0)
  case atStart => exact ⟨rfl, HL3.out⟩
  case round =>
    obtain ⟨rfl, hlr⟩ := hrel
    obtain ⟨wo, rfl⟩ : ∃ wo, wo = wr := ⟨_, rfl⟩
    have HLR := Lib.hid hlr
    have d4 : wo.cell? ⟨w2.heap.size, 0, none⟩ = some (.slice none 0 0) := (cell_row (later_cells hlr QT.out) 0).1
    clear hlr
    go_wp2
    go_loopw [13] (fun i wy => i = .int .i64 0 ∧ wy = wo) (fun i _ => 0)
    case atStart => exact ⟨rfl, by first | rfl | trivial⟩
    case round =>
      obtain ⟨rfl, rfl⟩ := hrel
      have HKK := Lib.hid (show ∀ W, Later wr W → Hid (Later wr W) ∧ W.cell? ⟨w2.heap.size, 0, none⟩ = some (.slice none 0 0) from fun W hW => ⟨hW, cell_keeps hW d4⟩)
      have HL0 := Lib.hid (Later.refl wr)
      have HRV := Lib.hid (show ∀ W, Calls Tryd.prog 9 #[.agg #[.slice none 0 0]] W fun e W' => e = .returned (.int .i64 (-1)) ∧ Later W W' from fun W => root_v W none 0 0 (by omega))
      go_wp2
      go_region_held (fun W => Hid (Later wr W) ∧ W.cell? ⟨w2.heap.size, 0, none⟩ = some (.slice none 0 0)) (first | assumption | exact HKK.out _ HL0.out | exact HKK.out _ HL9.out | exact HKK.out _ (Later.drew _)) (first
        | (go_at_call 9; (with_reducible refine (HRV.out _).mono ?_); rintro e w9 ⟨rfl, hl9⟩; have HL9 := Lib.hid ((Later.drew wr).trans hl9); clear hl9))
      go_wp2
      go_ret
      exact ⟨rfl, ((HL2.out.trans HT.out).trans HLR.out).trans HL9.out⟩
theorem walk (w : World) (hg : Sgn w) (t : ByteArray) (ht : t.size ≤ maxLen) :
    Calls Tryd.prog 3 #[.string t] w fun e w' => e = .returned (.bool true) ∧ Below w.heap.size w w' := by
  obtain ⟨s, rfl⟩ : ∃ s, t = mkS s := ⟨_, (mkS_of t).symm⟩
  by_cases h : (2000 : Int) < ((mkS s).size : Int)
  · exact walkX w hg s h
  cases hx : Sx.tree s with
  | ok ns => exact walkO w hg s h ns hx
  | error e =>
    obtain ⟨n, k⟩ := e
    by_cases hn : n = 0
    · subst hn
      exact walkZ w hg s h k hx
    · exact walkE w hg s h n k hx hn
end syntaxKids
end Go.Proofs.YtipojbknkfkgoaaDoor
