/- What the row's condition on the listed variable gives the walks: the table of signs lies in its block; the door's own heap meets the condition. -/
import Derived.Test.YtlenocpaalahbaaDoorRows
import Derived.Test.YtlenocpaalahbaaDoorWr
import Derived.LaidMore
import Derived.Lay
import Derived.OpenShut
import Derived.ProofKit
namespace Go.Proofs.YtlenocpaalahbaaDoor
open Go.ChangeShapes Go.WideShapes Go.ChangeAt Go.RowKit
noncomputable abbrev laidL : List (String × DataW Unit) := [("unicode/utf8.acceptRanges", Rows.laid_unicode_utf8_acceptRanges), ("kinetoscope/word.ops", Rows.laid_kinetoscope_word_ops), ("unicode/utf8.first", Rows.laid_unicode_utf8_first)]
theorem gNames : Tryd.prog.globalNamed "kinetoscope/word.ops" = some 1 := by kernel_rfl
theorem tNames : (Tryd.prog.globals[1]?).map (·.type) = some 61 := by kernel_rfl
theorem c9 : Tryd.prog.cellsOf 9 = 1 := by kernel_rfl
theorem c52 : Tryd.prog.cellsOf 61 = 12 := by kernel_rfl
/-- A heap that meets the condition: closed facts. -/
theorem door_met (os : Os) (args : Array Value) : laidMetH Tryd.prog laidL ((World.laidAll Tryd.prog os laidL).forCall (fun _ _ => 0) ⟨#[], args, []⟩).memory := by
  rw [MakeChecks.laidMetH_plain _ _ _ (by kernel_rfl)]
  exact laidMet_laidAll _ (by kernel_rfl) (by kernel_rfl)
theorem laid_at : ∀ i : _root_.Fin 12, (match Rows.laid_kinetoscope_word_ops (H := Unit) with | .agg l => l | _ => [])[i.1]? = some (.lit (.string (mkS (Wd.ops.getD i.1 [])).data.toList)) := by
  intro i
  match i with
  | 0 => rfl
  | 1 => rfl
  | 2 => rfl
  | 3 => rfl
  | 4 => rfl
  | 5 => rfl
  | 6 => rfl
  | 7 => rfl
  | 8 => rfl
  | 9 => rfl
  | 10 => rfl
  | 11 => rfl
theorem ops_of_laid {W : World} (h : laidMetH Tryd.prog laidL W) : Ops W := by
  rw [MakeChecks.laidMetH_plain _ _ _ (by kernel_rfl)] at h
  obtain ⟨ps, ⟨_, _, _, _, _, _, _, _, _, _, ⟨g0, t0, cs0, f0, p0, q0, hg0, ht0, hv0, hd0, _⟩, _⟩, _⟩ := h
  obtain rfl := Option.some.inj (gNames.symm.trans hg0)
  obtain rfl := Option.some.inj (tNames.symm.trans ht0)
  obtain ⟨xs, m1, _, hx, hlen, hn, hel⟩ := DataW.trod_array Tryd.underlying61 hd0
  rw [c52] at hlen
  simp only [Prod.mk.injEq] at hx
  have hx1 := hx.1
  intro i hi
  have h1 := hel i hi
  rw [c9] at h1
  have hix : i < xs.length := by omega
  rw [List.getElem?_eq_getElem hix] at h1
  obtain ⟨s, hs1, hs2, _⟩ := DataW.trod_string Tryd.underlying9 h1
  have hl := laid_at ⟨i, hi⟩
  rw [show Rows.laid_kinetoscope_word_ops (H := Unit) = .agg (xs.map (·.1)) from hx1] at hl
  dsimp only at hl
  rw [List.getElem?_map, List.getElem?_eq_getElem hix, hs2] at hl
  simp only [Option.map_some, Option.some.injEq, DataW.lit.injEq, Lit.string.injEq] at hl
  have hs : s = mkS (Wd.ops.getD i []) := ByteArray.ext (Array.ext' hl)
  subst hs
  rw [World.var?_cell gNames hv0 i]
  have hci : i < cs0.toList.length := by rw [hlen]; exact hi
  rw [Nat.mul_one, List.drop_eq_getElem_cons hci, List.take_succ_cons, List.take_zero] at hs1
  injection hs1 with hs1
  rw [← Array.getElem?_toList, List.getElem?_eq_getElem hci, hs1]
end Go.Proofs.YtlenocpaalahbaaDoor
