/- What the row's condition on the listed variables gives the walks: the powers of ten lie in their block; the door's own heap meets the condition. -/
import Derived.Test.YtjijbgogdaafdaaDoorRows
import Derived.Test.YtjijbgogdaafdaaDoorQp
import Derived.LaidMore
import Derived.OpenShut
import Derived.ProofKit
namespace Go.Proofs.YtjijbgogdaafdaaDoor
open Go.ChangeShapes Go.WideShapes Go.ChangeAt Go.RowKit
abbrev Sgn (W : World) : Prop := Fd.Tb W
abbrev laidL : List (String × DataW Unit) := [("math/bits.deBruijn32tab", Rows.laid_math_bits_deBruijn32tab), ("math/bits.deBruijn64tab", Rows.laid_math_bits_deBruijn64tab), ("internal/strconv.uint64pow10", Rows.laid_internal_strconv_uint64pow10)]
theorem gNames : Tryd.prog.globalNamed "internal/strconv.uint64pow10" = some 0 := by kernel_rfl
theorem tNames : (Tryd.prog.globals[0]?).map (·.type) = some 84 := by kernel_rfl
theorem c9 : Tryd.prog.cellsOf 75 = 1 := by kernel_rfl
theorem c20 : Tryd.prog.cellsOf 84 = 20 := by kernel_rfl
/-- The door's own heap meets the condition: closed facts. -/
theorem door_met (os : Os) (args : Array Value) : laidMetH Tryd.prog laidL ((World.doorLaid Tryd.prog 40 os).forCall (fun _ _ => 0) ⟨#[], args, []⟩).memory :=
  laidMetH_of_parts3 (fuel := 8) (laidMet_of_run' 8 (by kernel_rfl) (by kernel_rfl)) (by kernel_rfl) (by kernel_rfl)
theorem laid_tab : Rows.laid_internal_strconv_uint64pow10 (H := Unit) = Lib.tabData .u64 Lib.pow10Tab := by kernel_rfl
theorem sgn_of_laid {W : World} (h : laidMetH Tryd.prog laidL W) : Sgn W := by
  rw [MakeChecks.laidMetH_plain _ _ _ (by kernel_rfl)] at h
  obtain ⟨ps, ⟨_, _, _, _, _, _, _, _, _, _, ⟨_, _, _, _, _, _, _, _, _, _, ⟨g0, t0, cs0, f0, p0, q0, hg0, ht0, hv0, hd0, _⟩, _⟩, _⟩, _⟩ := h
  obtain rfl := Option.some.inj (gNames.symm.trans hg0)
  obtain rfl := Option.some.inj (tNames.symm.trans ht0)
  rw [laid_tab] at hd0
  show Lib.TabIs _ _ _ _ _
  unfold Lib.TabIs
  rw [hv0, ← Lib.cells_of_tab Tryd.underlying84 Tryd.underlying75 c9 c20 hd0]
end Go.Proofs.YtjijbgogdaafdaaDoor
