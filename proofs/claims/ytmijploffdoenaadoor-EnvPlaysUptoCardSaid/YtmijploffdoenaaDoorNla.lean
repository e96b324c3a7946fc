/- What the row's condition on the five listed variables gives the walks (Vd); the door's own heap meets the condition. -/
import Derived.Test.YtmijploffdoenaaDoorRows
import Derived.Test.YtmijploffdoenaaDoorNwe
import Derived.Stop.LaidErr
import Derived.LaidMore
import Derived.LaidLaws
import Derived.OpenShut
import Derived.ProofKit
namespace Go.Proofs.YtmijploffdoenaaDoor
open Go.ChangeShapes Go.WideShapes Go.ChangeAt Go.RowKit
abbrev Sgn (W : World) : Prop := En.Vd W
abbrev laidL : List (String × DataW Unit) := [("math/bits.deBruijn32tab", Rows.laid_math_bits_deBruijn32tab), ("math/bits.deBruijn64tab", Rows.laid_math_bits_deBruijn64tab), ("internal/strconv.uint64pow10", Rows.laid_internal_strconv_uint64pow10), ("strconv.ErrRange", Rows.laid_strconv_ErrRange), ("strconv.ErrSyntax", Rows.laid_strconv_ErrSyntax)]
theorem gNames : Tryd.prog.globalNamed "internal/strconv.uint64pow10" = some 1 := by kernel_rfl
theorem tNames : (Tryd.prog.globals[1]?).map (·.type) = some 112 := by kernel_rfl
theorem gES : Tryd.prog.globalNamed "strconv.ErrSyntax" = some 2 := by kernel_rfl
theorem gER : Tryd.prog.globalNamed "strconv.ErrRange" = some 3 := by kernel_rfl
theorem tES : (Tryd.prog.globals[2]?).map (·.type) = some 87 := by kernel_rfl
theorem tER : (Tryd.prog.globals[3]?).map (·.type) = some 87 := by kernel_rfl
theorem c9 : Tryd.prog.cellsOf 90 = 1 := by kernel_rfl
theorem c20 : Tryd.prog.cellsOf 112 = 20 := by kernel_rfl
/-- The door's own heap meets the condition: closed facts. -/
theorem door_met (os : Os) (args : Array Value) : laidMetH Tryd.prog laidL ((World.doorLaid Tryd.prog 62 os).forCall (fun _ _ => 0) ⟨#[], args, []⟩).memory :=
  laidMetH_of_parts3 (fuel := 8) (laidMet_of_run' 8 (by kernel_rfl) (by kernel_rfl)) (by kernel_rfl) (by kernel_rfl)
theorem laid_tab : Rows.laid_internal_strconv_uint64pow10 (H := Unit) = Lib.tabData .u64 Lib.pow10Tab := by kernel_rfl
theorem star : "*" ++ "errors.errorString" = "*errors.errorString" := by decide
theorem erow (u : TypeId) (h : Tryd.prog.typeName? 3 u = some "*errors.errorString") : u = 122 :=
  typeName_ptr_named (nm := "errors.errorString") (by rw [star]; kernel_rfl) (by kernel_rfl) (by decide) u (by rw [star]; exact h)
theorem errAt_of {W : World} {n : String} {g : Nat} (hg : Tryd.prog.globalNamed n = some g) {tp : TypeId} {p : Value} (h : W.var? Tryd.prog n = some #[.iface tp p]) : En.ErrAt W g :=
  ⟨.iface tp p, (World.var?_cell hg h 0).trans rfl, Or.inr ⟨tp, p, rfl⟩⟩
theorem sgn_of_laid {W : World} (h : laidMetH Tryd.prog laidL W) : Sgn W := by
  rw [MakeChecks.laidMetH_plain _ _ _ (by kernel_rfl)] at h
  have h2 := h.tail.tail.tail
  obtain ⟨a1, s1, e1, _⟩ := laid_sentinel h2 gER tER Tryd.underlying87 erow Tryd.underlying122 Tryd.underlying124 rfl rfl Tryd.underlying9 (by kernel_rfl) (by kernel_rfl)
  obtain ⟨a2, s2, e2, _⟩ := laid_sentinel h2.tail gES tES Tryd.underlying87 erow Tryd.underlying122 Tryd.underlying124 rfl rfl Tryd.underlying9 (by kernel_rfl) (by kernel_rfl)
  refine ⟨?_, errAt_of gES e2, errAt_of gER e1⟩
  obtain ⟨ps, ⟨_, _, _, _, _, _, _, _, _, _, ⟨_, _, _, _, _, _, _, _, _, _, ⟨g0, t0, cs0, f0, p0, q0, hg0, ht0, hv0, hd0, _⟩, _⟩, _⟩, _⟩ := h
  obtain rfl := Option.some.inj (gNames.symm.trans hg0)
  obtain rfl := Option.some.inj (tNames.symm.trans ht0)
  rw [laid_tab] at hd0
  show Lib.TabIs _ _ _ _ _
  unfold Lib.TabIs
  rw [hv0, ← Lib.cells_of_tab Tryd.underlying112 Tryd.underlying90 c9 c20 hd0]
end Go.Proofs.YtmijploffdoenaaDoor
