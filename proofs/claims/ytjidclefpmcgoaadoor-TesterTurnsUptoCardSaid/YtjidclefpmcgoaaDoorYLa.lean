/- What the row's condition on the seven listed variables gives the walks; a heap that meets the condition. -/
import Derived.Test.YtjidclefpmcgoaaDoorRows
import Derived.Test.YtjidclefpmcgoaaDoorYd
import Derived.Stop.LaidErr
import Derived.LaidMore
import Derived.LaidLaws
import Derived.Lay
import Derived.OpenShut
import Derived.ProofKit
namespace Go.Proofs.YtjidclefpmcgoaaDoor
open Go.ChangeShapes Go.WideShapes Go.ChangeAt Go.RowKit
noncomputable abbrev laidL : List (String × DataW Unit) := [("math/bits.deBruijn32tab", Rows.laid_math_bits_deBruijn32tab), ("math/bits.deBruijn64tab", Rows.laid_math_bits_deBruijn64tab), ("internal/strconv.uint64pow10", Rows.laid_internal_strconv_uint64pow10), ("unicode/utf8.acceptRanges", Rows.laid_unicode_utf8_acceptRanges), ("strconv.ErrRange", Rows.laid_strconv_ErrRange), ("strconv.ErrSyntax", Rows.laid_strconv_ErrSyntax), ("unicode/utf8.first", Rows.laid_unicode_utf8_first)]
theorem gES : Tryd.prog.globalNamed "strconv.ErrSyntax" = some 3 := by kernel_rfl
theorem gER : Tryd.prog.globalNamed "strconv.ErrRange" = some 4 := by kernel_rfl
theorem tES : (Tryd.prog.globals[3]?).map (·.type) = some 74 := by kernel_rfl
theorem tER : (Tryd.prog.globals[4]?).map (·.type) = some 74 := by kernel_rfl
/-- A heap that meets the condition: closed facts. -/
theorem door_met (os : Os) (args : Array Value) : laidMetH Tryd.prog laidL ((World.laidAll Tryd.prog os laidL).forCall (fun _ _ => 0) ⟨#[], args, []⟩).memory := by
  rw [MakeChecks.laidMetH_plain _ _ _ (by kernel_rfl)]
  exact laidMet_laidAll _ (by kernel_rfl) (by kernel_rfl)
theorem star : "*" ++ "errors.errorString" = "*errors.errorString" := by decide
theorem erow (u : TypeId) (h : Tryd.prog.typeName? 3 u = some "*errors.errorString") : u = 99 :=
  typeName_ptr_named (nm := "errors.errorString") (by rw [star]; kernel_rfl) (by kernel_rfl) (by decide) u (by rw [star]; exact h)
theorem errAt_of {W : World} {n : String} {g : Nat} (hg : Tryd.prog.globalNamed n = some g) {tp : TypeId} {p : Value} (h : W.var? Tryd.prog n = some #[.iface tp p]) : Ar.ErrAt W g :=
  ⟨.iface tp p, (World.var?_cell hg h 0).trans rfl, Or.inr ⟨tp, p, rfl⟩⟩
theorem vd_of_laid {W : World} (h : laidMetH Tryd.prog laidL W) : Ar.Vd W := by
  rw [MakeChecks.laidMetH_plain _ _ _ (by kernel_rfl)] at h
  have h2 := h.tail.tail.tail.tail
  obtain ⟨a1, s1, e1, _⟩ := laid_sentinel h2 gER tER Tryd.underlying74 erow Tryd.underlying99 Tryd.underlying101 rfl rfl Tryd.underlying9 (by kernel_rfl) (by kernel_rfl)
  obtain ⟨a2, s2, e2, _⟩ := laid_sentinel h2.tail gES tES Tryd.underlying74 erow Tryd.underlying99 Tryd.underlying101 rfl rfl Tryd.underlying9 (by kernel_rfl) (by kernel_rfl)
  exact ⟨errAt_of gES e2, errAt_of gER e1⟩
end Go.Proofs.YtjidclefpmcgoaaDoor
