/- What the row's condition on the listed variables gives the walks: the two tables of signs lie in their blocks; a heap that meets the condition. -/
import Derived.Test.YtcidklbeafjmoaaGreatDoorRows
import Derived.Test.YtcidklbeafjmoaaGreatDoorAv
import Derived.LaidMore
import Derived.Lay
import Derived.OpenShut
import Derived.ProofKit
namespace Go.Proofs.YtcidklbeafjmoaaGreatDoor
open Go.ChangeShapes Go.WideShapes Go.ChangeAt Go.RowKit
noncomputable abbrev laidL : List (String × DataW Unit) := [("math/bits.deBruijn32tab", Rows.laid_math_bits_deBruijn32tab), ("math/bits.deBruijn64tab", Rows.laid_math_bits_deBruijn64tab), ("internal/strconv.uint64pow10", Rows.laid_internal_strconv_uint64pow10), ("unicode/utf8.acceptRanges", Rows.laid_unicode_utf8_acceptRanges), ("strconv.ErrRange", Rows.laid_strconv_ErrRange), ("strconv.ErrSyntax", Rows.laid_strconv_ErrSyntax), ("kinetoscope/arith.rows", Rows.laid_kinetoscope_arith_rows), ("kinetoscope/arith.longs", Rows.laid_kinetoscope_arith_longs), ("unicode/utf8.first", Rows.laid_unicode_utf8_first)]
theorem gRows : Tryz.prog.globalNamed "kinetoscope/arith.rows" = some 1 := by kernel_rfl
theorem tRows : (Tryz.prog.globals[1]?).map (·.type) = some 82 := by kernel_rfl
theorem gLongs : Tryz.prog.globalNamed "kinetoscope/arith.longs" = some 0 := by kernel_rfl
theorem tLongs : (Tryz.prog.globals[0]?).map (·.type) = some 80 := by kernel_rfl
theorem cStr : Tryz.prog.cellsOf 9 = 1 := by kernel_rfl
theorem cSl : Tryz.prog.cellsOf 31 = 1 := by kernel_rfl
theorem cLongs : Tryz.prog.cellsOf 80 = 9 := by kernel_rfl
theorem cRows : Tryz.prog.cellsOf 82 = 10 := by kernel_rfl
/-- A heap that meets the condition: closed facts. -/
theorem door_met (os : Os) (args : Array Value) : laidMetH Tryz.prog laidL ((World.laidAll Tryz.prog os laidL).forCall (fun _ _ => 0) ⟨#[], args, []⟩).memory := by
  rw [MakeChecks.laidMetH_plain _ _ _ (by kernel_rfl)]
  exact laidMet_laidAll _ (by kernel_rfl) (by kernel_rfl)
theorem longs_at : ∀ i : _root_.Fin 9, (match Rows.laid_kinetoscope_arith_longs (H := Unit) with | .agg l => l | _ => [])[i.1]? = some (.lit (.string (mkS (Ar.longs.getD i.1 [])).data.toList)) := by
  intro i
  match i with
  | 0 => rfl
  | 1 => rfl
  | 2 => rfl
  | 3 => rfl
  | 4 => rfl
  | 5 => rfl
  | 6 => rfl
  | 7 => rfl
  | 8 => rfl
theorem rows_at : ∀ i : _root_.Fin 10, (match Rows.laid_kinetoscope_arith_rows (H := Unit) with | .agg l => l | _ => [])[i.1]? = some (.slice ((Ar.rows.getD i.1 []).map fun t => .lit (.string (mkS t).data.toList)) []) := by
  intro i
  match i with
  | 0 => rfl
  | 1 => rfl
  | 2 => rfl
  | 3 => rfl
  | 4 => rfl
  | 5 => rfl
  | 6 => rfl
  | 7 => rfl
  | 8 => rfl
  | 9 => rfl
theorem map_getD {β : Type} (f : List UInt8 → β) (l : List (List UInt8)) (j : Nat) (hj : j < l.length) : (l.map f)[j]? = some (f (l.getD j [])) := by
  rw [List.getElem?_map, List.getD_eq_getElem?_getD, List.getElem?_eq_getElem hj]
  rfl
theorem text_of {s : ByteArray} {t : List UInt8} (h : s.data.toList = (mkS t).data.toList) : s = mkS t := ByteArray.ext (Array.ext' h)
theorem tb_of_laid {W : World} (h : laidMetH Tryz.prog laidL W) : Ar.Tb0 W := by
  rw [MakeChecks.laidMetH_plain _ _ _ (by kernel_rfl)] at h
  obtain ⟨ps, ⟨_, _, _, _, _, _, _, _, _, _, ⟨_, _, _, _, _, _, _, _, _, _, ⟨_, _, _, _, _, _, _, _, _, _, ⟨_, _, _, _, _, _, _, _, _, _, ⟨_, _, _, _, _, _, _, _, _, _, ⟨_, _, _, _, _, _, _, _, _, _, ⟨g0, t0, cs0, f0, p0, q0, hg0, ht0, hv0, hd0, ⟨g1, t1, cs1, f1, p1, q1, hg1, ht1, hv1, hd1, _⟩, _⟩, _⟩, _⟩, _⟩, _⟩, _⟩, _⟩, _⟩ := h
  obtain rfl := Option.some.inj (gRows.symm.trans hg0)
  obtain rfl := Option.some.inj (tRows.symm.trans ht0)
  obtain rfl := Option.some.inj (gLongs.symm.trans hg1)
  obtain rfl := Option.some.inj (tLongs.symm.trans ht1)
  refine ⟨?_, ?_⟩
  · obtain ⟨xs, m1, _, hx, hlen, hn, hel⟩ := DataW.trod_array Tryz.underlying80 hd1
    rw [cLongs] at hlen
    simp only [Prod.mk.injEq] at hx
    have hx1 := hx.1
    intro i hi
    have h1 := hel i hi
    rw [cStr] at h1
    have hix : i < xs.length := by omega
    rw [List.getElem?_eq_getElem hix] at h1
    obtain ⟨s, hs1, hs2, _⟩ := DataW.trod_string Tryz.underlying9 h1
    have hl := longs_at ⟨i, hi⟩
    rw [show Rows.laid_kinetoscope_arith_longs (H := Unit) = .agg (xs.map (·.1)) from hx1] at hl
    dsimp only at hl
    rw [List.getElem?_map, List.getElem?_eq_getElem hix, hs2] at hl
    simp only [Option.map_some, Option.some.injEq, DataW.lit.injEq, Lit.string.injEq] at hl
    have hs := text_of hl
    subst hs
    rw [World.var?_cell gLongs hv1 i]
    have hci : i < cs1.toList.length := by rw [hlen]; exact hi
    rw [Nat.mul_one, List.drop_eq_getElem_cons hci, List.take_succ_cons, List.take_zero] at hs1
    injection hs1 with hs1
    rw [← Array.getElem?_toList, List.getElem?_eq_getElem hci, hs1]
  · obtain ⟨xs, m1, _, hx, hlen, hn, hel⟩ := DataW.trod_array Tryz.underlying82 hd0
    rw [cRows] at hlen
    simp only [Prod.mk.injEq] at hx
    have hx1 := hx.1
    have key : ∀ i : Nat, i < 10 → ∃ (ad : Addr) (cp : Nat), W.cell? ⟨1, i, none⟩ = some (.slice (some ad) (Ar.rows.getD i []).length cp) ∧ ∀ j : Nat, j < (Ar.rows.getD i []).length → W.cell? (ad.add j) = some (.string (mkS ((Ar.rows.getD i []).getD j []))) := by
      intro i hi
      have h1 := hel i hi
      rw [cSl] at h1
      have hix : i < xs.length := by omega
      rw [List.getElem?_eq_getElem hix] at h1
      have hl := rows_at ⟨i, hi⟩
      rw [show Rows.laid_kinetoscope_arith_rows (H := Unit) = .agg (xs.map (·.1)) from hx1] at hl
      dsimp only at hl
      rw [List.getElem?_map, List.getElem?_eq_getElem hix] at hl
      simp only [Option.map_some, Option.some.injEq] at hl
      have h2 : DataW.trod _ Tryz.prog W 0 _ _ _ 31 _ = some (.slice ((Ar.rows.getD i []).map fun t => .lit (.string (mkS t).data.toList)) [], _) := h1.trans (by rw [← hl])
      obtain ⟨a, cap, hc, _, hcell⟩ := open_row Tryz.underlying31 cStr h2
      rw [List.length_map] at hc
      refine ⟨a, cap, ?_, fun j hj => ?_⟩
      · rw [World.var?_cell gRows hv0 i]
        have hci : i < cs0.toList.length := by rw [hlen]; exact hi
        rw [Nat.mul_one, List.drop_eq_getElem_cons hci, List.take_succ_cons, List.take_zero] at hc
        injection hc with hc
        rw [← Array.getElem?_toList, List.getElem?_eq_getElem hci, hc]
      · obtain ⟨v, n, q, hv, ht⟩ := hcell j (.lit (.string (mkS ((Ar.rows.getD i []).getD j [])).data.toList)) (map_getD _ _ j hj)
        obtain ⟨s, hs1, hs2, _⟩ := DataW.trod_string Tryz.underlying9 ht
        have hs3 := (Prod.mk.inj hs2).1
        injection hs3 with hs3
        injection hs3 with hs3
        have hs := text_of hs3.symm
        subst hs
        injection hs1 with hs1
        rw [hv, hs1]
    refine ⟨fun i => if h : i < 10 then (key i h).choose else ⟨0, 0, none⟩, fun i => if h : i < 10 then (key i h).choose_spec.choose else 0, fun i hi => ?_⟩
    dsimp only
    rw [dif_pos hi, dif_pos hi]
    exact (key i hi).choose_spec.choose_spec
end Go.Proofs.YtcidklbeafjmoaaGreatDoor
