/- varint's Open. -/
import Derived.Test.YtbgojfgapbcanaaDoorRdr
namespace Go.Proofs.YtbgojfgapbcanaaDoor
open Go.RowKit
theorem open_v (A : Option Addr) (n cap B : Nat) (bs : List UInt8) (w : World) (hr : Rd w B A n (bs.map bv)) (hn : n ≤ 140737488351232) :
    Calls Tryd.prog 39 #[.slice A n cap] w fun r w' => ∃ g, r = .returned (.pointer (some ⟨g, 0, none⟩)) ∧ Rdr w' w'.heap.size g bs 0 ∧ Below w.heap.size w w' ∧ w.heap.size ≤ g := by
  obtain ⟨i0, hi, hz0, hz1, hz2⟩ := info_parts info_u8
  have HR := Lib.hid hr
  have hl := Lib.hid hr.len
  clear hr
  go_enter Tryd.func39, Tryd.ntmps39
  go_wp2_with (at_builtin; refine wpList_appN w rfl (.const (.slice none 0 0)) (.tmp 3) _ rfl w.heap.size 5 i0 (.int .u8 0) 1 Tryd.underlying33 hi hz0 hz1 hz2 rfl (.slice none 0 0) [] rfl (World.ownsRow_nil w _ _ 1) B A n cap (bs.map bv) rfl HR.out (bv_one bs) (by simp; omega) (by simp; omega) (Nat.le_refl _) ?_; intro v1 w1 hg1; have hsz := hg1.grown.size; obtain ⟨A1, c1, rfl, h1, h2, h3⟩ := own_slice hg1.own; have H3 := Lib.hid h3; have H2 := Lib.hid h2; clear h3 h2)
  go_ret
  have hln : ([] ++ bs.map bv).length = n := by simpa using hl.out
  rw [List.nil_append] at hln
  have h2 := H2.out
  rw [List.nil_append, hln] at h2
  refine ⟨w1.heap.size, rfl, ⟨A1, n, c1, by rw [heap_alloc_new]; simp [hl.out], by simp [hln] at h1; exact h1, hn, ?_, fun ad e => ?_, by simp⟩, hg1.belowNil.alloc hsz _, hsz⟩
  · exact (h2.below ((Below.refl _ _).alloc (Nat.le_refl _) _)).more (by simp)
  · have := H3.out ad e; omega
end Go.Proofs.YtbgojfgapbcanaaDoor
