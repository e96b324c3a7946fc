/- What a reader's functions do at depth k; parts. No premises. -/
import Derived.Test.YtcidklbeafjmoaaGreatDoorAl
namespace Go.Proofs.YtcidklbeafjmoaaGreatDoor
open Go.RowKit Go.Maps
namespace Ar
def ExOk (k : Nat) : Prop := ∀ (W : World) (g : Nat) (C : Ct) (s : St) (n : Int) (t : St), RM W g C s → Ex C.vs k s n t → Calls Tryz.prog 11 #[.pointer (some ⟨g, 0, none⟩)] W (Rt W g C (.int .i64 n) t)
def BtOk (k : Nat) : Prop := ∀ (W : World) (g : Nat) (C : Ct) (l : Nat) (s : St) (n : Int) (t : St), l ≤ 20 → RM W g C s → Bt C.vs k l s n t → Calls Tryz.prog 21 #[.pointer (some ⟨g, 0, none⟩), .int .i64 (l : Int)] W (Rt W g C (.int .i64 n) t)
def SgOk (k : Nat) : Prop := ∀ (W : World) (g : Nat) (C : Ct) (s : St) (n : Int) (t : St), RM W g C s → Sg C.vs k s n t → Calls Tryz.prog 64 #[.pointer (some ⟨g, 0, none⟩)] W (Rt W g C (.int .i64 n) t)
/-- The cells that the function between keeps for itself: where the reader is, and a row. -/
structure Loc (W : World) (g b2 b6 : Nat) (row : Int) : Prop where
  h2 : W.heap[b2]? = some (.cells #[.pointer (some ⟨g, 0, none⟩)] 38 (0, 0))
  h6 : W.heap[b6]? = some (.cells #[.int .i64 row] 3 (0, 0))
  n2 : b2 ≠ g
  n6 : b6 ≠ g
  ne : b2 ≠ b6
section
variable {W W' : World} {g : Nat} {C : Ct} {s s' t : St} {b2 b6 : Nat} {row : Int}
theorem Loc.kept (h : Loc W g b2 b6 row) (hg : W.grownBy W' (some g)) : Loc W' g b2 b6 row :=
  ⟨(hg.block _ (lt_of_block h.h2) (fun e => h.n2 (by injection e))).trans h.h2, (hg.block _ (lt_of_block h.h6) (fun e => h.n6 (by injection e))).trans h.h6, h.n2, h.n6, h.ne⟩
theorem Loc.facts (h : Loc W g b2 b6 row) : W.cell? ⟨b2, 0, none⟩ = some (.pointer (some ⟨g, 0, none⟩)) ∧ W.cell? ⟨b6, 0, none⟩ = some (.int .i64 row) ∧ W.frozen? ⟨b6, 0, none⟩ = false ∧ W.frozen? ⟨b2, 0, none⟩ = false := ⟨(cell_row h.h2 0).1, (cell_row h.h6 0).1, (cell_row h.h6 0).2, (cell_row h.h2 0).2⟩
theorem RM.idle (h : RM W g C s) (i : Nat) (hi : m s + i ≤ 4000) : RM (W.setCell ⟨g, 4, none⟩ (.int .i64 (i : Int))) g C { s with idle := i } := h.turn (set_only _ _ _ _) (by rw [set_row h.box]; rfl) h.deep hi
set_option maxRecDepth 100000 in
theorem thunk_v {k : Nat} (hb : BtOk k) (h : RM W g C s) (l : Nat) (hl : l + 1 ≤ 20) (hL : Loc W g b2 b6 (l : Nat)) {n : Int} (hs : Bt C.vs k (l + 1) s n t) : Calls Tryz.prog 67 #[.pointer (some ⟨b2, 0, none⟩), .pointer (some ⟨b6, 0, none⟩)] W (Rt W g C (.int .i64 n) t) := by
  obtain ⟨f1, f2, _, _⟩ := hL.facts
  have HB := Lib.hid (hb W g C (l + 1) s n t hl h hs)
  have hw : wrap64 ((l : Int) + 1) = (l : Int) + 1 := w64 _ (by omega)
  have HB2 := Lib.hid (show Calls Tryz.prog 21 #[.pointer (some ⟨g, 0, none⟩), .int .i64 ((l : Int) + 1)] W (Rt W g C (.int .i64 n) t) from HB.out)
  clear hL h hs hb hl
  go_enter Tryz.func67, Tryz.ntmps67
  go_wp2_with (go_at_call 21; (with_reducible refine HB2.out.mono ?_); rintro e w1 ⟨rfl, h1, g1⟩)
  go_ret
  exact ⟨rfl, h1, g1⟩
set_option maxHeartbeats 1600000 in
set_option maxRecDepth 100000 in
theorem partE {b : Bool} {n : Int} (h : RM W g C s) (hs : m s + (rest s b).idle ≤ 4000) (ht : t.idle = (rest s b).idle) (hF : ∀ w1, RM w1 g C (rest s b) → W.grownBy w1 (some g) → Calls Tryz.prog 11 #[.pointer (some ⟨g, 0, none⟩)] w1 (Rt w1 g C (.int .i64 n) t)) : Calls Tryz.prog 23 #[.pointer (some ⟨g, 0, none⟩), .bool b, .func (.func 11) #[.pointer (some ⟨g, 0, none⟩)] #[]] W (Rt W g C (.int .i64 n) (back t b)) := by
  have HF := Lib.hid hF
  cases b with
  | true =>
    have HC := Lib.hid (HF.out W h (only_refl _ _))
    clear h hs hF
    go_enter Tryz.func23, Tryz.ntmps23
    go_wp2_with (go_at_call 11; (with_reducible refine HC.out.mono ?_); rintro e w1 ⟨rfl, h1, g1⟩)
    go_ret
    exact ⟨rfl, h1, g1⟩
  | false =>
    obtain ⟨i, hi⟩ : ∃ i, i = s.idle + 1 := ⟨_, rfl⟩
    have hri : rest s false = { s with idle := i } := by rw [hi]; rfl
    rw [hri] at hs ht hF
    have hi4 : i ≤ 4000 := by dsimp only at hs; omega
    have h1 := h.idle i hs
    have HC := Lib.hid (hF _ h1 (set_only _ _ _ _))
    obtain ⟨⟨c0, c1, c2, c3, c4, c5, c6, c7, c8⟩, hz⟩ := h.facts
    have hw1 : wrap64 ((s.idle : Int) + 1) = (i : Int) := by rw [w64 _ (by omega)]; omega
    have H1 := Lib.hid h1
    have HT := Lib.hid ht
    obtain ⟨d, hd⟩ : ∃ d, d = s.idle := ⟨_, rfl⟩
    have HID := Lib.hid (show (i : Int) - 1 = (d : Int) by omega)
    have HBK := Lib.hid (show back t false = { t with idle := d } by unfold back; simp only [Bool.false_eq_true, if_false]; rw [HT.out]; dsimp only; congr 1; omega)
    rw [HBK.out]
    have hdi : d ≤ i := by omega
    clear h hs hF h1 hri hi ht hd
    go_enter Tryz.func23, Tryz.ntmps23
    go_wp2_with (go_at_call 11; (with_reducible refine HC.out.mono ?_); rintro e w1 ⟨rfl, h2, g2⟩; obtain ⟨⟨d0, d1, d2, d3, d4, d5, d6, d7, d8⟩, dz⟩ := h2.facts; rw [HT.out] at d4; have H2 := Lib.hid h2; have HG2 := Lib.hid g2; clear h2 g2)
    go_ret
    rw [HID.out]
    have h2 := H2.out
    exact ⟨rfl, h2.idle d (by have := h2.sml; have := HT.out; omega), only_trans (set_only _ _ _ _) (only_trans HG2.out (set_only _ _ _ _))⟩
set_option maxHeartbeats 1600000 in
set_option maxRecDepth 100000 in
theorem partB {b : Bool} {n : Int} (h : RM W g C s) (hs : m s + (rest s b).idle ≤ 4000) (ht : t.idle = (rest s b).idle) (hF : ∀ w1, RM w1 g C (rest s b) → W.grownBy w1 (some g) → Calls Tryz.prog 67 #[.pointer (some ⟨b2, 0, none⟩), .pointer (some ⟨b6, 0, none⟩)] w1 (Rt w1 g C (.int .i64 n) t)) : Calls Tryz.prog 23 #[.pointer (some ⟨g, 0, none⟩), .bool b, .func (.func 67) #[] #[.pointer (some ⟨b2, 0, none⟩), .pointer (some ⟨b6, 0, none⟩)]] W (Rt W g C (.int .i64 n) (back t b)) := by
  have HF := Lib.hid hF
  cases b with
  | true =>
    have HC := Lib.hid (HF.out W h (only_refl _ _))
    clear h hs hF
    go_enter Tryz.func23, Tryz.ntmps23
    go_wp2_with (go_at_call 67; (with_reducible refine HC.out.mono ?_); rintro e w1 ⟨rfl, h1, g1⟩)
    go_ret
    exact ⟨rfl, h1, g1⟩
  | false =>
    obtain ⟨i, hi⟩ : ∃ i, i = s.idle + 1 := ⟨_, rfl⟩
    have hri : rest s false = { s with idle := i } := by rw [hi]; rfl
    rw [hri] at hs ht hF
    have hi4 : i ≤ 4000 := by dsimp only at hs; omega
    have h1 := h.idle i hs
    have HC := Lib.hid (hF _ h1 (set_only _ _ _ _))
    obtain ⟨⟨c0, c1, c2, c3, c4, c5, c6, c7, c8⟩, hz⟩ := h.facts
    have hw1 : wrap64 ((s.idle : Int) + 1) = (i : Int) := by rw [w64 _ (by omega)]; omega
    have H1 := Lib.hid h1
    have HT := Lib.hid ht
    obtain ⟨d, hd⟩ : ∃ d, d = s.idle := ⟨_, rfl⟩
    have HID := Lib.hid (show (i : Int) - 1 = (d : Int) by omega)
    have HBK := Lib.hid (show back t false = { t with idle := d } by unfold back; simp only [Bool.false_eq_true, if_false]; rw [HT.out]; dsimp only; congr 1; omega)
    rw [HBK.out]
    have hdi : d ≤ i := by omega
    clear h hs hF h1 hri hi ht hd
    go_enter Tryz.func23, Tryz.ntmps23
    go_wp2_with (go_at_call 67; (with_reducible refine HC.out.mono ?_); rintro e w1 ⟨rfl, h2, g2⟩; obtain ⟨⟨d0, d1, d2, d3, d4, d5, d6, d7, d8⟩, dz⟩ := h2.facts; rw [HT.out] at d4; have H2 := Lib.hid h2; have HG2 := Lib.hid g2; clear h2 g2)
    go_ret
    rw [HID.out]
    have h2 := H2.out
    exact ⟨rfl, h2.idle d (by have := h2.sml; have := HT.out; omega), only_trans (set_only _ _ _ _) (only_trans HG2.out (set_only _ _ _ _))⟩
end
end Ar
end Go.Proofs.YtcidklbeafjmoaaGreatDoor
