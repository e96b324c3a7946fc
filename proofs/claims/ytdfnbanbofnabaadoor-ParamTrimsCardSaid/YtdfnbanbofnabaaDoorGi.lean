/- What a sign takes. No premises. -/
import Derived.Test.YtdfnbanbofnabaaDoorGe
import Derived.Test.YtdfnbanbofnabaaDoorGh
namespace Go.Proofs.YtdfnbanbofnabaaDoor
open Go.RowKit Go.Maps
namespace Gs
theorem byte_le (a c : UInt8) : decide (a ≤ c) = decide ((a.toNat : Int) ≤ (c.toNat : Int)) := by rw [decide_eq_decide, UInt8.le_iff_toNat_le]; omega
set_option maxRecDepth 100000 in
theorem span_v (a b c : UInt8) (B : Nat) (W : World) (hB : B < W.heap.size) (hc : W.cell? ⟨B, 0, none⟩ = some (bv c)) : Calls Tryd.prog 70 #[.agg #[bv a, bv b], .pointer (some ⟨B, 0, none⟩)] W fun e w' => e = .returned (.bool (decide (a ≤ c) && decide (c ≤ b))) ∧ Later W w' := by
  rw [byte_le, byte_le]
  unfold bv at hc ⊢
  obtain ⟨x, hx⟩ : ∃ x : Nat, x = a.toNat := ⟨_, rfl⟩
  obtain ⟨y, hy⟩ : ∃ y : Nat, y = b.toNat := ⟨_, rfl⟩
  obtain ⟨z, hz⟩ : ∃ z : Nat, z = c.toNat := ⟨_, rfl⟩
  rw [← hx, ← hy, ← hz]
  rw [← hz] at hc
  clear hx hy hz
  have hne : B ≠ W.heap.size := by omega
  have HL := Lib.hid (Later.alloc W (.cells #[.int .u8 (x : Int), .int .u8 (y : Int)] 90))
  go_enter Tryd.func70, Tryd.ntmps70
  go_wp2
  all_goals
    go_ret
    refine ⟨ret_bool ?_, HL.out⟩
    first
      | (simp_all; done)
      | (simp_all; omega)
theorem ms2_at : ∀ (ms : List (UInt8 × UInt8)) (j : Nat), j < ms.length → ∀ i v, [bv ms[j]!.1, bv ms[j]!.2][i]? = some v → (ms2 ms)[j * 2 + i]? = some v
  | [], j, h, _, _, _ => by simp at h
  | y :: l, 0, _, i, v, h => by
    have hi : i < 2 := by have := (List.getElem?_eq_some_iff.1 h).1; simpa using this
    unfold ms2
    rw [List.flatMap_cons, List.getElem?_append_left (by simp; omega)]
    simpa using h
  | y :: l, j + 1, hj, i, v, h => by
    have ih := ms2_at l j (by simpa using hj) i v (by simpa using h)
    unfold ms2 at ih ⊢
    rw [List.flatMap_cons, List.getElem?_append_right (by simp; omega), ← ih]
    congr 1
    simp
    omega
set_option maxRecDepth 100000 in
theorem set_takes (t : Bool) (v : Value) (ms : List (UInt8 × UInt8)) (c : UInt8) (w : World) (hok : (Sv.set t v ms).ok w) : Calls Tryd.prog 68 #[.agg #[.bool t, v], .int .u8 (c.toNat : Int)] w fun e w' => e = .returned (.bool (Gl.tk (.set t ms) c)) ∧ Later w w' := by
  obtain ⟨hne, ho⟩ := hok
  obtain ⟨b, cc, rfl, hb, hnc, hcells⟩ : ∃ b cc, v = .slice (some ⟨b, 0, none⟩) ms.length cc ∧ b < w.heap.size ∧ ms.length ≤ maxLen ∧ ∀ j u, (ms2 ms)[j]? = some u → w.cell? ⟨b, j, none⟩ = some u := by
    have hc := ho
    rcases ho.2 with ⟨_, h0⟩ | ⟨g, cap, cur, rfl, _, h2, h3, h4, _⟩
    · exact absurd (List.eq_nil_of_length_eq_zero h0) hne
    · exact ⟨g, cap, rfl, lt_of_block h2, Nat.le_trans h3 h4, fun j u hu => by have := hc.cells (g := g) rfl j u hu; rwa [add_lit0] at this⟩
  obtain ⟨w1, hw1⟩ : ∃ w1, w1 = w.alloc (.cells #[.bool t, .slice (some ⟨b, 0, none⟩) ms.length cc] 86) := ⟨_, rfl⟩
  obtain ⟨w2, hw2⟩ : ∃ w2, w2 = w1.alloc (.cells #[.int .u8 (c.toNat : Int)] 5) := ⟨_, rfl⟩
  have hl1 : Later w w1 := by rw [hw1]; exact Later.alloc _ _
  have hl2 : Later w w2 := hl1.trans (by rw [hw2]; exact Later.alloc _ _)
  have hcell : w2.cell? ⟨w1.heap.size, 0, none⟩ = some (bv c) := by rw [hw2]; exact (cell_row (heap_alloc_new w1 _) 0).1
  have hlt : w1.heap.size < w2.heap.size := by rw [hw2]; simp
  have hcon := Tryd.contains_func 2 Tryd.isAgg90 Tryd.sizeOf90 (fun x : UInt8 × UInt8 => [bv x.1, bv x.2]) (fun _ => rfl) (fun x => decide (x.1 ≤ c) && decide (c ≤ x.2)) 70 #[.pointer (some ⟨w1.heap.size, 0, none⟩)] (enters_of Tryd.func70 (by kernel_rfl) rfl) b 0 ms.length cc ms w2
    (fun W x hb => (span_v x.1 x.2 c w1.heap.size W (Nat.lt_of_lt_of_le hlt hb.size) ((hb.cell (p := ⟨w1.heap.size, 0, none⟩) hlt).trans hcell)).mono fun e w' h => ⟨h.1, hb.trans (Below.mono h.2 hb.size)⟩)
    (Nat.le_refl _) (by simp only [maxLen] at hnc; omega) (Nat.lt_of_lt_of_le hb hl2.size) (fun j hj i v hv => by
      rw [show 0 + j * 2 + i = j * 2 + i by omega]
      exact (hl2.cell (p := ⟨b, j * 2 + i, none⟩) hb).trans (hcells _ _ (ms2_at ms j hj i v hv)))
  rw [List.take_length] at hcon
  obtain ⟨q, hq⟩ : ∃ q, q = ms.any (fun m => decide (m.1 ≤ c) && decide (c ≤ m.2)) := ⟨_, rfl⟩
  rw [← hq] at hcon
  have hkeep : w2.heap[w.heap.size]? = some (.cells #[.bool t, .slice (some ⟨b, 0, none⟩) ms.length cc] 86 (0, 0)) := by rw [hw2]; exact later_cells (Later.alloc _ _) (by rw [hw1]; exact heap_alloc_new w _)
  have HK := Lib.hid hkeep
  have HL := Lib.hid hl2
  have HQ := Lib.hid hq
  have hs1 : w1.heap.size = w.heap.size + 1 := by rw [hw1]; simp
  rw [hs1] at hcon
  have HW := Lib.hid (show w2 = (w.alloc (.cells #[.bool t, .slice (some ⟨b, 0, none⟩) ms.length cc] 86)).alloc (.cells #[.int .u8 (c.toNat : Int)] 5) by rw [hw2, hw1])
  have HC := Lib.hid hcon
  obtain ⟨n, hn⟩ : ∃ n, n = ms.length := ⟨_, rfl⟩
  rw [← hn] at HC HW HK ⊢
  clear hcells hcon hq hkeep hl2 hl1 hcell hlt hw2 hw1 hs1 hn ho hne hnc
  go_enter Tryd.func68, Tryd.ntmps68
  go_wp2_with (first
    | (go_at_call 69; rw [← HW.out]; (with_reducible refine HC.out.mono ?_); rintro e w3 ⟨rfl, hl3⟩; (have HL3 := Lib.hid (HL.out.trans hl3)); obtain ⟨c0, _⟩ := cell_row (later_cells hl3 HK.out) 0; clear hl3))
  go_ret
  exact ⟨ret_bool (by rw [HQ.out]; rfl), HL3.out⟩
end Gs
end Go.Proofs.YtdfnbanbofnabaaDoor
