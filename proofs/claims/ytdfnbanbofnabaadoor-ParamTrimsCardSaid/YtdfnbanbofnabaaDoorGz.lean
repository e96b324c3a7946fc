/- The document's Match. No premises. -/
import Derived.Test.YtdfnbanbofnabaaDoorGy
namespace Go.Proofs.YtdfnbanbofnabaaDoor
open Go.RowKit Go.Maps
namespace Gr
open Gs
theorem make_rows (w : World) (m : Nat) (hm : m ≤ 100000) : (Instr.makeSlice 60 (.int .i64 (m : Int)) (.int .i64 (m : Int))).run Tryd.prog w = .ok (.slice (some ⟨w.heap.size, 0, none⟩) m m) (w.alloc (.cells (Array.replicate m (.slice none 0 0)) 61)) := by
  have hib : (Tryd.prog.info? 61).map (fun i => (i.zero, i.size, i.bytes)) = some (some (.slice none 0 0), 1, 24) := by kernel_rfl
  obtain ⟨i0, hi, hz0, hz1, hz2⟩ := info_parts hib
  have := run_make (P := Tryd.prog) w 60 61 i0 (.slice none 0 0) Tryd.underlying60 hi hz0 .i64 .i64 (m : Int) (m : Int) (by omega) (by omega) (by rw [hz2]; omega) (by omega)
  simp only [Int.toNat_natCast, hz1, Nat.mul_one] at this
  rw [this]
  show _ = Result.ok _ (w.alloc (.cells _ 61))
  have e : madeCells (#[.slice none 0 0] : Array Value) m = Array.replicate m (.slice none 0 0) := by
    apply Array.ext
    · simp [madeCells]
    · intro i h1 h2
      simp [madeCells, Nat.mod_one]
  rw [← e]
  rfl
theorem Rows.put {w : World} {g k b c : Nat} {t m s : L} (h : Rows w g (k + 1) t m s) (hk : k ≤ t.length) (hr : Ro w b 0 t m s k) : Rows (w.setCell ⟨g, k, none⟩ (.slice (some ⟨b, 0, none⟩) (s.length + 1) c)) g k t m s := by
  obtain ⟨R, h1, h0, h2⟩ := h
  obtain ⟨C, r1, _, r2⟩ := hr
  refine ⟨_, set_row h1 k _, by simp [h0], fun j hj hjt => ?_⟩
  have keep : ∀ {x : Nat} {X : Array Value}, w.heap[x]? = some (.cells X 4 (0, 0)) → (w.setCell ⟨g, k, none⟩ (.slice (some ⟨b, 0, none⟩) (s.length + 1) c)).heap[x]? = some (.cells X 4 (0, 0)) := fun {x X} hx => by
    refine grown_cells (set_only w g k _) hx fun e => ?_
    subst e
    rw [h1] at hx
    injection hx with hx
    injection hx with _ hx _
    exact absurd hx (by decide)
  by_cases e : j = k
  · subst e
    refine ⟨b, c, C, by rw [Array.getElem?_setIfInBounds_self_of_lt (by omega)], keep r1, fun q hq => ?_⟩
    rw [r2 q hq, decide_eq_true (Nat.zero_le q), Bool.true_and]
  · obtain ⟨b', c', C', h3, h4, h5⟩ := h2 j (by omega) hjt
    exact ⟨b', c', C', by rw [Array.getElem?_setIfInBounds_ne (fun e' => e e'.symm)]; exact h3, keep h4, h5⟩
theorem Rows.cellk {w : World} {g lo k : Nat} {t m s : L} (h : Rows w g lo t m s) (hk : k ≤ t.length) : ∃ v, w.cell? ⟨g, k, none⟩ = some v ∧ w.frozen? ⟨g, k, none⟩ = false := by
  obtain ⟨R, h1, h0, _⟩ := h
  exact ⟨R[k]'(by omega), by rw [(cell_row h1 k).1, Array.getElem?_eq_getElem], (cell_row h1 k).2⟩
set_option maxRecDepth 100000 in
set_option maxHeartbeats 3200000 in
theorem Match_v (t m s : L) (w : World) (ht : t.length ≤ 4096) (hs : s.length ≤ 4096) : Calls Tryd.prog 24 #[.string (mkS t), .string (mkS m), .int .i64 0, .string (mkS s)] w fun e w' => e = .returned (.bool (Gl.tb (Gl.sgF t m 0) s)) ∧ Later w w' := by
  have hsi : ((mkS s).size : Int) = (s.length : Int) := by rw [mkS_size]
  have hti : ((mkS t).size : Int) = (t.length : Int) := by rw [mkS_size]
  have hmk1 : (Instr.makeSlice 60 (.int .i64 ((t.length : Int) + 1)) (.int .i64 ((t.length : Int) + 1))).run Tryd.prog w = .ok (.slice (some ⟨w.heap.size, 0, none⟩) (t.length + 1) (t.length + 1)) (w.alloc (.cells (Array.replicate (t.length + 1) (.slice none 0 0)) 61)) := make_rows w (t.length + 1) (by omega)
  obtain ⟨W1, hW1⟩ : ∃ W1, W1 = w.alloc (.cells (Array.replicate (t.length + 1) (.slice none 0 0)) 61) := ⟨_, rfl⟩
  rw [← hW1] at hmk1
  have hmk2 : (Instr.makeSlice 61 (.int .i64 ((s.length : Int) + 1)) (.int .i64 ((s.length : Int) + 1))).run Tryd.prog W1 = .ok (.slice (some ⟨W1.heap.size, 0, none⟩) (s.length + 1) (s.length + 1)) (W1.alloc (.cells (Array.replicate (s.length + 1) (.bool false)) 4)) := make_bools W1 (s.length + 1) (by omega)
  obtain ⟨W2, hW2⟩ : ∃ W2, W2 = W1.alloc (.cells (Array.replicate (s.length + 1) (.bool false)) 4) := ⟨_, rfl⟩
  rw [← hW2] at hmk2
  obtain ⟨g, hg⟩ : ∃ g, g = w.heap.size := ⟨_, rfl⟩
  obtain ⟨b, hb⟩ : ∃ b, b = W1.heap.size := ⟨_, rfl⟩
  have hgb : g ≠ b := by rw [hg, hb, hW1]; simp
  have hl1 : Later w W1 := by rw [hW1]; exact Later.alloc _ _
  have hl2 : Later W1 W2 := by rw [hW2]; exact Later.alloc _ _
  have p1 : W2.heap[g]? = some (.cells (Array.replicate (t.length + 1) (.slice none 0 0)) 61 (0, 0)) := later_cells hl2 (by rw [hW1, hg]; exact heap_alloc_new w _)
  have p2 : W2.heap[b]? = some (.cells (Array.replicate (s.length + 1) (.bool false)) 4 (0, 0)) := by rw [hW2, hb]; exact heap_alloc_new W1 _
  rw [← hg] at hmk1
  rw [← hb] at hmk2
  obtain ⟨V, hV⟩ : ∃ V : Value, V = .slice (some ⟨b, 0, none⟩) (s.length + 1) (s.length + 1) := ⟨_, rfl⟩
  obtain ⟨W3, hW3⟩ : ∃ W3, W3 = W2.setCell ⟨g, t.length, none⟩ (.slice (some ⟨b, 0, none⟩) (s.length + 1) (s.length + 1)) := ⟨_, rfl⟩
  have p3 : W3.heap[g]? = some (.cells ((Array.replicate (t.length + 1) (.slice none 0 0)).setIfInBounds t.length (.slice (some ⟨b, 0, none⟩) (s.length + 1) (s.length + 1))) 61 (0, 0)) := by rw [hW3]; exact set_row p1 _ _
  have p4 : W3.heap[b]? = some (.cells (Array.replicate (s.length + 1) (.bool false)) 4 (0, 0)) := by rw [hW3]; exact grown_cells (set_only _ _ _ _) p2 (fun e => hgb e.symm)
  obtain ⟨W4, hW4⟩ : ∃ W4, W4 = W3.setCell ⟨b, s.length, none⟩ (.bool true) := ⟨_, rfl⟩
  have hl4 : Later w W4 := by
    have h2 : Later w W2 := hl1.trans hl2
    have h3 : Later w W3 := by rw [hW3]; exact later_of_new h2 (set_only _ _ _ _) (by rw [hg]; exact Nat.le_refl _)
    rw [hW4]
    exact later_of_new h3 (set_only _ _ _ _) (by rw [hb]; exact hl1.size)
  have hrows : Rows W4 g t.length t m s := by
    have q1 : W4.heap[g]? = some (.cells ((Array.replicate (t.length + 1) (.slice none 0 0)).setIfInBounds t.length (.slice (some ⟨b, 0, none⟩) (s.length + 1) (s.length + 1))) 61 (0, 0)) := by rw [hW4]; exact grown_cells (set_only _ _ _ _) p3 hgb
    have q2 : W4.heap[b]? = some (.cells ((Array.replicate (s.length + 1) (.bool false)).setIfInBounds s.length (.bool true)) 4 (0, 0)) := by rw [hW4]; exact set_row p4 _ _
    refine ⟨_, q1, by simp, fun j hj hjt => ?_⟩
    have hje : j = t.length := by omega
    subst hje
    refine ⟨b, _, _, by rw [Array.getElem?_setIfInBounds_self_of_lt (by simp)], q2, fun q hq => ?_⟩
    have hF : Gl.F t m s t.length q = (s.drop q).isEmpty := by unfold Gl.F; rw [Gl.sgF_end (Nat.le_refl _)]; rfl
    rw [hF]
    by_cases e : q = s.length
    · subst e
      rw [Array.getElem?_setIfInBounds_self_of_lt (by simp), List.drop_length]
      rfl
    · rw [Array.getElem?_setIfInBounds_ne (fun e' => e e'.symm), Array.getElem?_replicate, if_pos (by omega)]
      have : (s.drop q).isEmpty = false := by
        cases h : s.drop q with
        | nil => rw [List.drop_eq_nil_iff] at h; omega
        | cons a l => rfl
      rw [this]
  have a1 : W2.cell? ((⟨g, 0, none⟩ : Addr).add t.length) = some (.slice none 0 0) := by rw [add_lit0, (cell_row p1 _).1, Array.getElem?_replicate, if_pos (by omega)]
  have a2 : W2.frozen? ((⟨g, 0, none⟩ : Addr).add t.length) = false := by rw [add_lit0]; exact (cell_row p1 _).2
  have a3 : W3.cell? ((⟨g, 0, none⟩ : Addr).add t.length) = some (.slice (some ⟨b, 0, none⟩) (s.length + 1) (s.length + 1)) := by rw [add_lit0, (cell_row p3 _).1, Array.getElem?_setIfInBounds_self_of_lt (by simp)]
  have a4 : W3.cell? ((⟨b, 0, none⟩ : Addr).add s.length) = some (.bool false) := by rw [add_lit0, (cell_row p4 _).1, Array.getElem?_replicate, if_pos (by omega)]
  have a5 : W3.frozen? ((⟨b, 0, none⟩ : Addr).add s.length) = false := by rw [add_lit0]; exact (cell_row p4 _).2
  have d1 : W2.cell? ⟨g, t.length, none⟩ = some (.slice none 0 0) := by rw [← add_lit0]; exact a1
  have d2 : W2.frozen? ⟨g, t.length, none⟩ = false := by rw [← add_lit0]; exact a2
  have d3 : W3.cell? ⟨g, t.length, none⟩ = some (.slice (some ⟨b, 0, none⟩) (s.length + 1) (s.length + 1)) := by rw [← add_lit0]; exact a3
  have d4 : W3.cell? ⟨b, s.length, none⟩ = some (.bool false) := by rw [← add_lit0]; exact a4
  have d5 : W3.frozen? ⟨b, s.length, none⟩ = false := by rw [← add_lit0]; exact a5
  rw [hW3] at d3 d4 d5
  have HRW := Lib.hid (fun (k c0 : Nat) (W : World) (hk : k < t.length) (hr : Rows W g (k + 1) t m s) (hc : t.length + 1 ≤ c0) => row_v t m s k g c0 W hk ht hs hr hc)
  have HRO := Lib.hid hrows
  have HGW := Lib.hid (show w.heap.size ≤ g by rw [hg]; exact Nat.le_refl _)
  have HL4 := Lib.hid hl4
  have HW4 := Lib.hid (show W4 = (W2.setCell ⟨g, t.length, none⟩ (.slice (some ⟨b, 0, none⟩) (s.length + 1) (s.length + 1))).setCell ⟨b, s.length, none⟩ (.bool true) by rw [hW4, hW3])
  have ht2 : (t.length : Int) ≤ 5000 := by omega
  have hs2 : (s.length : Int) ≤ 5000 := by omega
  clear a1 a2 a3 a4 a5 hV p1 p2 p3 p4 hW1 hW2 hW3 hW4 hg hb hl1 hl2 hl4 hrows hgb
  go_enter Tryd.func24, Tryd.ntmps24
  go_wp2_with fail
  rw [← HW4.out]
  go_loopw [10] (fun s10 wr => ∃ (z : Int) (n : Nat), s10 = .int .i64 z ∧ z = (n : Int) - 1 ∧ n ≤ t.length ∧ Rows wr g n t m s ∧ Later w wr) (fun i _ => (intOf i + 1).toNat)
  case atStart => exact ⟨_, t.length, rfl, by omega, Nat.le_refl _, HRO.out, HL4.out⟩
  case round =>
    obtain ⟨z, n, rfl, hz, hn, hrw, hlr⟩ := hrel
    cases n with
    | zero =>
      have hneg : ¬ ((0 : Int) ≤ z) := by omega
      obtain ⟨b1, c1, hc1, hc2⟩ := hrw.at_ (j := 0) (Nat.le_refl _) (Nat.zero_le _)
      have hc3 := hc2 0 (Nat.zero_le _)
      have HLR := Lib.hid hlr
      clear hz hrw hlr hc2
      go_wp2
      go_ret
      exact ⟨ret_bool rfl, HLR.out⟩
    | succ k =>
      have hzk : z = (k : Int) := by omega
      subst hzk
      have hk0 : (0 : Int) ≤ (k : Int) := by omega
      have HRR := Lib.hid (HRW.out k (t.length + 1) wr (by omega) hrw (Nat.le_refl _))
      have HROW := Lib.hid hrw
      have HLR := Lib.hid hlr
      have hkt : k < t.length + 1 := by omega
      clear hz hrw hlr
      go_wp2_with (first
        | (go_at_call 31; (with_reducible refine HRR.out.mono ?_); rintro e w5 ⟨rfl, hro, hl5⟩; (have HR5 := Lib.hid (HROW.out.later hl5)); (have HO5 := Lib.hid hro); (have HL5 := Lib.hid (HLR.out.trans hl5)); obtain ⟨v, e1, e2⟩ := HR5.out.cellk (k := k) (by omega); (have e3 : w5.cell? ((⟨g, 0, none⟩ : Addr).add k) = some v := by rw [add_lit0]; exact e1); (have e4 : w5.frozen? ((⟨g, 0, none⟩ : Addr).add k) = false := by rw [add_lit0]; exact e2); clear hro hl5))
      go_roundw
      case rel => exact ⟨(k : Int) - 1, k, by go_num, rfl, by omega, HR5.out.put (by omega) HO5.out, later_of_new HL5.out (set_only _ _ _ _) HGW.out⟩
      case measure => (simp [intOf]; try omega)
end Gr
end Go.Proofs.YtdfnbanbofnabaaDoor
