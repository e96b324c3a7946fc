/- anew: an Env as it was, in new memory. No premises. -/
import Derived.Test.YtmijploffdoenaaDoorNwa
namespace Go.Proofs.YtmijploffdoenaaDoor
open Go.RowKit Go.Maps
namespace En
/-- Box and result's block of an Env's method. -/
structure Bx (W w : World) (b0 b1 b2 b3 : Value) : Prop where
  low : Later W w
  bx : w.heap[W.heap.size]? = some (.cells #[b0, b1, b2, b3] 28 (0, 0))
  rs : w.heap[W.heap.size + 1]? = some (.cells #[.slice none 0 0, .slice none 0 0, .int .i64 0, .string ⟨#[]⟩] 28 (0, 0))
theorem Bx.new (W : World) (b0 b1 b2 b3 : Value) : Bx W ((W.alloc (.cells #[b0, b1, b2, b3] 28)).alloc (.cells #[.slice none 0 0, .slice none 0 0, .int .i64 0, .string ⟨#[]⟩] 28)) b0 b1 b2 b3 := by
  have h := heap_alloc_new (W.alloc (.cells #[b0, b1, b2, b3] 28)) (.cells #[.slice none 0 0, .slice none 0 0, .int .i64 0, .string ⟨#[]⟩] 28)
  rw [World.size_alloc] at h
  exact ⟨(Later.alloc _ _).trans (Later.alloc _ _), later_cells (Later.alloc _ _) (heap_alloc_new W _), h⟩
theorem Bx.later {W w w' : World} {b0 b1 b2 b3 : Value} (h : Bx W w b0 b1 b2 b3) (hl : Later w w') : Bx W w' b0 b1 b2 b3 := ⟨h.low.trans hl, later_cells hl h.bx, later_cells hl h.rs⟩
theorem drew_later (w : World) : Later w w.drew := Later.drew w
/-- The cells of the box, one by one. -/
theorem Bx.c {W w : World} {b0 b1 b2 b3 : Value} (h : Bx W w b0 b1 b2 b3) : w.cell? ⟨W.heap.size, 0, none⟩ = some b0 ∧ w.cell? ⟨W.heap.size, 1, none⟩ = some b1 ∧ w.cell? ⟨W.heap.size, 2, none⟩ = some b2 ∧ w.cell? ⟨W.heap.size, 3, none⟩ = some b3 :=
  ⟨(cell_row h.bx 0).1, (cell_row h.bx 1).1, (cell_row h.bx 2).1, (cell_row h.bx 3).1⟩
theorem Bx.r {W w : World} {b0 b1 b2 b3 : Value} (h : Bx W w b0 b1 b2 b3) : w.cell? ⟨W.heap.size + 1, 0, none⟩ = some (.slice none 0 0) ∧ w.cell? ⟨W.heap.size + 1, 1, none⟩ = some (.slice none 0 0) ∧ w.cell? ⟨W.heap.size + 1, 2, none⟩ = some (.int .i64 0) ∧ w.cell? ⟨W.heap.size + 1, 3, none⟩ = some (.string ⟨#[]⟩) ∧ ∀ i, w.frozen? ⟨W.heap.size + 1, i, none⟩ = false :=
  ⟨(cell_row h.rs 0).1, (cell_row h.rs 1).1, (cell_row h.rs 2).1, (cell_row h.rs 3).1, fun i => (cell_row h.rs i).2⟩
/-- The result's block is written: what is told reads as it did. -/
theorem Bx.tell {W w : World} {b0 b1 b2 b3 v0 v1 v2 v3 : Value} (h : Bx W w b0 b1 b2 b3) {e : E} {base : Nat} (hr : FrE base w (.agg #[v0, v1, v2, v3]) e) (hb : W.heap.size + 1 < base) :
    ∃ w9, w9 = (((w.setCell ⟨W.heap.size + 1, 0, none⟩ v0).setCell ⟨W.heap.size + 1, 1, none⟩ v1).setCell ⟨W.heap.size + 1, 2, none⟩ v2).setCell ⟨W.heap.size + 1, 3, none⟩ v3 ∧ Later W w9 ∧ w9.heap[W.heap.size + 1]? = some (.cells #[v0, v1, v2, v3] 28 (0, 0)) ∧ FrE base w9 (.agg #[v0, v1, v2, v3]) e := by
  refine ⟨_, rfl, ?_, ?_, ?_⟩
  · exact later_of_new (later_of_new (later_of_new (later_of_new h.low (set_only _ _ _ _) (by omega)) (set_only _ _ _ _) (by omega)) (set_only _ _ _ _) (by omega)) (set_only _ _ _ _) (by omega)
  · exact set_row (set_row (set_row (set_row h.rs 0 v0) 1 v1) 2 v2) 3 v3
  · exact (((hr.set (set_only _ _ _ _) hb).set (set_only _ _ _ _) hb).set (set_only _ _ _ _) hb).set (set_only _ _ _ _) hb
set_option maxRecDepth 100000 in
set_option maxHeartbeats 3200000 in
theorem anew_v (va : Value) (e : E) (W : World) (h : RdE W va e) (hn : e.vars.length ≤ 1000000) (ha : e.args.length ≤ 1000000) : Calls Tryd.prog 32 #[va] W fun x W' => Told W W' x e := by
  obtain ⟨v0, A, n, c, rfl, hv, hr, hc1, hc2⟩ := h
  obtain ⟨A0, c0, rfl, hcv0, hcw0, _⟩ := hv.le
  obtain ⟨n0, hn0⟩ : ∃ n0, n0 = e.vars.length := ⟨_, rfl⟩
  have HV := Lib.hid (show ∀ W', Later W W' → Calls Tryd.prog 24 #[.agg #[.slice A0 n0 c0, .slice A n c, .int .i64 (e.status : Int), .string (mkS e.flags)]] W' fun x W'' => (∃ g, x = .returned (.slice (some ⟨g, 0, none⟩) n0 n0) ∧ W'.heap.size ≤ g ∧ PrB W'' g e.vars []) ∧ Later W' W'' from fun W' hl => by
    rw [hn0]
    exact variables_v _ _ e.vars _ _ W' (hv.later hl) hn)
  have HW := Lib.hid (show ∀ W' g, Later W W' → PrB W' g e.vars [] → Calls Tryd.prog 29 #[.agg #[.slice A0 n0 c0, .slice A n c, .int .i64 (e.status : Int), .string (mkS e.flags)], .slice (some ⟨g, 0, none⟩) n0 n0] W' fun x W'' => Told W' W'' x e from fun W' g hl hp => by
    have := with_v (.agg #[.slice A0 n0 c0, .slice A n c, .int .i64 (e.status : Int), .string (mkS e.flags)]) (.slice (some ⟨g, 0, none⟩) n0 n0) e e.vars W' ⟨_, A, n, c, by rw [hn0], hv.later hl, (hr.below hl).more hl.size, hc1, hc2⟩ (by rw [hn0]; exact hp.rd (Nat.le_refl _) (by omega)) hn ha
    exact this)
  obtain ⟨st, hst⟩ : ∃ st : Int, st = (e.status : Int) := ⟨_, rfl⟩
  obtain ⟨fl, hfl⟩ : ∃ fl, fl = mkS e.flags := ⟨_, rfl⟩
  rw [← hn0, ← hst, ← hfl]
  rw [← hst, ← hfl] at HV HW
  have HB := Lib.hid (Bx.new W (.slice A0 n0 c0) (.slice A n c) (.int .i64 st) (.string fl))
  have HSZ := Lib.hid (show ((W.alloc (.cells #[.slice A0 n0 c0, .slice A n c, .int .i64 st, .string fl] 28)).alloc (.cells #[.slice none 0 0, .slice none 0 0, .int .i64 0, .string ⟨#[]⟩] 28)).heap.size = W.heap.size + 2 by rw [World.size_alloc, World.size_alloc])
  clear hv hr hc1 hc2 hcv0 hcw0 hn0 hst hfl hn ha
  go_enter Tryd.func32, Tryd.ntmps32
  go_wp2_with fail
  obtain ⟨W2, hW2⟩ : ∃ W2, W2 = (W.alloc (.cells #[.slice A0 n0 c0, .slice A n c, .int .i64 st, .string fl] 28)).alloc (.cells #[.slice none 0 0, .slice none 0 0, .int .i64 0, .string ⟨#[]⟩] 28) := ⟨_, rfl⟩
  rw [← hW2] at HB HSZ ⊢
  clear hW2
  obtain ⟨b0, b1, b2, b3⟩ := HB.out.c
  go_region_with (first
    | (go_at_call 24; (with_reducible refine (HV.out _ (HB.out.low.trans (drew_later _))).mono ?_); rintro x w3 ⟨⟨g, rfl, _, hp⟩, hl3⟩; (have HP := Lib.hid hp); (have HB3 := Lib.hid (HB.out.later ((drew_later _).trans hl3))); obtain ⟨q0, q1, q2, q3⟩ := HB3.out.c; clear hp hl3)
    | (go_at_call 29; (with_reducible refine (HW.out _ _ HB3.out.low HP.out).mono ?_); rintro x w4 ⟨⟨v, rfl, hf⟩, hl4⟩; (have HF := Lib.hid hf); obtain ⟨v0, A4, n4, c4, rfl, hv4, _⟩ := hf.rd; obtain ⟨A5, c5, rfl, _⟩ := hv4.le; (have HB4 := Lib.hid (HB3.out.later hl4)); obtain ⟨r0, r1, r2, r3, r4⟩ := HB4.out.r; clear hf hl4 hv4))
  all_goals (
    go_wp2
    have hs3 := lt_of_block HB3.out.rs
    obtain ⟨w9, hw9, hl9, hr9, hf9⟩ := HB4.out.tell HF.out hs3
    rw [← hw9]
    refine bodyPost_ret (results_Env rfl _ _ (W.heap.size + 1) _ (0, 0) rfl hr9 rfl) rfl ?_
    exact ⟨⟨_, rfl, hf9.less (by omega)⟩, hl9⟩)
end En
end Go.Proofs.YtmijploffdoenaaDoor
