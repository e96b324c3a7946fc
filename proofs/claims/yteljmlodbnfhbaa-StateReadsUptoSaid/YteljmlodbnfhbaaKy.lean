/- A port through which things come in: truths, several numbers. No premises. -/
import Derived.Test.YteljmlodbnfhbaaKx
namespace Go.Proofs.Yteljmlodbnfhbaa
open Go.RowKit
namespace Ks
set_option maxRecDepth 100000

theorem bit_in0true {W : World} {B0 g gr bx o e : Nat} {bs : B} {xs : Array Value} {ty : TypeId} (h : PIx W B0 g gr true e bs) (hx : W.heap[bx]? = some (.cells xs ty (0, 0))) (ho : xs[o]? = some (.bool false)) (hb : B0 ≤ bx) (hne : bx ≠ g) (hy : ∀ y, y = zagOf (numR bs e).1 → y = 0) :
    Calls Try.prog 37 #[.pointer (some ⟨g, 0, none⟩), .pointer (some ⟨bx, o, none⟩)] W fun r W' => r = .returned (.tuple #[]) ∧ PIx W' B0 g gr true (numR bs e).2.2 (numR bs e).2.1 ∧ W'.heap[bx]? = some (.cells (xs.setIfInBounds o (.bool false)) ty (0, 0)) ∧ Fr (Ne3 g gr bx) W W' := by
  have hlt := lt_of_block hx
  have hgl := lt_of_block h.box
  have hq : (W.alloc (.cells #[.int .i64 0] 3)).cell? ⟨bx, o, none⟩ = some (.bool false) := cell_keeps (Later.alloc W _) (by rw [(cell_row hx o).1]; exact ho)
  have HV := Lib.hid (int_in (bx := W.heap.size) (o := 0) (h.later (Later.alloc W (.cells #[.int .i64 0] 3))) (heap_alloc_new W _) (by simp) (by have := h.size; omega) (by omega))
  obtain ⟨y, hyy⟩ : ∃ y, y = zagOf (numR bs e).1 := ⟨_, rfl⟩
  rw [← hyy] at HV
  have hy' := hy y hyy
  have f1 : (y != 0) = false := by first | (simp; omega) | (simp [hy']) | (simp [hy'.1])
  have f2 : (y != 1) = true := by first | (simp; omega) | (simp [hy']) | (simp [hy'.1])
  have f3 : (y == 1) = false := by first | (simp; omega) | (simp [hy']) | (simp [hy'.1])
  have HL := Lib.hid (Fr.later (X := fun k => k ≠ g ∧ k ≠ gr ∧ k < W.heap.size) (Later.alloc W (.cells #[.int .i64 0] 3)))
  have HX := Lib.hid (show ∀ w1 : World, PIx w1 B0 g gr true (numR bs e).2.2 (numR bs e).2.1 → Fr (Ne3 g gr W.heap.size) (W.alloc (.cells #[.int .i64 0] 3)) w1 → w1.cell? ⟨g, 1, none⟩ = some (.pointer (some ⟨gr, 0, none⟩)) ∧ w1.cell? ⟨g, 2, none⟩ = some (.bool true) ∧ w1.frozen? ⟨g, 2, none⟩ = false ∧ (w1.setCell ⟨g, 2, none⟩ (.bool true)).cell? ⟨bx, o, none⟩ = some (.bool false) ∧ (w1.setCell ⟨g, 2, none⟩ (.bool true)).frozen? ⟨bx, o, none⟩ = false ∧ (w1.setCell ⟨g, 2, none⟩ (.bool true)).heap[bx]? = some (.cells xs ty (0, 0)) from fun w1 h1 f => by
    have hgr := h.lt
    have h2 : w1.heap[bx]? = some (.cells xs ty (0, 0)) := (f.block bx (by rw [World.size_alloc]; omega) ⟨hne, by omega, by omega⟩).trans (later_cells (Later.alloc W _) hx)
    have h3 := ((set_only w1 g 2 (.bool true)).block bx (lt_of_block h2) (fun e => hne (by injection e))).trans h2
    refine ⟨?_, ?_, (cell_row h1.box 2).2, ?_, (cell_row h3 o).2, h3⟩
    · rw [(cell_row h1.box 1).1]; rfl
    · rw [(cell_row h1.box 2).1]; rfl
    · rw [(cell_row h3 o).1]; exact ho)
  have HF := Lib.hid (show ∀ w1 : World, Fr (Ne3 g gr W.heap.size) (W.alloc (.cells #[.int .i64 0] 3)) w1 → Fr (Ne3 g gr bx) W ((w1.setCell ⟨g, 2, none⟩ (.bool true)).setCell ⟨bx, o, none⟩ (.bool false)) from fun w1 f => by
    have hl := Later.alloc W (.cells #[.int .i64 0] 3)
    have s1 := set_only w1 g 2 (.bool true)
    have s2 := set_only (w1.setCell ⟨g, 2, none⟩ (.bool true)) bx o (.bool false)
    refine ⟨(s2.os.trans (s1.os.trans f.os)).trans hl.os, (s2.tape.trans (s1.tape.trans f.tape)).trans hl.tape, (s2.output.trans (s1.output.trans f.output)).trans hl.output, Nat.le_trans hl.size (Nat.le_trans f.size (Nat.le_trans s1.size s2.size)), fun k hk hn => ?_⟩
    have hk1 : k < (W.alloc (.cells #[.int .i64 0] 3)).heap.size := Nat.lt_of_lt_of_le hk hl.size
    have hk2 := Nat.lt_of_lt_of_le hk1 f.size
    exact ((s2.block k (Nat.lt_of_lt_of_le hk2 s1.size) fun e => hn.2.2 (by injection e)).trans (s1.block k hk2 fun e => hn.1 (by injection e))).trans ((f.block k hk1 ⟨hn.1, hn.2.1, by omega⟩).trans (hl.block k hk)))
  have HB := Lib.hid hb
  have HNE := Lib.hid hne
  clear h hx ho hb hne hy hyy hy' hlt hgl HL
  go_enter Try.func37, Try.ntmps37
  go_wp2_with (go_at_call 35; (with_reducible refine HV.out.mono ?_); rintro r w1 ⟨rfl, h1, hn1, fr1⟩; obtain ⟨q1, q2, q3, q4, q5, q6⟩ := HX.out w1 h1 fr1; have HR := Lib.hid h1; have HG := Lib.hid (HF.out w1 fr1); have HQ := Lib.hid q6; have q7 : w1.cell? ⟨W.heap.size, 0, none⟩ = some (.int .i64 y) := (by rw [(cell_row hn1 0).1]; rfl); clear h1 fr1 q6 hn1)
  go_end0
  exact ⟨rfl, (HR.out.formed _).stored HB.out HNE.out _ _, set_row HQ.out _ _, HG.out⟩
theorem bit_in0false {W : World} {B0 g gr bx o e : Nat} {bs : B} {xs : Array Value} {ty : TypeId} (h : PIx W B0 g gr false e bs) (hx : W.heap[bx]? = some (.cells xs ty (0, 0))) (ho : xs[o]? = some (.bool false)) (hb : B0 ≤ bx) (hne : bx ≠ g) (hy : ∀ y, y = zagOf (numR bs e).1 → y = 0) :
    Calls Try.prog 37 #[.pointer (some ⟨g, 0, none⟩), .pointer (some ⟨bx, o, none⟩)] W fun r W' => r = .returned (.tuple #[]) ∧ PIx W' B0 g gr false (numR bs e).2.2 (numR bs e).2.1 ∧ W'.heap[bx]? = some (.cells (xs.setIfInBounds o (.bool false)) ty (0, 0)) ∧ Fr (Ne3 g gr bx) W W' := by
  have hlt := lt_of_block hx
  have hgl := lt_of_block h.box
  have hq : (W.alloc (.cells #[.int .i64 0] 3)).cell? ⟨bx, o, none⟩ = some (.bool false) := cell_keeps (Later.alloc W _) (by rw [(cell_row hx o).1]; exact ho)
  have HV := Lib.hid (int_in (bx := W.heap.size) (o := 0) (h.later (Later.alloc W (.cells #[.int .i64 0] 3))) (heap_alloc_new W _) (by simp) (by have := h.size; omega) (by omega))
  obtain ⟨y, hyy⟩ : ∃ y, y = zagOf (numR bs e).1 := ⟨_, rfl⟩
  rw [← hyy] at HV
  have hy' := hy y hyy
  have f1 : (y != 0) = false := by first | (simp; omega) | (simp [hy']) | (simp [hy'.1])
  have f2 : (y != 1) = true := by first | (simp; omega) | (simp [hy']) | (simp [hy'.1])
  have f3 : (y == 1) = false := by first | (simp; omega) | (simp [hy']) | (simp [hy'.1])
  have HL := Lib.hid (Fr.later (X := fun k => k ≠ g ∧ k ≠ gr ∧ k < W.heap.size) (Later.alloc W (.cells #[.int .i64 0] 3)))
  have HX := Lib.hid (show ∀ w1 : World, PIx w1 B0 g gr false (numR bs e).2.2 (numR bs e).2.1 → Fr (Ne3 g gr W.heap.size) (W.alloc (.cells #[.int .i64 0] 3)) w1 → w1.cell? ⟨g, 1, none⟩ = some (.pointer (some ⟨gr, 0, none⟩)) ∧ w1.cell? ⟨g, 2, none⟩ = some (.bool false) ∧ w1.frozen? ⟨g, 2, none⟩ = false ∧ (w1.setCell ⟨g, 2, none⟩ (.bool false)).cell? ⟨bx, o, none⟩ = some (.bool false) ∧ (w1.setCell ⟨g, 2, none⟩ (.bool false)).frozen? ⟨bx, o, none⟩ = false ∧ (w1.setCell ⟨g, 2, none⟩ (.bool false)).heap[bx]? = some (.cells xs ty (0, 0)) from fun w1 h1 f => by
    have hgr := h.lt
    have h2 : w1.heap[bx]? = some (.cells xs ty (0, 0)) := (f.block bx (by rw [World.size_alloc]; omega) ⟨hne, by omega, by omega⟩).trans (later_cells (Later.alloc W _) hx)
    have h3 := ((set_only w1 g 2 (.bool false)).block bx (lt_of_block h2) (fun e => hne (by injection e))).trans h2
    refine ⟨?_, ?_, (cell_row h1.box 2).2, ?_, (cell_row h3 o).2, h3⟩
    · rw [(cell_row h1.box 1).1]; rfl
    · rw [(cell_row h1.box 2).1]; rfl
    · rw [(cell_row h3 o).1]; exact ho)
  have HF := Lib.hid (show ∀ w1 : World, Fr (Ne3 g gr W.heap.size) (W.alloc (.cells #[.int .i64 0] 3)) w1 → Fr (Ne3 g gr bx) W ((w1.setCell ⟨g, 2, none⟩ (.bool false)).setCell ⟨bx, o, none⟩ (.bool false)) from fun w1 f => by
    have hl := Later.alloc W (.cells #[.int .i64 0] 3)
    have s1 := set_only w1 g 2 (.bool false)
    have s2 := set_only (w1.setCell ⟨g, 2, none⟩ (.bool false)) bx o (.bool false)
    refine ⟨(s2.os.trans (s1.os.trans f.os)).trans hl.os, (s2.tape.trans (s1.tape.trans f.tape)).trans hl.tape, (s2.output.trans (s1.output.trans f.output)).trans hl.output, Nat.le_trans hl.size (Nat.le_trans f.size (Nat.le_trans s1.size s2.size)), fun k hk hn => ?_⟩
    have hk1 : k < (W.alloc (.cells #[.int .i64 0] 3)).heap.size := Nat.lt_of_lt_of_le hk hl.size
    have hk2 := Nat.lt_of_lt_of_le hk1 f.size
    exact ((s2.block k (Nat.lt_of_lt_of_le hk2 s1.size) fun e => hn.2.2 (by injection e)).trans (s1.block k hk2 fun e => hn.1 (by injection e))).trans ((f.block k hk1 ⟨hn.1, hn.2.1, by omega⟩).trans (hl.block k hk)))
  have HB := Lib.hid hb
  have HNE := Lib.hid hne
  clear h hx ho hb hne hy hyy hy' hlt hgl HL
  go_enter Try.func37, Try.ntmps37
  go_wp2_with (go_at_call 35; (with_reducible refine HV.out.mono ?_); rintro r w1 ⟨rfl, h1, hn1, fr1⟩; obtain ⟨q1, q2, q3, q4, q5, q6⟩ := HX.out w1 h1 fr1; have HR := Lib.hid h1; have HG := Lib.hid (HF.out w1 fr1); have HQ := Lib.hid q6; have q7 : w1.cell? ⟨W.heap.size, 0, none⟩ = some (.int .i64 y) := (by rw [(cell_row hn1 0).1]; rfl); clear h1 fr1 q6 hn1)
  go_end0
  exact ⟨rfl, (HR.out.formed _).stored HB.out HNE.out _ _, set_row HQ.out _ _, HG.out⟩
theorem bit_in1true {W : World} {B0 g gr bx o e : Nat} {bs : B} {xs : Array Value} {ty : TypeId} (h : PIx W B0 g gr true e bs) (hx : W.heap[bx]? = some (.cells xs ty (0, 0))) (ho : xs[o]? = some (.bool false)) (hb : B0 ≤ bx) (hne : bx ≠ g) (hy : ∀ y, y = zagOf (numR bs e).1 → y = 1) :
    Calls Try.prog 37 #[.pointer (some ⟨g, 0, none⟩), .pointer (some ⟨bx, o, none⟩)] W fun r W' => r = .returned (.tuple #[]) ∧ PIx W' B0 g gr true (numR bs e).2.2 (numR bs e).2.1 ∧ W'.heap[bx]? = some (.cells (xs.setIfInBounds o (.bool true)) ty (0, 0)) ∧ Fr (Ne3 g gr bx) W W' := by
  have hlt := lt_of_block hx
  have hgl := lt_of_block h.box
  have hq : (W.alloc (.cells #[.int .i64 0] 3)).cell? ⟨bx, o, none⟩ = some (.bool false) := cell_keeps (Later.alloc W _) (by rw [(cell_row hx o).1]; exact ho)
  have HV := Lib.hid (int_in (bx := W.heap.size) (o := 0) (h.later (Later.alloc W (.cells #[.int .i64 0] 3))) (heap_alloc_new W _) (by simp) (by have := h.size; omega) (by omega))
  obtain ⟨y, hyy⟩ : ∃ y, y = zagOf (numR bs e).1 := ⟨_, rfl⟩
  rw [← hyy] at HV
  have hy' := hy y hyy
  have f1 : (y != 0) = true := by first | (simp; omega) | (simp [hy']) | (simp [hy'.1])
  have f2 : (y != 1) = false := by first | (simp; omega) | (simp [hy']) | (simp [hy'.1])
  have f3 : (y == 1) = true := by first | (simp; omega) | (simp [hy']) | (simp [hy'.1])
  have HL := Lib.hid (Fr.later (X := fun k => k ≠ g ∧ k ≠ gr ∧ k < W.heap.size) (Later.alloc W (.cells #[.int .i64 0] 3)))
  have HX := Lib.hid (show ∀ w1 : World, PIx w1 B0 g gr true (numR bs e).2.2 (numR bs e).2.1 → Fr (Ne3 g gr W.heap.size) (W.alloc (.cells #[.int .i64 0] 3)) w1 → w1.cell? ⟨g, 1, none⟩ = some (.pointer (some ⟨gr, 0, none⟩)) ∧ w1.cell? ⟨g, 2, none⟩ = some (.bool true) ∧ w1.frozen? ⟨g, 2, none⟩ = false ∧ (w1.setCell ⟨g, 2, none⟩ (.bool true)).cell? ⟨bx, o, none⟩ = some (.bool false) ∧ (w1.setCell ⟨g, 2, none⟩ (.bool true)).frozen? ⟨bx, o, none⟩ = false ∧ (w1.setCell ⟨g, 2, none⟩ (.bool true)).heap[bx]? = some (.cells xs ty (0, 0)) from fun w1 h1 f => by
    have hgr := h.lt
    have h2 : w1.heap[bx]? = some (.cells xs ty (0, 0)) := (f.block bx (by rw [World.size_alloc]; omega) ⟨hne, by omega, by omega⟩).trans (later_cells (Later.alloc W _) hx)
    have h3 := ((set_only w1 g 2 (.bool true)).block bx (lt_of_block h2) (fun e => hne (by injection e))).trans h2
    refine ⟨?_, ?_, (cell_row h1.box 2).2, ?_, (cell_row h3 o).2, h3⟩
    · rw [(cell_row h1.box 1).1]; rfl
    · rw [(cell_row h1.box 2).1]; rfl
    · rw [(cell_row h3 o).1]; exact ho)
  have HF := Lib.hid (show ∀ w1 : World, Fr (Ne3 g gr W.heap.size) (W.alloc (.cells #[.int .i64 0] 3)) w1 → Fr (Ne3 g gr bx) W ((w1.setCell ⟨g, 2, none⟩ (.bool true)).setCell ⟨bx, o, none⟩ (.bool true)) from fun w1 f => by
    have hl := Later.alloc W (.cells #[.int .i64 0] 3)
    have s1 := set_only w1 g 2 (.bool true)
    have s2 := set_only (w1.setCell ⟨g, 2, none⟩ (.bool true)) bx o (.bool true)
    refine ⟨(s2.os.trans (s1.os.trans f.os)).trans hl.os, (s2.tape.trans (s1.tape.trans f.tape)).trans hl.tape, (s2.output.trans (s1.output.trans f.output)).trans hl.output, Nat.le_trans hl.size (Nat.le_trans f.size (Nat.le_trans s1.size s2.size)), fun k hk hn => ?_⟩
    have hk1 : k < (W.alloc (.cells #[.int .i64 0] 3)).heap.size := Nat.lt_of_lt_of_le hk hl.size
    have hk2 := Nat.lt_of_lt_of_le hk1 f.size
    exact ((s2.block k (Nat.lt_of_lt_of_le hk2 s1.size) fun e => hn.2.2 (by injection e)).trans (s1.block k hk2 fun e => hn.1 (by injection e))).trans ((f.block k hk1 ⟨hn.1, hn.2.1, by omega⟩).trans (hl.block k hk)))
  have HB := Lib.hid hb
  have HNE := Lib.hid hne
  clear h hx ho hb hne hy hyy hy' hlt hgl HL
  go_enter Try.func37, Try.ntmps37
  go_wp2_with (go_at_call 35; (with_reducible refine HV.out.mono ?_); rintro r w1 ⟨rfl, h1, hn1, fr1⟩; obtain ⟨q1, q2, q3, q4, q5, q6⟩ := HX.out w1 h1 fr1; have HR := Lib.hid h1; have HG := Lib.hid (HF.out w1 fr1); have HQ := Lib.hid q6; have q7 : w1.cell? ⟨W.heap.size, 0, none⟩ = some (.int .i64 y) := (by rw [(cell_row hn1 0).1]; rfl); clear h1 fr1 q6 hn1)
  go_end0
  exact ⟨rfl, (HR.out.formed _).stored HB.out HNE.out _ _, set_row HQ.out _ _, HG.out⟩
theorem bit_in1false {W : World} {B0 g gr bx o e : Nat} {bs : B} {xs : Array Value} {ty : TypeId} (h : PIx W B0 g gr false e bs) (hx : W.heap[bx]? = some (.cells xs ty (0, 0))) (ho : xs[o]? = some (.bool false)) (hb : B0 ≤ bx) (hne : bx ≠ g) (hy : ∀ y, y = zagOf (numR bs e).1 → y = 1) :
    Calls Try.prog 37 #[.pointer (some ⟨g, 0, none⟩), .pointer (some ⟨bx, o, none⟩)] W fun r W' => r = .returned (.tuple #[]) ∧ PIx W' B0 g gr false (numR bs e).2.2 (numR bs e).2.1 ∧ W'.heap[bx]? = some (.cells (xs.setIfInBounds o (.bool true)) ty (0, 0)) ∧ Fr (Ne3 g gr bx) W W' := by
  have hlt := lt_of_block hx
  have hgl := lt_of_block h.box
  have hq : (W.alloc (.cells #[.int .i64 0] 3)).cell? ⟨bx, o, none⟩ = some (.bool false) := cell_keeps (Later.alloc W _) (by rw [(cell_row hx o).1]; exact ho)
  have HV := Lib.hid (int_in (bx := W.heap.size) (o := 0) (h.later (Later.alloc W (.cells #[.int .i64 0] 3))) (heap_alloc_new W _) (by simp) (by have := h.size; omega) (by omega))
  obtain ⟨y, hyy⟩ : ∃ y, y = zagOf (numR bs e).1 := ⟨_, rfl⟩
  rw [← hyy] at HV
  have hy' := hy y hyy
  have f1 : (y != 0) = true := by first | (simp; omega) | (simp [hy']) | (simp [hy'.1])
  have f2 : (y != 1) = false := by first | (simp; omega) | (simp [hy']) | (simp [hy'.1])
  have f3 : (y == 1) = true := by first | (simp; omega) | (simp [hy']) | (simp [hy'.1])
  have HL := Lib.hid (Fr.later (X := fun k => k ≠ g ∧ k ≠ gr ∧ k < W.heap.size) (Later.alloc W (.cells #[.int .i64 0] 3)))
  have HX := Lib.hid (show ∀ w1 : World, PIx w1 B0 g gr false (numR bs e).2.2 (numR bs e).2.1 → Fr (Ne3 g gr W.heap.size) (W.alloc (.cells #[.int .i64 0] 3)) w1 → w1.cell? ⟨g, 1, none⟩ = some (.pointer (some ⟨gr, 0, none⟩)) ∧ w1.cell? ⟨g, 2, none⟩ = some (.bool false) ∧ w1.frozen? ⟨g, 2, none⟩ = false ∧ (w1.setCell ⟨g, 2, none⟩ (.bool false)).cell? ⟨bx, o, none⟩ = some (.bool false) ∧ (w1.setCell ⟨g, 2, none⟩ (.bool false)).frozen? ⟨bx, o, none⟩ = false ∧ (w1.setCell ⟨g, 2, none⟩ (.bool false)).heap[bx]? = some (.cells xs ty (0, 0)) from fun w1 h1 f => by
    have hgr := h.lt
    have h2 : w1.heap[bx]? = some (.cells xs ty (0, 0)) := (f.block bx (by rw [World.size_alloc]; omega) ⟨hne, by omega, by omega⟩).trans (later_cells (Later.alloc W _) hx)
    have h3 := ((set_only w1 g 2 (.bool false)).block bx (lt_of_block h2) (fun e => hne (by injection e))).trans h2
    refine ⟨?_, ?_, (cell_row h1.box 2).2, ?_, (cell_row h3 o).2, h3⟩
    · rw [(cell_row h1.box 1).1]; rfl
    · rw [(cell_row h1.box 2).1]; rfl
    · rw [(cell_row h3 o).1]; exact ho)
  have HF := Lib.hid (show ∀ w1 : World, Fr (Ne3 g gr W.heap.size) (W.alloc (.cells #[.int .i64 0] 3)) w1 → Fr (Ne3 g gr bx) W ((w1.setCell ⟨g, 2, none⟩ (.bool false)).setCell ⟨bx, o, none⟩ (.bool true)) from fun w1 f => by
    have hl := Later.alloc W (.cells #[.int .i64 0] 3)
    have s1 := set_only w1 g 2 (.bool false)
    have s2 := set_only (w1.setCell ⟨g, 2, none⟩ (.bool false)) bx o (.bool true)
    refine ⟨(s2.os.trans (s1.os.trans f.os)).trans hl.os, (s2.tape.trans (s1.tape.trans f.tape)).trans hl.tape, (s2.output.trans (s1.output.trans f.output)).trans hl.output, Nat.le_trans hl.size (Nat.le_trans f.size (Nat.le_trans s1.size s2.size)), fun k hk hn => ?_⟩
    have hk1 : k < (W.alloc (.cells #[.int .i64 0] 3)).heap.size := Nat.lt_of_lt_of_le hk hl.size
    have hk2 := Nat.lt_of_lt_of_le hk1 f.size
    exact ((s2.block k (Nat.lt_of_lt_of_le hk2 s1.size) fun e => hn.2.2 (by injection e)).trans (s1.block k hk2 fun e => hn.1 (by injection e))).trans ((f.block k hk1 ⟨hn.1, hn.2.1, by omega⟩).trans (hl.block k hk)))
  have HB := Lib.hid hb
  have HNE := Lib.hid hne
  clear h hx ho hb hne hy hyy hy' hlt hgl HL
  go_enter Try.func37, Try.ntmps37
  go_wp2_with (go_at_call 35; (with_reducible refine HV.out.mono ?_); rintro r w1 ⟨rfl, h1, hn1, fr1⟩; obtain ⟨q1, q2, q3, q4, q5, q6⟩ := HX.out w1 h1 fr1; have HR := Lib.hid h1; have HG := Lib.hid (HF.out w1 fr1); have HQ := Lib.hid q6; have q7 : w1.cell? ⟨W.heap.size, 0, none⟩ = some (.int .i64 y) := (by rw [(cell_row hn1 0).1]; rfl); clear h1 fr1 q6 hn1)
  go_end0
  exact ⟨rfl, (HR.out.formed _).stored HB.out HNE.out _ _, set_row HQ.out _ _, HG.out⟩
theorem bit_in2true {W : World} {B0 g gr bx o e : Nat} {bs : B} {xs : Array Value} {ty : TypeId} (h : PIx W B0 g gr true e bs) (hx : W.heap[bx]? = some (.cells xs ty (0, 0))) (ho : xs[o]? = some (.bool false)) (hb : B0 ≤ bx) (hne : bx ≠ g) (hy : ∀ y, y = zagOf (numR bs e).1 → y ≠ 0 ∧ y ≠ 1) :
    Calls Try.prog 37 #[.pointer (some ⟨g, 0, none⟩), .pointer (some ⟨bx, o, none⟩)] W fun r W' => r = .returned (.tuple #[]) ∧ PIx W' B0 g gr true (numR bs e).2.2 (numR bs e).2.1 ∧ W'.heap[bx]? = some (.cells (xs.setIfInBounds o (.bool false)) ty (0, 0)) ∧ Fr (Ne3 g gr bx) W W' := by
  have hlt := lt_of_block hx
  have hgl := lt_of_block h.box
  have hq : (W.alloc (.cells #[.int .i64 0] 3)).cell? ⟨bx, o, none⟩ = some (.bool false) := cell_keeps (Later.alloc W _) (by rw [(cell_row hx o).1]; exact ho)
  have HV := Lib.hid (int_in (bx := W.heap.size) (o := 0) (h.later (Later.alloc W (.cells #[.int .i64 0] 3))) (heap_alloc_new W _) (by simp) (by have := h.size; omega) (by omega))
  obtain ⟨y, hyy⟩ : ∃ y, y = zagOf (numR bs e).1 := ⟨_, rfl⟩
  rw [← hyy] at HV
  have hy' := hy y hyy
  have f1 : (y != 0) = true := by first | (simp; omega) | (simp [hy']) | (simp [hy'.1])
  have f2 : (y != 1) = true := by first | (simp; omega) | (simp [hy']) | (simp [hy'.1])
  have f3 : (y == 1) = false := by first | (simp; omega) | (simp [hy']) | (simp [hy'.1])
  have HL := Lib.hid (Fr.later (X := fun k => k ≠ g ∧ k ≠ gr ∧ k < W.heap.size) (Later.alloc W (.cells #[.int .i64 0] 3)))
  have HX := Lib.hid (show ∀ w1 : World, PIx w1 B0 g gr true (numR bs e).2.2 (numR bs e).2.1 → Fr (Ne3 g gr W.heap.size) (W.alloc (.cells #[.int .i64 0] 3)) w1 → w1.cell? ⟨g, 1, none⟩ = some (.pointer (some ⟨gr, 0, none⟩)) ∧ w1.cell? ⟨g, 2, none⟩ = some (.bool true) ∧ w1.frozen? ⟨g, 2, none⟩ = false ∧ (w1.setCell ⟨g, 2, none⟩ (.bool true)).cell? ⟨bx, o, none⟩ = some (.bool false) ∧ (w1.setCell ⟨g, 2, none⟩ (.bool true)).frozen? ⟨bx, o, none⟩ = false ∧ (w1.setCell ⟨g, 2, none⟩ (.bool true)).heap[bx]? = some (.cells xs ty (0, 0)) from fun w1 h1 f => by
    have hgr := h.lt
    have h2 : w1.heap[bx]? = some (.cells xs ty (0, 0)) := (f.block bx (by rw [World.size_alloc]; omega) ⟨hne, by omega, by omega⟩).trans (later_cells (Later.alloc W _) hx)
    have h3 := ((set_only w1 g 2 (.bool true)).block bx (lt_of_block h2) (fun e => hne (by injection e))).trans h2
    refine ⟨?_, ?_, (cell_row h1.box 2).2, ?_, (cell_row h3 o).2, h3⟩
    · rw [(cell_row h1.box 1).1]; rfl
    · rw [(cell_row h1.box 2).1]; rfl
    · rw [(cell_row h3 o).1]; exact ho)
  have HF := Lib.hid (show ∀ w1 : World, Fr (Ne3 g gr W.heap.size) (W.alloc (.cells #[.int .i64 0] 3)) w1 → Fr (Ne3 g gr bx) W ((w1.setCell ⟨g, 2, none⟩ (.bool true)).setCell ⟨bx, o, none⟩ (.bool false)) from fun w1 f => by
    have hl := Later.alloc W (.cells #[.int .i64 0] 3)
    have s1 := set_only w1 g 2 (.bool true)
    have s2 := set_only (w1.setCell ⟨g, 2, none⟩ (.bool true)) bx o (.bool false)
    refine ⟨(s2.os.trans (s1.os.trans f.os)).trans hl.os, (s2.tape.trans (s1.tape.trans f.tape)).trans hl.tape, (s2.output.trans (s1.output.trans f.output)).trans hl.output, Nat.le_trans hl.size (Nat.le_trans f.size (Nat.le_trans s1.size s2.size)), fun k hk hn => ?_⟩
    have hk1 : k < (W.alloc (.cells #[.int .i64 0] 3)).heap.size := Nat.lt_of_lt_of_le hk hl.size
    have hk2 := Nat.lt_of_lt_of_le hk1 f.size
    exact ((s2.block k (Nat.lt_of_lt_of_le hk2 s1.size) fun e => hn.2.2 (by injection e)).trans (s1.block k hk2 fun e => hn.1 (by injection e))).trans ((f.block k hk1 ⟨hn.1, hn.2.1, by omega⟩).trans (hl.block k hk)))
  have HB := Lib.hid hb
  have HNE := Lib.hid hne
  clear h hx ho hb hne hy hyy hy' hlt hgl HL
  go_enter Try.func37, Try.ntmps37
  go_wp2_with (go_at_call 35; (with_reducible refine HV.out.mono ?_); rintro r w1 ⟨rfl, h1, hn1, fr1⟩; obtain ⟨q1, q2, q3, q4, q5, q6⟩ := HX.out w1 h1 fr1; have HR := Lib.hid h1; have HG := Lib.hid (HF.out w1 fr1); have HQ := Lib.hid q6; have q7 : w1.cell? ⟨W.heap.size, 0, none⟩ = some (.int .i64 y) := (by rw [(cell_row hn1 0).1]; rfl); clear h1 fr1 q6 hn1)
  go_end0
  exact ⟨rfl, (HR.out.formed _).stored HB.out HNE.out _ _, set_row HQ.out _ _, HG.out⟩
theorem bit_in2false {W : World} {B0 g gr bx o e : Nat} {bs : B} {xs : Array Value} {ty : TypeId} (h : PIx W B0 g gr false e bs) (hx : W.heap[bx]? = some (.cells xs ty (0, 0))) (ho : xs[o]? = some (.bool false)) (hb : B0 ≤ bx) (hne : bx ≠ g) (hy : ∀ y, y = zagOf (numR bs e).1 → y ≠ 0 ∧ y ≠ 1) :
    Calls Try.prog 37 #[.pointer (some ⟨g, 0, none⟩), .pointer (some ⟨bx, o, none⟩)] W fun r W' => r = .returned (.tuple #[]) ∧ PIx W' B0 g gr true (numR bs e).2.2 (numR bs e).2.1 ∧ W'.heap[bx]? = some (.cells (xs.setIfInBounds o (.bool false)) ty (0, 0)) ∧ Fr (Ne3 g gr bx) W W' := by
  have hlt := lt_of_block hx
  have hgl := lt_of_block h.box
  have hq : (W.alloc (.cells #[.int .i64 0] 3)).cell? ⟨bx, o, none⟩ = some (.bool false) := cell_keeps (Later.alloc W _) (by rw [(cell_row hx o).1]; exact ho)
  have HV := Lib.hid (int_in (bx := W.heap.size) (o := 0) (h.later (Later.alloc W (.cells #[.int .i64 0] 3))) (heap_alloc_new W _) (by simp) (by have := h.size; omega) (by omega))
  obtain ⟨y, hyy⟩ : ∃ y, y = zagOf (numR bs e).1 := ⟨_, rfl⟩
  rw [← hyy] at HV
  have hy' := hy y hyy
  have f1 : (y != 0) = true := by first | (simp; omega) | (simp [hy']) | (simp [hy'.1])
  have f2 : (y != 1) = true := by first | (simp; omega) | (simp [hy']) | (simp [hy'.1])
  have f3 : (y == 1) = false := by first | (simp; omega) | (simp [hy']) | (simp [hy'.1])
  have HL := Lib.hid (Fr.later (X := fun k => k ≠ g ∧ k ≠ gr ∧ k < W.heap.size) (Later.alloc W (.cells #[.int .i64 0] 3)))
  have HX := Lib.hid (show ∀ w1 : World, PIx w1 B0 g gr false (numR bs e).2.2 (numR bs e).2.1 → Fr (Ne3 g gr W.heap.size) (W.alloc (.cells #[.int .i64 0] 3)) w1 → w1.cell? ⟨g, 1, none⟩ = some (.pointer (some ⟨gr, 0, none⟩)) ∧ w1.cell? ⟨g, 2, none⟩ = some (.bool false) ∧ w1.frozen? ⟨g, 2, none⟩ = false ∧ (w1.setCell ⟨g, 2, none⟩ (.bool true)).cell? ⟨bx, o, none⟩ = some (.bool false) ∧ (w1.setCell ⟨g, 2, none⟩ (.bool true)).frozen? ⟨bx, o, none⟩ = false ∧ (w1.setCell ⟨g, 2, none⟩ (.bool true)).heap[bx]? = some (.cells xs ty (0, 0)) from fun w1 h1 f => by
    have hgr := h.lt
    have h2 : w1.heap[bx]? = some (.cells xs ty (0, 0)) := (f.block bx (by rw [World.size_alloc]; omega) ⟨hne, by omega, by omega⟩).trans (later_cells (Later.alloc W _) hx)
    have h3 := ((set_only w1 g 2 (.bool true)).block bx (lt_of_block h2) (fun e => hne (by injection e))).trans h2
    refine ⟨?_, ?_, (cell_row h1.box 2).2, ?_, (cell_row h3 o).2, h3⟩
    · rw [(cell_row h1.box 1).1]; rfl
    · rw [(cell_row h1.box 2).1]; rfl
    · rw [(cell_row h3 o).1]; exact ho)
  have HF := Lib.hid (show ∀ w1 : World, Fr (Ne3 g gr W.heap.size) (W.alloc (.cells #[.int .i64 0] 3)) w1 → Fr (Ne3 g gr bx) W ((w1.setCell ⟨g, 2, none⟩ (.bool true)).setCell ⟨bx, o, none⟩ (.bool false)) from fun w1 f => by
    have hl := Later.alloc W (.cells #[.int .i64 0] 3)
    have s1 := set_only w1 g 2 (.bool true)
    have s2 := set_only (w1.setCell ⟨g, 2, none⟩ (.bool true)) bx o (.bool false)
    refine ⟨(s2.os.trans (s1.os.trans f.os)).trans hl.os, (s2.tape.trans (s1.tape.trans f.tape)).trans hl.tape, (s2.output.trans (s1.output.trans f.output)).trans hl.output, Nat.le_trans hl.size (Nat.le_trans f.size (Nat.le_trans s1.size s2.size)), fun k hk hn => ?_⟩
    have hk1 : k < (W.alloc (.cells #[.int .i64 0] 3)).heap.size := Nat.lt_of_lt_of_le hk hl.size
    have hk2 := Nat.lt_of_lt_of_le hk1 f.size
    exact ((s2.block k (Nat.lt_of_lt_of_le hk2 s1.size) fun e => hn.2.2 (by injection e)).trans (s1.block k hk2 fun e => hn.1 (by injection e))).trans ((f.block k hk1 ⟨hn.1, hn.2.1, by omega⟩).trans (hl.block k hk)))
  have HB := Lib.hid hb
  have HNE := Lib.hid hne
  clear h hx ho hb hne hy hyy hy' hlt hgl HL
  go_enter Try.func37, Try.ntmps37
  go_wp2_with (go_at_call 35; (with_reducible refine HV.out.mono ?_); rintro r w1 ⟨rfl, h1, hn1, fr1⟩; obtain ⟨q1, q2, q3, q4, q5, q6⟩ := HX.out w1 h1 fr1; have HR := Lib.hid h1; have HG := Lib.hid (HF.out w1 fr1); have HQ := Lib.hid q6; have q7 : w1.cell? ⟨W.heap.size, 0, none⟩ = some (.int .i64 y) := (by rw [(cell_row hn1 0).1]; rfl); clear h1 fr1 q6 hn1)
  go_end0
  exact ⟨rfl, (HR.out.formed _).stored HB.out HNE.out _ _, set_row HQ.out _ _, HG.out⟩
end Ks
end Go.Proofs.Yteljmlodbnfhbaa
