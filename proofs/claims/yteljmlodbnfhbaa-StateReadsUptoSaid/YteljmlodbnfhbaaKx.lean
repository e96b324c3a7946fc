/- A port through which things come in: numbers and texts. No premises. -/
import Derived.Test.YteljmlodbnfhbaaKu
namespace Go.Proofs.Yteljmlodbnfhbaa
open Go.RowKit
namespace Ks
set_option maxRecDepth 100000
/-- All blocks but these. -/
def Ne3 (g gr bx : Nat) : Nat → Prop := fun k => k ≠ g ∧ k ≠ gr ∧ k ≠ bx
/-- What is still to come, or what was wrong. -/
def stE (form : Bool) (e : Nat) (bs : B) : Except Nat B := if form = true then .error 11 else if e = 0 then .ok bs else .error e
/-- A port in block g over a reader in block gr, of the bytes that are left. -/
structure PIx (w : World) (B0 g gr : Nat) (form : Bool) (e : Nat) (bs : B) : Prop where
  box : w.heap[g]? = some (.cells #[.slice none 0 0, .pointer (some ⟨gr, 0, none⟩), .bool form] 73 (0, 0))
  rdr : Rdr w B0 gr bs e
  ge : B0 ≤ g
def PI (w : World) (B0 g gr : Nat) (st : Except Nat B) : Prop := ∃ form e bs, PIx w B0 g gr form e bs ∧ stE form e bs = st
section
variable {w w' w1 : World} {B0 g gr bx e e' : Nat} {form : Bool} {bs bs' : B} {st : Except Nat B}
theorem PIx.lt (h : PIx w B0 g gr form e bs) : gr < B0 := h.rdr.lt
theorem PIx.step (h : PIx w B0 g gr form e bs) (hr : Rdr w1 B0 gr bs' e') (hg : w.grownBy w1 (some gr)) : PIx w1 B0 g gr form e' bs' :=
  ⟨(hg.block g (lt_of_block h.box) (fun e => by injection e with e; have := h.lt; have := h.ge; omega)).trans h.box, hr, h.ge⟩
theorem below_set (w : World) (b o : Nat) (u : Value) {B1 : Nat} (h : B1 ≤ b) (hb : B1 ≤ w.heap.size) : Below B1 w (w.setCell ⟨b, o, none⟩ u) :=
  (Below.refl B1 w).grown (set_only w b o u) hb fun k hk => by injection hk with hk; omega
theorem PIx.size (h : PIx w B0 g gr form e bs) : B0 ≤ w.heap.size := by have := lt_of_block h.box; have := h.ge; omega
theorem PIx.stored (h : PIx w B0 g gr form e bs) (hb : B0 ≤ bx) (hne : bx ≠ g) (o : Nat) (u : Value) : PIx (w.setCell ⟨bx, o, none⟩ u) B0 g gr form e bs :=
  ⟨((set_only w bx o u).block g (lt_of_block h.box) (fun e => by injection e with e; exact hne e.symm)).trans h.box, h.rdr.below (below_set w bx o u hb h.size), h.ge⟩
theorem PIx.later (h : PIx w B0 g gr form e bs) (hl : Later w w') : PIx w' B0 g gr form e bs := ⟨later_cells hl h.box, h.rdr.below (Below.mono hl h.size), h.ge⟩
theorem PIx.formed (h : PIx w B0 g gr form e bs) (b : Bool) : PIx (w.setCell ⟨g, 2, none⟩ (.bool b)) B0 g gr b e bs :=
  ⟨by rw [set_row h.box 2]; rfl, h.rdr.below (below_set w g 2 _ h.ge h.size), h.ge⟩
theorem PI.later (h : PI w B0 g gr st) (hl : Later w w') : PI w' B0 g gr st := by
  obtain ⟨form, e, bs, h, hs⟩ := h
  exact ⟨form, e, bs, h.later hl, hs⟩
theorem Fr.one {w w1 w2 : World} {g gr bx : Nat} {o : Nat} {u : Value} (hg : w.grownBy w1 (some gr)) (h2 : w2 = w1.setCell ⟨bx, o, none⟩ u) : Fr (Ne3 g gr bx) w w2 := by
  subst h2
  exact (Fr.grown hg fun x e hx => hx.2.1 (by injection e with e; exact e.symm)).trans (Fr.grown (set_only w1 bx o u) fun x e hx => hx.2.2 (by injection e with e; exact e.symm))
end
theorem int_in {W : World} {B0 g gr bx o e : Nat} {form : Bool} {bs : B} {xs : Array Value} {ty : TypeId} (h : PIx W B0 g gr form e bs) (hx : W.heap[bx]? = some (.cells xs ty (0, 0))) (ho : o < xs.size) (hb : B0 ≤ bx) (hne : bx ≠ g) :
    Calls Try.prog 35 #[.pointer (some ⟨g, 0, none⟩), .pointer (some ⟨bx, o, none⟩)] W fun r W' => r = .returned (.tuple #[]) ∧ PIx W' B0 g gr form (numR bs e).2.2 (numR bs e).2.1 ∧ W'.heap[bx]? = some (.cells (xs.setIfInBounds o (.int .i64 (zagOf (numR bs e).1))) ty (0, 0)) ∧ Fr (Ne3 g gr bx) W W' := by
  have hv := int_v W B0 gr bs e h.rdr
  obtain ⟨y, hy⟩ : ∃ y : Value, y = .int .i64 (zagOf (numR bs e).1) := ⟨_, rfl⟩
  obtain ⟨v, hvv⟩ : ∃ v, v = zagOf (numR bs e).1 := ⟨_, rfl⟩
  have hyv : y = .int .i64 v := by rw [hy, hvv]
  rw [← hvv] at hv
  rw [← hy, hyv]
  have hgr := h.lt
  have HV := Lib.hid hv
  have HH := Lib.hid h
  have hc1 := (cell_row h.box 1).1
  simp at hc1
  have HX := Lib.hid (show ∀ w1 : World, W.grownBy w1 (some gr) → ∃ old, w1.cell? ⟨bx, o, none⟩ = some old ∧ w1.frozen? ⟨bx, o, none⟩ = false ∧ w1.heap[bx]? = some (.cells xs ty (0, 0)) ∧ w1.cell? ⟨g, 1, none⟩ = some (.pointer (some ⟨gr, 0, none⟩)) from fun w1 hg => by
    have h1 : w1.heap[bx]? = some (.cells xs ty (0, 0)) := grown_cells hg hx (by omega)
    have h2 := grown_cells hg h.box (by have := h.ge; omega)
    refine ⟨xs[o], ?_, (cell_row h1 o).2, h1, ?_⟩
    · rw [(cell_row h1 o).1, Array.getElem?_eq_getElem ho]
    · rw [(cell_row h2 1).1]; rfl)
  have HB := Lib.hid hb
  have HNE := Lib.hid hne
  clear hv h hx ho hb hne hgr hvv hy hyv
  go_enter Try.func35, Try.ntmps35
  go_wp2_with (go_at_call 63; with_reducible refine HV.out.mono ?_; rintro r w1 ⟨rfl, hr1, hg1⟩; obtain ⟨old, q1, q2, q3, q4⟩ := HX.out w1 hg1; have HR := Lib.hid (HH.out.step hr1 hg1); have HG := Lib.hid hg1; have HQ := Lib.hid q3; clear hr1 hg1 q3)
  go_end0
  exact ⟨rfl, HR.out.stored HB.out HNE.out _ _, set_row HQ.out _ _, Fr.one HG.out rfl⟩
theorem int64_in {W : World} {B0 g gr bx o e : Nat} {form : Bool} {bs : B} {xs : Array Value} {ty : TypeId} (h : PIx W B0 g gr form e bs) (hx : W.heap[bx]? = some (.cells xs ty (0, 0))) (ho : o < xs.size) (hb : B0 ≤ bx) (hne : bx ≠ g) :
    Calls Try.prog 57 #[.pointer (some ⟨g, 0, none⟩), .pointer (some ⟨bx, o, none⟩)] W fun r W' => r = .returned (.tuple #[]) ∧ PIx W' B0 g gr form (numR bs e).2.2 (numR bs e).2.1 ∧ W'.heap[bx]? = some (.cells (xs.setIfInBounds o (.int .i64 (zagOf (numR bs e).1))) ty (0, 0)) ∧ Fr (Ne3 g gr bx) W W' := by
  have hv := int_v W B0 gr bs e h.rdr
  obtain ⟨y, hy⟩ : ∃ y : Value, y = .int .i64 (zagOf (numR bs e).1) := ⟨_, rfl⟩
  obtain ⟨v, hvv⟩ : ∃ v, v = zagOf (numR bs e).1 := ⟨_, rfl⟩
  have hyv : y = .int .i64 v := by rw [hy, hvv]
  rw [← hvv] at hv
  rw [← hy, hyv]
  have hgr := h.lt
  have HV := Lib.hid hv
  have HH := Lib.hid h
  have hc1 := (cell_row h.box 1).1
  simp at hc1
  have HX := Lib.hid (show ∀ w1 : World, W.grownBy w1 (some gr) → ∃ old, w1.cell? ⟨bx, o, none⟩ = some old ∧ w1.frozen? ⟨bx, o, none⟩ = false ∧ w1.heap[bx]? = some (.cells xs ty (0, 0)) ∧ w1.cell? ⟨g, 1, none⟩ = some (.pointer (some ⟨gr, 0, none⟩)) from fun w1 hg => by
    have h1 : w1.heap[bx]? = some (.cells xs ty (0, 0)) := grown_cells hg hx (by omega)
    have h2 := grown_cells hg h.box (by have := h.ge; omega)
    refine ⟨xs[o], ?_, (cell_row h1 o).2, h1, ?_⟩
    · rw [(cell_row h1 o).1, Array.getElem?_eq_getElem ho]
    · rw [(cell_row h2 1).1]; rfl)
  have HB := Lib.hid hb
  have HNE := Lib.hid hne
  clear hv h hx ho hb hne hgr hvv hy hyv
  go_enter Try.func57, Try.ntmps57
  go_wp2_with (go_at_call 63; with_reducible refine HV.out.mono ?_; rintro r w1 ⟨rfl, hr1, hg1⟩; obtain ⟨old, q1, q2, q3, q4⟩ := HX.out w1 hg1; have HR := Lib.hid (HH.out.step hr1 hg1); have HG := Lib.hid hg1; have HQ := Lib.hid q3; clear hr1 hg1 q3)
  go_end0
  exact ⟨rfl, HR.out.stored HB.out HNE.out _ _, set_row HQ.out _ _, Fr.one HG.out rfl⟩
theorem errno_in {W : World} {B0 g gr bx o e : Nat} {form : Bool} {bs : B} {xs : Array Value} {ty : TypeId} (h : PIx W B0 g gr form e bs) (hx : W.heap[bx]? = some (.cells xs ty (0, 0))) (ho : o < xs.size) (hb : B0 ≤ bx) (hne : bx ≠ g) :
    Calls Try.prog 38 #[.pointer (some ⟨g, 0, none⟩), .pointer (some ⟨bx, o, none⟩)] W fun r W' => r = .returned (.tuple #[]) ∧ PIx W' B0 g gr form (numR bs e).2.2 (numR bs e).2.1 ∧ W'.heap[bx]? = some (.cells (xs.setIfInBounds o (.int .i64 (zagOf (numR bs e).1))) ty (0, 0)) ∧ Fr (Ne3 g gr bx) W W' := by
  have hv := int_v W B0 gr bs e h.rdr
  obtain ⟨y, hy⟩ : ∃ y : Value, y = .int .i64 (zagOf (numR bs e).1) := ⟨_, rfl⟩
  obtain ⟨v, hvv⟩ : ∃ v, v = zagOf (numR bs e).1 := ⟨_, rfl⟩
  have hyv : y = .int .i64 v := by rw [hy, hvv]
  rw [← hvv] at hv
  rw [← hy, hyv]
  have hgr := h.lt
  have HV := Lib.hid hv
  have HH := Lib.hid h
  have hc1 := (cell_row h.box 1).1
  simp at hc1
  have HX := Lib.hid (show ∀ w1 : World, W.grownBy w1 (some gr) → ∃ old, w1.cell? ⟨bx, o, none⟩ = some old ∧ w1.frozen? ⟨bx, o, none⟩ = false ∧ w1.heap[bx]? = some (.cells xs ty (0, 0)) ∧ w1.cell? ⟨g, 1, none⟩ = some (.pointer (some ⟨gr, 0, none⟩)) from fun w1 hg => by
    have h1 : w1.heap[bx]? = some (.cells xs ty (0, 0)) := grown_cells hg hx (by omega)
    have h2 := grown_cells hg h.box (by have := h.ge; omega)
    refine ⟨xs[o], ?_, (cell_row h1 o).2, h1, ?_⟩
    · rw [(cell_row h1 o).1, Array.getElem?_eq_getElem ho]
    · rw [(cell_row h2 1).1]; rfl)
  have HB := Lib.hid hb
  have HNE := Lib.hid hne
  clear hv h hx ho hb hne hgr hvv hy hyv
  go_enter Try.func38, Try.ntmps38
  go_wp2_with (go_at_call 63; with_reducible refine HV.out.mono ?_; rintro r w1 ⟨rfl, hr1, hg1⟩; obtain ⟨old, q1, q2, q3, q4⟩ := HX.out w1 hg1; have HR := Lib.hid (HH.out.step hr1 hg1); have HG := Lib.hid hg1; have HQ := Lib.hid q3; clear hr1 hg1 q3)
  go_end0
  exact ⟨rfl, HR.out.stored HB.out HNE.out _ _, set_row HQ.out _ _, Fr.one HG.out rfl⟩
theorem text_in {W : World} {B0 g gr bx o e : Nat} {form : Bool} {bs : B} {xs : Array Value} {ty : TypeId} (h : PIx W B0 g gr form e bs) (hx : W.heap[bx]? = some (.cells xs ty (0, 0))) (ho : o < xs.size) (hb : B0 ≤ bx) (hne : bx ≠ g) :
    Calls Try.prog 29 #[.pointer (some ⟨g, 0, none⟩), .pointer (some ⟨bx, o, none⟩)] W fun r W' => r = .returned (.tuple #[]) ∧ PIx W' B0 g gr form (textR bs e).2.2 (textR bs e).2.1 ∧ W'.heap[bx]? = some (.cells (xs.setIfInBounds o (.string (mkS (textR bs e).1))) ty (0, 0)) ∧ Fr (Ne3 g gr bx) W W' := by
  have hv := Go.Proofs.Yteljmlodbnfhbaa.text_v W B0 gr bs e h.rdr
  obtain ⟨y, hy⟩ : ∃ y : Value, y = .string (mkS (textR bs e).1) := ⟨_, rfl⟩
  obtain ⟨v, hvv⟩ : ∃ v, v = (textR bs e).1 := ⟨_, rfl⟩
  have hyv : y = .string (mkS v) := by rw [hy, hvv]
  rw [← hvv] at hv
  rw [← hy, hyv]
  have hgr := h.lt
  have HV := Lib.hid hv
  have HH := Lib.hid h
  have hc1 := (cell_row h.box 1).1
  simp at hc1
  have HX := Lib.hid (show ∀ w1 : World, W.grownBy w1 (some gr) → ∃ old, w1.cell? ⟨bx, o, none⟩ = some old ∧ w1.frozen? ⟨bx, o, none⟩ = false ∧ w1.heap[bx]? = some (.cells xs ty (0, 0)) ∧ w1.cell? ⟨g, 1, none⟩ = some (.pointer (some ⟨gr, 0, none⟩)) from fun w1 hg => by
    have h1 : w1.heap[bx]? = some (.cells xs ty (0, 0)) := grown_cells hg hx (by omega)
    have h2 := grown_cells hg h.box (by have := h.ge; omega)
    refine ⟨xs[o], ?_, (cell_row h1 o).2, h1, ?_⟩
    · rw [(cell_row h1 o).1, Array.getElem?_eq_getElem ho]
    · rw [(cell_row h2 1).1]; rfl)
  have HB := Lib.hid hb
  have HNE := Lib.hid hne
  clear hv h hx ho hb hne hgr hvv hy hyv
  go_enter Try.func29, Try.ntmps29
  go_wp2_with (go_at_call 53; with_reducible refine HV.out.mono ?_; rintro r w1 ⟨rfl, hr1, hg1⟩; obtain ⟨old, q1, q2, q3, q4⟩ := HX.out w1 hg1; have HR := Lib.hid (HH.out.step hr1 hg1); have HG := Lib.hid hg1; have HQ := Lib.hid q3; clear hr1 hg1 q3)
  go_end0
  exact ⟨rfl, HR.out.stored HB.out HNE.out _ _, set_row HQ.out _ _, Fr.one HG.out rfl⟩
end Ks
end Go.Proofs.Yteljmlodbnfhbaa
