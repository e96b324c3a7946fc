/- A reader in memory, and its tables. No premises. -/
import Derived.Test.YtcidklbeafjmoaaGreatDoorAm
import Derived.Maps.OwnSet
import Derived.Maps.Views
namespace Go.Proofs.YtcidklbeafjmoaaGreatDoor
open Go.RowKit Go.Maps
namespace Ar
def heldR (v : Value) : Option (DataW Value × List MemPlace) := some (.held v, [])
/-- Block m is a table of functions by text. -/
def TabS (W : World) (m k : Nat) (f : L → Option Value) : Prop :=
  ∃ D n, W.ownsMap Tryz.prog 9 heldR m n D ∧ n ≤ k ∧ ∀ c, Maps.has D (.string c) = (f c).isSome ∧ ∀ z, D.atKey (.string c) (.held z) = .held ((f c).getD z)
theorem str_keyed : Keyed Tryz.prog 9 := string_keyed Tryz.underlying9
theorem keyOf_str (t : L) (ht : t.length ≤ 5000) : keyOf Tryz.prog 9 (sv t) = some (.string t) := by
  have h1 : (mkS t).size ≤ maxLen := by rw [mkS_size]; unfold maxLen; omega
  rw [keyOf_string Tryz.underlying9]
  simp [sv, mapKey, Tryz.underlying9, h1, mkS_list]
theorem TabS.kept {W W' : World} {m k : Nat} {f : L → Option Value} {row : Option Nat} (h : TabS W m k f) (hg : W.grownBy W' row) (hne : some m ≠ row) : TabS W' m k f := by
  obtain ⟨D, n, h1, h2, h3⟩ := h
  exact ⟨D, n, h1.kept hg hne, h2, h3⟩
theorem TabS.lt {W : World} {m k : Nat} {f : L → Option Value} (h : TabS W m k f) : m < W.heap.size := by
  obtain ⟨D, n, h1, _⟩ := h
  exact h1.lt
theorem TabS.look {W : World} {m k : Nat} {f : L → Option Value} (h : TabS W m k f) (c : L) (hc : c.length ≤ 5000) : (Instr.lookup 41 (.map (some m)) (.string (mkS c)) true).run Tryz.prog W = .ok (.tuple #[(f c).getD .nilFunc, .bool (f c).isSome]) W := by
  obtain ⟨D, k, h1, _, h3⟩ := h
  obtain ⟨v, ps, hrun, hv⟩ := World.ownsMap.look_ok (w := W) h1 str_keyed Tryz.underlying41 (z := .nilFunc) (by kernel_rfl) (zd := .held .nilFunc) (zp := []) rfl (keyOf_str c hc)
  rw [(h3 c).2 .nilFunc] at hv
  simp only [heldR, Option.some.injEq, Prod.mk.injEq, DataW.held.injEq] at hv
  rw [show (Value.string (mkS c)) = sv c from rfl, hrun, hv.1, (h3 c).1]
theorem TabS.look2 {W : World} {m k : Nat} {f : L → Option Value} (h : TabS W m k f) (c : L) (hc : c.length ≤ 5000) : (Instr.lookup 42 (.map (some m)) (.string (mkS c)) false).run Tryz.prog W = .ok ((f c).getD .nilFunc) W := by
  obtain ⟨D, k, h1, _, h3⟩ := h
  obtain ⟨v, ps, hrun, hv⟩ := World.ownsMap.lookup (w := W) h1 str_keyed Tryz.underlying42 (z := .nilFunc) (by kernel_rfl) (zd := .held .nilFunc) (zp := []) rfl (keyOf_str c hc)
  rw [(h3 c).2 .nilFunc] at hv
  simp only [heldR, Option.some.injEq, Prod.mk.injEq, DataW.held.injEq] at hv
  rw [show (Value.string (mkS c)) = sv c from rfl, hrun, hv.1]
/-- What the signs ahead of something do. -/
def fn0 (f : Nat) : Value := .func (.func f) #[] #[]
def aheadT (t : L) : Option Value := if t = [33] then some (fn0 38) else if t = [126] then some (fn0 40) else if t = [43] then some (fn0 41) else if t = [45] then some (fn0 42) else none
def fnB (f b : Nat) : Value := .func (.func f) #[] #[.pointer (some ⟨b, 0, none⟩)]
/-- And those between two numbers; b: where the reader's address is kept for them. -/
def pairT (b : Nat) (t : L) : Option Value :=
  if t = [124, 124] then some (fn0 43) else if t = [38, 38] then some (fn0 44)
  else if t = [124] then some (fn0 45) else if t = [94] then some (fn0 46) else if t = [38] then some (fn0 47)
  else if t = [61, 61] then some (fn0 48) else if t = [33, 61] then some (fn0 49)
  else if t = [60] then some (fn0 50) else if t = [60, 61] then some (fn0 51) else if t = [62] then some (fn0 52) else if t = [62, 61] then some (fn0 53)
  else if t = [60, 60] then some (fn0 54) else if t = [62, 62] then some (fn0 55)
  else if t = [43] then some (fn0 56) else if t = [45] then some (fn0 57) else if t = [42] then some (fn0 58)
  else if t = [47] then some (fnB 59 b) else if t = [37] then some (fnB 61 b) else none
structure Ct where
  ma : Nat
  mb : Nat
  bx : Nat
  v : Value
  vs : Vars
def flat (vs : Vars) : List Value := vs.flatMap fun p => [sv p.1, sv p.2]
def rowA (C : Ct) (s : St) : Array Value := #[sv s.tok, sv s.left, C.v, .int .i64 (s.deep : Int), .int .i64 (s.idle : Int), .int .i64 0, .int .i64 (s.ft : Int), .map (some C.ma), .map (some C.mb)]
/-- Variables in memory. -/
def VarsAt (W : World) (g : Nat) (v : Value) (vs : Vars) : Prop :=
  (vs = [] ∧ v = .slice none 0 0) ∨ ∃ b, b ≠ g ∧ v = .slice (some ⟨b, 0, none⟩) vs.length vs.length ∧ W.heap[b]? = some (.cells (flat vs).toArray 25 (0, 0))
theorem cell_only {W W' : World} {g : Nat} {p : Addr} {v : Value} (hg : W.grownBy W' (some g)) (hp : p.block ≠ g) (h : W.cell? p = some v) : W'.cell? p = some v := by
  rw [← h]
  unfold World.cell?
  rw [hg.block p.block (World.block_lt_of_cell? W p h) (fun e => hp (by injection e))]
/-- The program's two tables: the signs of two bytes, and the rows of signs. -/
structure Tb (W : World) (g : Nat) : Prop where
  nl : 0 ≠ g
  nr : 1 ≠ g
  lg : ∀ i : Nat, i < 9 → W.cell? ⟨0, i, none⟩ = some (.string (mkS (longs.getD i [])))
  rw : ∃ (ad : Nat → Addr) (cp : Nat → Nat), ∀ i : Nat, i < 10 → (ad i).block ≠ g ∧ W.cell? ⟨1, i, none⟩ = some (.slice (some (ad i)) (rows.getD i []).length (cp i)) ∧ ∀ j : Nat, j < (rows.getD i []).length → W.cell? ((ad i).add j) = some (.string (mkS ((rows.getD i []).getD j [])))
theorem Tb.kept {W W' : World} {g : Nat} (h : Tb W g) (hg : W.grownBy W' (some g)) : Tb W' g := by
  obtain ⟨h1, h2, h3, ad, cp, h4⟩ := h
  refine ⟨h1, h2, fun i hi => cell_only hg h1 (h3 i hi), ad, cp, fun i hi => ⟨(h4 i hi).1, cell_only hg h2 (h4 i hi).2.1, fun j hj => cell_only hg ?_ ((h4 i hi).2.2 j hj)⟩⟩
  rw [block_add]
  exact (h4 i hi).1
/-- What stays while a reader reads. -/
structure En (W : World) (g : Nat) (C : Ct) : Prop where
  ta : TabS W C.ma 30 aheadT
  tb : TabS W C.mb 30 (pairT C.bx)
  na : C.ma ≠ g
  nb : C.mb ≠ g
  nx : C.bx ≠ g
  bx : W.heap[C.bx]? = some (.cells #[.pointer (some ⟨g, 0, none⟩)] 38 (0, 0))
  va : VarsAt W g C.v C.vs
  sm : ∀ p ∈ C.vs, p.1.length ≤ 4000 ∧ p.2.length ≤ 4000
  few : C.vs.length ≤ 4000
  tbs : Tb W g
structure RM (W : World) (g : Nat) (C : Ct) (s : St) : Prop where
  box : W.heap[g]? = some (.cells (rowA C s) 44 (0, 0))
  en : En W g C
  deep : s.deep ≤ 40
  sml : m s + s.idle ≤ 4000
section
variable {W W' : World} {g : Nat} {C : Ct} {s s' : St}
theorem VarsAt.kept {v : Value} {vs : Vars} (h : VarsAt W g v vs) (hg : W.grownBy W' (some g)) : VarsAt W' g v vs := by
  rcases h with h | ⟨b, h1, h2, h3⟩
  · exact .inl h
  · exact .inr ⟨b, h1, h2, (hg.block b (lt_of_block h3) (fun e => h1 (by injection e))).trans h3⟩
theorem En.kept (h : En W g C) (hg : W.grownBy W' (some g)) : En W' g C :=
  ⟨h.ta.kept hg (fun e => h.na (by injection e)), h.tb.kept hg (fun e => h.nb (by injection e)), h.na, h.nb, h.nx, (hg.block _ (lt_of_block h.bx) (fun e => h.nx (by injection e))).trans h.bx, h.va.kept hg, h.sm, h.few, h.tbs.kept hg⟩
theorem RM.later (h : RM W g C s) (hl : Later W W') : RM W' g C s :=
  ⟨later_cells hl h.box, h.en.kept (grown_of_later hl _), h.deep, h.sml⟩
theorem RM.lt (h : RM W g C s) : g < W.heap.size := lt_of_block h.box
/-- Another state: only the reader's own block has turned. -/
theorem RM.turn (h : RM W g C s) (hg : W.grownBy W' (some g)) (hb : W'.heap[g]? = some (.cells (rowA C s') 44 (0, 0))) (hd : s'.deep ≤ 40) (hs : m s' + s'.idle ≤ 4000) : RM W' g C s' := ⟨hb, h.en.kept hg, hd, hs⟩
theorem RM.facts (h : RM W g C s) : (W.cell? ⟨g, 0, none⟩ = some (.string (mkS s.tok)) ∧ W.cell? ⟨g, 1, none⟩ = some (.string (mkS s.left)) ∧ W.cell? ⟨g, 2, none⟩ = some C.v ∧ W.cell? ⟨g, 3, none⟩ = some (.int .i64 (s.deep : Int)) ∧ W.cell? ⟨g, 4, none⟩ = some (.int .i64 (s.idle : Int)) ∧ W.cell? ⟨g, 5, none⟩ = some (.int .i64 0) ∧ W.cell? ⟨g, 6, none⟩ = some (.int .i64 (s.ft : Int)) ∧ W.cell? ⟨g, 7, none⟩ = some (.map (some C.ma)) ∧ W.cell? ⟨g, 8, none⟩ = some (.map (some C.mb))) ∧ ∀ i, W.frozen? ⟨g, i, none⟩ = false :=
  ⟨⟨(cell_row h.box 0).1, (cell_row h.box 1).1, (cell_row h.box 2).1, (cell_row h.box 3).1, (cell_row h.box 4).1, (cell_row h.box 5).1, (cell_row h.box 6).1, (cell_row h.box 7).1, (cell_row h.box 8).1⟩, fun i => (cell_row h.box i).2⟩
theorem RM.tok_len (h : RM W g C s) : s.tok.length ≤ 4000 ∧ s.left.length ≤ 4000 ∧ s.idle ≤ 4000 := by have := h.sml; unfold m at this; omega
end
theorem only_trans {a b c : World} {g : Nat} (h : a.grownBy b (some g)) (k : b.grownBy c (some g)) : a.grownBy c (some g) :=
  ⟨k.os.trans h.os, k.tape.trans h.tape, k.output.trans h.output, Nat.le_trans h.size k.size, fun i hi hne => (k.block i (Nat.lt_of_lt_of_le hi h.size) hne).trans (h.block i hi hne)⟩
theorem only_later {a b c : World} {g : Nat} (h : a.grownBy b (some g)) (k : Later b c) : a.grownBy c (some g) := only_trans h (grown_of_later k _)
theorem only_refl (a : World) (g : Nat) : a.grownBy a (some g) := grown_of_later (Later.refl a) _
/-- What a method of a reader leaves. -/
def Rt (W : World) (g : Nat) (C : Ct) (v : Value) (s : St) (e : Ending) (W' : World) : Prop := e = .returned v ∧ RM W' g C s ∧ W.grownBy W' (some g)
end Ar
end Go.Proofs.YtcidklbeafjmoaaGreatDoor
