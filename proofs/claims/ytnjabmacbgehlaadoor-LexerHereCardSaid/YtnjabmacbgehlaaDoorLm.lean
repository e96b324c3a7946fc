/- The lexer's reader in memory: its struct, its tokens, its two tables. No premises. -/
import Derived.Test.YtnjabmacbgehlaaDoorLxT
import Derived.Test.YtnjabmacbgehlaaDoorSof2
import Derived.Maps.OwnSet
import Derived.Maps.Views
import Derived.Deep.QuietTactic
namespace Go.Proofs.YtnjabmacbgehlaaDoor
open Go.RowKit Go.Maps
abbrev L := Lx.L
theorem cell_row {w : World} {g : Nat} {cs : Array Value} {t : TypeId} (h : w.heap[g]? = some (.cells cs t (0, 0))) (i : Nat) : w.cell? ⟨g, i, none⟩ = cs[i]? ∧ w.frozen? ⟨g, i, none⟩ = false :=
  ⟨by simp [World.cell?, h], by simp [World.frozen?, h]⟩
theorem set_row {w : World} {g : Nat} {cs : Array Value} {t : TypeId} (h : w.heap[g]? = some (.cells cs t (0, 0))) (i : Nat) (u : Value) : (w.setCell ⟨g, i, none⟩ u).heap[g]? = some (.cells (cs.setIfInBounds i u) t (0, 0)) := by
  have hlt := lt_of_block h
  have h' : w.heap[g] = .cells cs t (0, 0) := by simpa [Array.getElem?_eq_getElem hlt] using h
  show (w.heap.modify g _)[g]? = _
  rw [Array.getElem?_eq_getElem (by simpa using hlt), Array.getElem_modify_self, h']
  rfl
theorem set_only (w : World) (g i : Nat) (u : Value) : w.grownBy (w.setCell ⟨g, i, none⟩ u) (some g) :=
  ⟨rfl, rfl, rfl, by simp [World.setCell], fun k _ hk => Below.heap_setCell _ _ _ _ (fun e => hk (by rw [e]))⟩
/-- Rows of other types lie apart. -/
theorem apart_types {w : World} {base size n base' size' n' : Nat} {e e' : TypeId} {v v' : Value} {xs xs' : List Value} (h : w.ownsRow base e size v n xs) (h' : w.ownsRow base' e' size' v' n' xs') (hne : e ≠ e') : v.ownBlock = none ∨ v.ownBlock ≠ v'.ownBlock := by
  rcases h.2 with ⟨rfl, _⟩ | ⟨g, cap, cur, rfl, _, hg, _⟩
  · exact .inl rfl
  · refine .inr fun e1 => ?_
    rcases h'.2 with ⟨rfl, _⟩ | ⟨g', cap', cur', rfl, _, hg', _⟩
    · cases e1
    · simp only [Value.ownBlock, Option.some.injEq] at e1
      subst e1
      rw [hg] at hg'
      simp only [Option.some.injEq, Obj.cells.injEq] at hg'
      exact hne hg'.2.1
theorem apart_block {w : World} {base size n g : Nat} {e e' : TypeId} {v : Value} {xs : List Value} {cs : Array Value} {fr : Nat × Nat} (h : w.ownsRow base e size v n xs) (h' : w.heap[g]? = some (.cells cs e' fr)) (hne : e ≠ e') : v.ownBlock ≠ some g := by
  rcases h.2 with ⟨rfl, _⟩ | ⟨k, cap, cur, rfl, _, hg, _⟩
  · nofun
  · intro e1
    simp only [Value.ownBlock, Option.some.injEq] at e1
    subst e1
    rw [hg] at h'
    simp only [Option.some.injEq, Obj.cells.injEq] at h'
    exact hne h'.2.1
/-! ### tables of functions -/
def heldR (v : Value) : Option (DataW Value × List MemPlace) := some (.held v, [])
def keyL (c : UInt8) : Lit := .int .u8 (c.toNat : Int)
/-- Block m is a table of functions by byte. -/
def Tab (W : World) (m : Nat) (f : UInt8 → Option Value) : Prop :=
  ∃ D n, W.ownsMap Tryd.prog 5 heldR m n D ∧ n ≤ 30 ∧ ∀ c, Maps.has D (keyL c) = (f c).isSome ∧ ∀ z, D.atKey (keyL c) (.held z) = .held ((f c).getD z)
theorem u8_keyed : Keyed Tryd.prog 5 := int_keyed Tryd.underlying5
theorem key_wf (c : UInt8) : (Lit.int .u8 (c.toNat : Int)).wf = true := by
  have := c.toNat_lt
  simp [Lit.wf, IntKind.min, IntKind.max, IntKind.bits, IntKind.signed]
  omega
theorem keyOf_u8 (c : UInt8) : keyOf Tryd.prog 5 (bv c) = some (keyL c) := keyOf_int_mk Tryd.underlying5 (key_wf c)
theorem key_ne {a b : UInt8} (h : a ≠ b) : keyL a ≠ keyL b := by
  intro e
  simp only [keyL, Lit.int.injEq, true_and] at e
  exact h (UInt8.toNat_inj.1 (by omega))
theorem Tab.kept {W W' : World} {m : Nat} {f : UInt8 → Option Value} {row : Option Nat} (h : Tab W m f) (hg : W.grownBy W' row) (hne : some m ≠ row) : Tab W' m f := by
  obtain ⟨D, n, h1, h2, h3⟩ := h
  exact ⟨D, n, h1.kept hg hne, h2, h3⟩
theorem Tab.made (W : World) : Tab (W.alloc (.map #[] 0)) W.heap.size fun _ => none :=
  ⟨.map [], 0, World.ownsMap_made W _ _ _, by omega, fun c => ⟨rfl, fun z => rfl⟩⟩
theorem Tab.apart {W : World} {m g : Nat} {f : UInt8 → Option Value} {cs : Array Value} {e : TypeId} {fr : Nat × Nat} (h : Tab W m f) (h' : W.heap[g]? = some (.cells cs e fr)) : m ≠ g := by
  obtain ⟨D, n, ⟨es, cl, h1, _⟩, _⟩ := h
  rintro rfl
  rw [h1] at h'
  cases h'
theorem Tab.apart_row {W : World} {m base size n : Nat} {f : UInt8 → Option Value} {e : TypeId} {v : Value} {xs : List Value} (h : Tab W m f) (h' : W.ownsRow base e size v n xs) : some m ≠ v.ownBlock := by
  rcases h'.2 with ⟨rfl, _⟩ | ⟨k, cap, cur, rfl, _, hg, _⟩
  · nofun
  · intro e1
    simp only [Value.ownBlock, Option.some.injEq] at e1
    exact h.apart hg e1
/-- A look-up. -/
theorem Tab.look {W : World} {m : Nat} {f : UInt8 → Option Value} (h : Tab W m f) (c : UInt8) : ∀ n, (Instr.lookup 49 (.map (some m)) (bv c) true).run Tryd.prog (W.drewN n) = .ok (.tuple #[(f c).getD .nilFunc, .bool (f c).isSome]) (W.drewN n) := by
  intro n
  obtain ⟨D, k, h1, _, h3⟩ := h
  obtain ⟨v, ps, hrun, hv⟩ := World.ownsMap.look_ok (w := W.drewN n) (show (W.drewN n).ownsMap _ _ _ _ _ _ from h1) u8_keyed Tryd.underlying49 (z := .nilFunc) (by kernel_rfl) (zd := .held .nilFunc) (zp := []) rfl (keyOf_u8 c)
  rw [(h3 c).2 .nilFunc] at hv
  simp only [heldR, Option.some.injEq, Prod.mk.injEq, DataW.held.injEq] at hv
  rw [hrun, hv.1, (h3 c).1]
end Go.Proofs.YtnjabmacbgehlaaDoor
