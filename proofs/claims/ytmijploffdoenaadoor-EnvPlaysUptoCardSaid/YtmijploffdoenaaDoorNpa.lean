/- EnvPlays: stores into the two variables; two Envs in their variables. No premises. -/
import Derived.Test.YtmijploffdoenaaDoorNxc
namespace Go.Proofs.YtmijploffdoenaaDoor
open Go.RowKit Go.Maps
namespace En
/-- Four stores into a variable of four cells. -/
theorem put4 {w : World} {b : Nat} {a0 a1 a2 a3 : Value} {t : TypeId} (h : w.heap[b]? = some (.cells #[a0, a1, a2, a3] t (0, 0))) (x0 x1 x2 x3 : Value) :
    ∃ w', w' = (((w.setCell ⟨b, 0, none⟩ x0).setCell ⟨b, 1, none⟩ x1).setCell ⟨b, 2, none⟩ x2).setCell ⟨b, 3, none⟩ x3 ∧ w'.heap[b]? = some (.cells #[x0, x1, x2, x3] t (0, 0)) ∧ w.grownBy w' (some b) := by
  have g1 := set_only w b 0 x0
  have g2 := set_only (w.setCell ⟨b, 0, none⟩ x0) b 1 x1
  have g3 := set_only ((w.setCell ⟨b, 0, none⟩ x0).setCell ⟨b, 1, none⟩ x1) b 2 x2
  have g4 := set_only (((w.setCell ⟨b, 0, none⟩ x0).setCell ⟨b, 1, none⟩ x1).setCell ⟨b, 2, none⟩ x2) b 3 x3
  have s1 := g1.size
  have s2 := g2.size
  have s3 := g3.size
  refine ⟨_, rfl, set_row (set_row (set_row (set_row h 0 x0) 1 x1) 2 x2) 3 x3, ⟨g4.os.trans (g3.os.trans (g2.os.trans g1.os)), g4.tape.trans (g3.tape.trans (g2.tape.trans g1.tape)), g4.output.trans (g3.output.trans (g2.output.trans g1.output)), Nat.le_trans s1 (Nat.le_trans s2 (Nat.le_trans s3 g4.size)), fun k hk hne => ?_⟩⟩
  exact (g4.block k (by omega) hne).trans ((g3.block k (by omega) hne).trans ((g2.block k (by omega) hne).trans (g1.block k hk hne)))
/-- Four cells of a variable. -/
abbrev Cl (w : World) (b : Nat) (t : TypeId) (c0 c1 c2 c3 : Value) : Prop := w.heap[b]? = some (.cells #[c0, c1, c2, c3] t (0, 0))
theorem Cl.c {w : World} {b : Nat} {t : TypeId} {c0 c1 c2 c3 : Value} (h : Cl w b t c0 c1 c2 c3) : w.cell? ⟨b, 0, none⟩ = some c0 ∧ w.cell? ⟨b, 1, none⟩ = some c1 ∧ w.cell? ⟨b, 2, none⟩ = some c2 ∧ w.cell? ⟨b, 3, none⟩ = some c3 := ⟨(cell_row h 0).1, (cell_row h 1).1, (cell_row h 2).1, (cell_row h 3).1⟩
/-- Two Envs in two variables, that read alike. -/
structure Two (g h : Nat) (w : World) (c0 c1 c2 c3 d0 d1 d2 d3 : Value) (e : E) : Prop where
  cg : Cl w g 28 c0 c1 c2 c3
  ch : Cl w h 31 d0 d1 d2 d3
  ag : Ap g h w (.agg #[c0, c1, c2, c3]) e
  ah : Ap g h w (.agg #[d0, d1, d2, d3]) e
section
variable {g h : Nat} {w w' : World} {c0 c1 c2 c3 d0 d1 d2 d3 x0 x1 x2 x3 : Value} {e e' : E}
theorem Two.later (k : Two g h w c0 c1 c2 c3 d0 d1 d2 d3 e) (hl : Later w w') : Two g h w' c0 c1 c2 c3 d0 d1 d2 d3 e := ⟨later_cells hl k.cg, later_cells hl k.ch, k.ag.later hl, k.ah.later hl⟩
/-- A law's Env, told anew, is stored. -/
theorem put_g (k1 : Cl w g 28 c0 c1 c2 c3) (k2 : Cl w h 31 d0 d1 d2 d3) (a1 : Ap g h w (.agg #[x0, x1, x2, x3]) e') (a2 : Ap g h w (.agg #[d0, d1, d2, d3]) e) (hne : g ≠ h) :
    ∃ w', w' = (((w.setCell ⟨g, 0, none⟩ x0).setCell ⟨g, 1, none⟩ x1).setCell ⟨g, 2, none⟩ x2).setCell ⟨g, 3, none⟩ x3 ∧ Cl w' g 28 x0 x1 x2 x3 ∧ Cl w' h 31 d0 d1 d2 d3 ∧ Ap g h w' (.agg #[x0, x1, x2, x3]) e' ∧ Ap g h w' (.agg #[d0, d1, d2, d3]) e ∧ w.grownBy w' (some g) := by
  obtain ⟨w', e1, h1, hg⟩ := put4 k1 x0 x1 x2 x3
  exact ⟨w', e1, h1, (hg.block h (lt_of_block k2) (fun e => by injection e with e; exact hne e.symm)).trans k2, a1.grown (.inl rfl) hg, a2.grown (.inl rfl) hg, hg⟩
/-- .. the definition's. -/
theorem put_h (k1 : Cl w g 28 c0 c1 c2 c3) (k2 : Cl w h 31 d0 d1 d2 d3) (a1 : Ap g h w (.agg #[c0, c1, c2, c3]) e') (a2 : Ap g h w (.agg #[x0, x1, x2, x3]) e') (hne : g ≠ h) :
    ∃ w', w' = (((w.setCell ⟨h, 0, none⟩ x0).setCell ⟨h, 1, none⟩ x1).setCell ⟨h, 2, none⟩ x2).setCell ⟨h, 3, none⟩ x3 ∧ Two g h w' c0 c1 c2 c3 x0 x1 x2 x3 e' ∧ w.grownBy w' (some h) := by
  obtain ⟨w', e1, h1, hg⟩ := put4 k2 x0 x1 x2 x3
  exact ⟨w', e1, ⟨(hg.block g (lt_of_block k1) (fun e => by injection e with e; exact hne e)).trans k1, h1, a1.grown (.inr rfl) hg, a2.grown (.inr rfl) hg⟩, hg⟩
end
/-- What a store to one of two new variables leaves. -/
theorem grown_cells {w w' : World} {x b : Nat} {o : Obj} (hg : w.grownBy w' (some x)) (hb : w.heap[b]? = some o) (hne : b ≠ x) : w'.heap[b]? = some o := (hg.block b (lt_of_block hb) (fun e => by injection e with e; exact hne e)).trans hb
end En
end Go.Proofs.YtmijploffdoenaaDoor
