/- EnvPlays: the world between the two stores of a round. No premises. -/
import Derived.Test.YtmijploffdoenaaDoorNpa
namespace Go.Proofs.YtmijploffdoenaaDoor
open Go.RowKit Go.Maps
namespace En
/-- What a round's first half leaves: the program's Env is told anew, the definition's is as it was; what was lies in two new variables. -/
structure Mid (W : World) (g h b : Nat) (w : World) (cs : Array Value) (x0 x1 x2 x3 d0 d1 d2 d3 o0 o1 o2 o3 : Value) (e e' : E) : Prop where
  cg : Cl w g 28 x0 x1 x2 x3
  ch : Cl w h 31 d0 d1 d2 d3
  ag : Ap g h w (.agg #[x0, x1, x2, x3]) e'
  ah : Ap g h w (.agg #[d0, d1, d2, d3]) e
  og : Ap g h w (.agg #[o0, o1, o2, o3]) e
  k0 : w.heap[b]? = some (.cells cs 33 (0, 0))
  k1 : Cl w (b + 1) 28 o0 o1 o2 o3
  k2 : Cl w (b + 1 + 1) 31 d0 d1 d2 d3
  lo : Later W w
  ne : g ≠ h ∧ W.heap.size ≤ g ∧ W.heap.size ≤ h
  nb : g ≠ b ∧ g ≠ b + 1 ∧ g ≠ b + 1 + 1 ∧ h ≠ b ∧ h ≠ b + 1 ∧ h ≠ b + 1 + 1
/-- What a round leaves ahead of its questions. -/
structure Fin_ (W : World) (g h b : Nat) (w : World) (x0 x1 x2 x3 z0 z1 z2 z3 d0 d1 d2 d3 o0 o1 o2 o3 : Value) (e e' : E) : Prop where
  cg : Cl w g 28 x0 x1 x2 x3
  ch : Cl w h 31 z0 z1 z2 z3
  ag : Ap g h w (.agg #[x0, x1, x2, x3]) e'
  ah : Ap g h w (.agg #[z0, z1, z2, z3]) e'
  og : Ap g h w (.agg #[o0, o1, o2, o3]) e
  oh : Ap g h w (.agg #[d0, d1, d2, d3]) e
  k1 : Cl w (b + 1) 28 o0 o1 o2 o3
  k2 : Cl w (b + 1 + 1) 31 d0 d1 d2 d3
  lo : Later W w
section
variable {W w w' : World} {g h b : Nat} {cs : Array Value} {x0 x1 x2 x3 z0 z1 z2 z3 d0 d1 d2 d3 o0 o1 o2 o3 y0 y1 y2 y3 : Value} {e e' e2 : E}
theorem Mid.later (m : Mid W g h b w cs x0 x1 x2 x3 d0 d1 d2 d3 o0 o1 o2 o3 e e') (hl : Later w w') : Mid W g h b w' cs x0 x1 x2 x3 d0 d1 d2 d3 o0 o1 o2 o3 e e' :=
  ⟨later_cells hl m.cg, later_cells hl m.ch, m.ag.later hl, m.ah.later hl, m.og.later hl, later_cells hl m.k0, later_cells hl m.k1, later_cells hl m.k2, m.lo.trans hl, m.ne, m.nb⟩
theorem Fin_.later (m : Fin_ W g h b w x0 x1 x2 x3 z0 z1 z2 z3 d0 d1 d2 d3 o0 o1 o2 o3 e e') (hl : Later w w') : Fin_ W g h b w' x0 x1 x2 x3 z0 z1 z2 z3 d0 d1 d2 d3 o0 o1 o2 o3 e e' :=
  ⟨later_cells hl m.cg, later_cells hl m.ch, m.ag.later hl, m.ah.later hl, m.og.later hl, m.oh.later hl, later_cells hl m.k1, later_cells hl m.k2, m.lo.trans hl⟩
theorem Mid.to_g (m : Mid W g h b w cs x0 x1 x2 x3 d0 d1 d2 d3 o0 o1 o2 o3 e e') (hg : w.grownBy w' (some g)) (c : Cl w' g 28 y0 y1 y2 y3) (a : Ap g h w (.agg #[y0, y1, y2, y3]) e2) : Mid W g h b w' cs y0 y1 y2 y3 d0 d1 d2 d3 o0 o1 o2 o3 e e2 :=
  ⟨c, grown_cells hg m.ch (Ne.symm m.ne.1), a.grown (.inl rfl) hg, m.ah.grown (.inl rfl) hg, m.og.grown (.inl rfl) hg, grown_cells hg m.k0 (Ne.symm m.nb.1), grown_cells hg m.k1 (Ne.symm m.nb.2.1), grown_cells hg m.k2 (Ne.symm m.nb.2.2.1), later_of_new m.lo hg m.ne.2.1, m.ne, m.nb⟩
theorem Mid.to_h (m : Mid W g h b w cs x0 x1 x2 x3 d0 d1 d2 d3 o0 o1 o2 o3 e e') (hg : w.grownBy w' (some h)) (c : Cl w' h 31 z0 z1 z2 z3) (a : Ap g h w (.agg #[z0, z1, z2, z3]) e') : Fin_ W g h b w' x0 x1 x2 x3 z0 z1 z2 z3 d0 d1 d2 d3 o0 o1 o2 o3 e e' :=
  ⟨grown_cells hg m.cg m.ne.1, c, m.ag.grown (.inr rfl) hg, a.grown (.inr rfl) hg, m.og.grown (.inr rfl) hg, m.ah.grown (.inr rfl) hg, grown_cells hg m.k1 (Ne.symm m.nb.2.2.2.2.1), grown_cells hg m.k2 (Ne.symm m.nb.2.2.2.2.2), later_of_new m.lo hg m.ne.2.2⟩
/-- No store at all. -/
theorem Mid.rest (m : Mid W g h b w cs x0 x1 x2 x3 d0 d1 d2 d3 o0 o1 o2 o3 e e) : Fin_ W g h b w x0 x1 x2 x3 d0 d1 d2 d3 d0 d1 d2 d3 o0 o1 o2 o3 e e :=
  ⟨m.cg, m.ch, m.ag, m.ah, m.og, m.ah, m.k1, m.k2, m.lo⟩
theorem Mid.put (m : Mid W g h b w cs x0 x1 x2 x3 d0 d1 d2 d3 o0 o1 o2 o3 e e') (y0 y1 y2 y3 : Value) (a : Ap g h w (.agg #[y0, y1, y2, y3]) e2) :
    ∃ w', w' = (((w.setCell ⟨g, 0, none⟩ y0).setCell ⟨g, 1, none⟩ y1).setCell ⟨g, 2, none⟩ y2).setCell ⟨g, 3, none⟩ y3 ∧ Mid W g h b w' cs y0 y1 y2 y3 d0 d1 d2 d3 o0 o1 o2 o3 e e2 := by
  obtain ⟨w', e1, h1, hg⟩ := put4 m.cg y0 y1 y2 y3
  exact ⟨w', e1, m.to_g hg h1 a⟩
theorem Mid.set (m : Mid W g h b w cs x0 x1 x2 x3 d0 d1 d2 d3 o0 o1 o2 o3 e e') (z0 z1 z2 z3 : Value) (a : Ap g h w (.agg #[z0, z1, z2, z3]) e') :
    ∃ w', w' = (((w.setCell ⟨h, 0, none⟩ z0).setCell ⟨h, 1, none⟩ z1).setCell ⟨h, 2, none⟩ z2).setCell ⟨h, 3, none⟩ z3 ∧ Fin_ W g h b w' x0 x1 x2 x3 z0 z1 z2 z3 d0 d1 d2 d3 o0 o1 o2 o3 e e' := by
  obtain ⟨w', e1, h1, hg⟩ := put4 m.ch z0 z1 z2 z3
  exact ⟨w', e1, m.to_h hg h1 a⟩
theorem Mid.put1 (m : Mid W g h b w cs x0 x1 x2 x3 d0 d1 d2 d3 o0 o1 o2 o3 e e') (y1 : Value) (a : Ap g h w (.agg #[x0, y1, x2, x3]) e2) :
    ∃ w', w' = w.setCell ⟨g, 1, none⟩ y1 ∧ Mid W g h b w' cs x0 y1 x2 x3 d0 d1 d2 d3 o0 o1 o2 o3 e e2 :=
  ⟨_, rfl, m.to_g (set_only w g 1 y1) (set_row m.cg 1 y1) a⟩
theorem Mid.set1 (m : Mid W g h b w cs x0 x1 x2 x3 d0 d1 d2 d3 o0 o1 o2 o3 e e') (z1 : Value) (a : Ap g h w (.agg #[d0, z1, d2, d3]) e') :
    ∃ w', w' = w.setCell ⟨h, 1, none⟩ z1 ∧ Fin_ W g h b w' x0 x1 x2 x3 d0 z1 d2 d3 d0 d1 d2 d3 o0 o1 o2 o3 e e' :=
  ⟨_, rfl, m.to_h (set_only w h 1 z1) (set_row m.ch 1 z1) a⟩
/-- .. facts of cells. -/
theorem Mid.c (m : Mid W g h b w cs x0 x1 x2 x3 d0 d1 d2 d3 o0 o1 o2 o3 e e') : (w.cell? ⟨g, 0, none⟩ = some x0 ∧ w.cell? ⟨g, 1, none⟩ = some x1 ∧ w.cell? ⟨g, 2, none⟩ = some x2 ∧ w.cell? ⟨g, 3, none⟩ = some x3) ∧ (w.cell? ⟨h, 0, none⟩ = some d0 ∧ w.cell? ⟨h, 1, none⟩ = some d1 ∧ w.cell? ⟨h, 2, none⟩ = some d2 ∧ w.cell? ⟨h, 3, none⟩ = some d3) := ⟨m.cg.c, m.ch.c⟩
theorem Mid.z (m : Mid W g h b w cs x0 x1 x2 x3 d0 d1 d2 d3 o0 o1 o2 o3 e e') : (∀ i, w.frozen? ⟨g, i, none⟩ = false) ∧ ∀ i, w.frozen? ⟨h, i, none⟩ = false := ⟨fun i => (cell_row m.cg i).2, fun i => (cell_row m.ch i).2⟩
end
theorem step_0 {e : E} {x : Doing} (h : (x.kind.toNat : Int) = 0) : En.step e x = set nm e x.name x.value := by
  have : x.kind = 0 := UInt8.toNat_inj.1 (by show x.kind.toNat = 0; omega)
  unfold En.step; rw [if_pos this]
theorem step_1 {e : E} {x : Doing} (h : (x.kind.toNat : Int) = 1) : En.step e x = unsetE e x.name := by
  have : x.kind = 1 := UInt8.toNat_inj.1 (by show x.kind.toNat = 1; omega)
  unfold En.step; rw [this, if_neg (by decide), if_pos rfl]
theorem step_2 {e : E} {x : Doing} (h : (x.kind.toNat : Int) = 2) : En.step e x = { e with flags := flag e.flags (UInt8.ofNat (x.n % 256).toNat) x.on } := by
  have : x.kind = 2 := UInt8.toNat_inj.1 (by show x.kind.toNat = 2; omega)
  unfold En.step; rw [this, if_neg (by decide), if_neg (by decide), if_pos rfl]
theorem step_3 {e : E} {x : Doing} (h : (x.kind.toNat : Int) = 3) : En.step e x = shiftE e x.n := by
  have : x.kind = 3 := UInt8.toNat_inj.1 (by show x.kind.toNat = 3; omega)
  unfold En.step; rw [this, if_neg (by decide), if_neg (by decide), if_neg (by decide), if_pos rfl]
theorem step_4 {e : E} {x : Doing} (h0 : ¬ (x.kind.toNat : Int) = 0) (h1 : ¬ (x.kind.toNat : Int) = 1) (h2 : ¬ (x.kind.toNat : Int) = 2) (h3 : ¬ (x.kind.toNat : Int) = 3) : En.step e x = { e with args := [x.name, x.value] } := by
  unfold En.step
  rw [if_neg (fun e => h0 (by rw [e]; rfl)), if_neg (fun e => h1 (by rw [e]; rfl)), if_neg (fun e => h2 (by rw [e]; rfl)), if_neg (fun e => h3 (by rw [e]; rfl))]
theorem setX_set {e : E} {s y : B} : ({ e with vars := setX (Ar.nameB s) e.vars s y } : E) = set nm e s y := by
  unfold setX set
  split <;> rfl
theorem rdp_of {w : World} {va a b c : Value} {e : E} (h : RdE w (.agg #[va, a, b, c]) e) : RdP w w.heap.size va e.vars := by
  obtain ⟨v0, A, n, k, e1, r0, _⟩ := h
  injection e1 with e1
  simp only [Array.mk.injEq, List.cons.injEq, and_true] at e1
  obtain ⟨rfl, _⟩ := e1
  exact r0
/-- The definition tells other variables. -/
theorem Mid.told {W w w' : World} {g h b : Nat} {cs : Array Value} {A5 A4 A7 A6 : Option Addr} {n5 v5 n4 v4 n7 v7 n6 v6 : Nat} {es st : Int} {fl fm : ByteArray} {o0 o1 o2 o3 vb : Value} {e e' : E} {vs : Vs}
    (m : Mid W g h b w cs (.slice A5 n5 v5) (.slice A4 n4 v4) (.int .i64 es) (.string fl) (.slice A7 n7 v7) (.slice A6 n6 v6) (.int .i64 st) (.string fm) o0 o1 o2 o3 e e') (hl : Later w w') (hv : RdP w' w'.heap.size vb vs) :
    Ap g h w' (.agg #[vb, .slice A6 n6 v6, .int .i64 st, .string fm]) { e with vars := vs } :=
  Ap.vars m.ah hl hv (later_cells hl m.cg) (later_cells hl m.ch) (fun s => ⟨(fun e => by cases e), (fun e => by cases e), (fun e => by cases e)⟩) (fun s => ⟨(fun e => by cases e), (fun e => by cases e), (fun e => by cases e)⟩)
theorem load_g {w : World} {b : Nat} {c0 c1 c2 c3 : Value} (h : Cl w b 28 c0 c1 c2 c3) : (Instr.loadAt 28 (.pointer (some ⟨b, 0, none⟩))).run Tryd.prog w = .ok (.agg #[c0, c1, c2, c3]) w :=
  loadO_run _ _ _ _ h Tryd.underlying28 rfl (by kernel_rfl)
theorem load_h {w : World} {b : Nat} {c0 c1 c2 c3 : Value} (h : Cl w b 31 c0 c1 c2 c3) : (Instr.loadAt 31 (.pointer (some ⟨b, 0, none⟩))).run Tryd.prog w = .ok (.agg #[c0, c1, c2, c3]) w :=
  loadO_run _ _ _ _ h Tryd.underlying31 rfl (by kernel_rfl)
theorem eqE_self (e : E) : eqE e e = true := by unfold eqE; simp
/-- A value that reads as an Env. -/
def spE (e : E) : Sp Later := ⟨fun v w => ∃ v', v = v' ∧ RdE w v' e, fun _ _ _ hg ⟨v', h1, h2⟩ => ⟨v', h1, h2.later hg⟩⟩
theorem byte_of (n : Int) : ((UInt8.ofNat (n % 256).toNat).toNat : Int) = n % 256 := by
  rw [UInt8.toNat_ofNat']
  omega
end En
end Go.Proofs.YtmijploffdoenaaDoor
