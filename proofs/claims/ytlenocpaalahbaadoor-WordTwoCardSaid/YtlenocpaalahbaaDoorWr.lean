/- The reader in memory: its row of parts, its text, its source. No premises. -/
import Derived.Test.YtlenocpaalahbaaDoorWs
import Derived.Test.YtlenocpaalahbaaDoorSof7
namespace Go.Proofs.YtlenocpaalahbaaDoor
open Go.RowKit Go.Maps
theorem later_drewN (W : World) (m : Nat) : Later W (W.drewN m) := ⟨rfl, rfl, rfl, Nat.le_refl _, fun _ _ => rfl⟩
def rc (vp vt : Value) (k s dp : Nat) : Array Value := #[vp, .int .i64 (k : Int), vt, .pointer (some ⟨s, 0, none⟩), .int .i64 (dp : Int)]
def pcs (y : Wd.P × Value) : List Value := [.int .i64 (y.1.k : Int), sv y.1.t, sv y.1.o, .bool y.1.q, y.2]
def cellsP (nd : List (Wd.P × Value)) : List Value := nd.flatMap pcs
theorem cellsP_len (nd : List (Wd.P × Value)) : (cellsP nd).length = nd.length * 5 := by
  unfold cellsP
  induction nd with
  | nil => rfl
  | cons y l ih => rw [List.flatMap_cons, List.length_append, ih]; simp [pcs]; omega
theorem cellsP_app (nd : List (Wd.P × Value)) (y : Wd.P × Value) : cellsP (nd ++ [y]) = cellsP nd ++ pcs y := by simp [cellsP]
/-- A slice reads as parts, in blocks of T. -/
inductive PsAt (W : World) (T : Nat → Prop) : Value → List Wd.P → Prop
  | nil (A : Option Addr) (c : Nat) : PsAt W T (.slice A 0 c) []
  | row (b c n : Nat) (nd : List (Wd.P × Value)) (ps : List Wd.P) (hps : nd.map Prod.fst = ps) (hn : nd.length = n) (hT : T b) (hlt : b < W.heap.size) (hc : ∀ (j : Nat) (u : Value), (cellsP nd)[j]? = some u → W.cell? ⟨b, j, none⟩ = some u) (hnc : n ≤ c ∧ c ≤ maxLen) (hr : ∀ y ∈ nd, PsAt W T y.2 y.1.w) : PsAt W T (.slice (some ⟨b, 0, none⟩) n c) ps
theorem PsAt.one {W : World} {T : Nat → Prop} {v : Value} {ps : List Wd.P} (h : PsAt W T v ps) : v.oneCell' = true ∧ ∃ A c, v = .slice A ps.length c := by
  cases h with
  | nil A c => exact ⟨rfl, A, c, rfl⟩
  | row b c n nd ps hps hn _ _ _ _ _ => exact ⟨rfl, some ⟨b, 0, none⟩, c, by rw [← hn, ← hps, List.length_map]⟩
theorem PsAt.kept {W W' : World} {T T' : Nat → Prop} {v : Value} {ps : List Wd.P} (h : PsAt W T v ps) (hs : W.heap.size ≤ W'.heap.size) (hk : ∀ b, T b → b < W.heap.size → W'.heap[b]? = W.heap[b]?) (hT : ∀ b, T b → T' b) : PsAt W' T' v ps := by
  induction h with
  | nil A c => exact .nil A c
  | row b c n nd ps hps hn hT1 hlt hc hnc hr ih =>
    refine .row b c n nd ps hps hn (hT _ hT1) (Nat.lt_of_lt_of_le hlt hs) (fun j u hu => ?_) hnc ih
    rw [← hc j u hu]
    unfold World.cell?
    rw [show (⟨b, j, none⟩ : Addr).block = b from rfl, hk _ hT1 hlt]
theorem cellsP_at : ∀ (nd : List (Wd.P × Value)) (j i : Nat) (y : Wd.P × Value), nd[j]? = some y → i < 5 → (cellsP nd)[j * 5 + i]? = (pcs y)[i]?
  | [], j, i, y, h, _ => by simp at h
  | z :: l, 0, i, y, h, hi => by
    simp only [List.getElem?_cons_zero, Option.some.injEq] at h
    subst h
    unfold cellsP
    rw [List.flatMap_cons, List.getElem?_append_left (by simp [pcs]; omega)]
    simp
  | z :: l, j + 1, i, y, h, hi => by
    have ih := cellsP_at l j i y (by simpa using h) hi
    unfold cellsP at ih ⊢
    rw [List.flatMap_cons, List.getElem?_append_right (by simp [pcs]; omega), ← ih]
    congr 1
    simp [pcs]
    omega
theorem PsAt.small {W : World} {T : Nat → Prop} {v : Value} {ps : List Wd.P} (h : PsAt W T v ps) : ps.length ≤ maxLen := by
  cases h with
  | nil A c => exact Nat.zero_le _
  | row b c n nd ps hps hn hT hlt hc hnc hr =>
    subst hps
    rw [List.length_map, hn]
    exact Nat.le_trans hnc.1 hnc.2
/-- The part at j. -/
structure PAt (W : World) (T : Nat → Prop) (b o : Nat) (p : Wd.P) (vw : Value) : Prop where
  c0 : W.cell? ⟨b, o, none⟩ = some (.int .i64 (p.k : Int))
  c1 : W.cell? ⟨b, o + 1, none⟩ = some (.string (mkS p.t))
  c2 : W.cell? ⟨b, o + 2, none⟩ = some (.string (mkS p.o))
  c3 : W.cell? ⟨b, o + 3, none⟩ = some (.bool p.q)
  c4 : W.cell? ⟨b, o + 4, none⟩ = some vw
  w : PsAt W T vw p.w
theorem PsAt.get {W : World} {T : Nat → Prop} {v : Value} {ps : List Wd.P} (h : PsAt W T v ps) (h0 : ps ≠ []) : ∃ b c, v = .slice (some ⟨b, 0, none⟩) ps.length c ∧ ps.length ≤ c ∧ b < W.heap.size ∧ ∀ (j : Nat) (p : Wd.P), ps[j]? = some p → ∃ vw, PAt W T b (j * 5) p vw := by
  cases h with
  | nil A c => exact absurd rfl h0
  | row b c n nd ps hps hn hT hlt hc hnc hr =>
    subst hps
    refine ⟨b, c, by rw [List.length_map, hn], by rw [List.length_map, hn]; exact hnc.1, hlt, fun j p hj => ?_⟩
    rw [List.getElem?_map] at hj
    cases e : nd[j]? with
    | none => rw [e] at hj; cases hj
    | some y =>
      rw [e] at hj
      simp only [Option.map_some, Option.some.injEq] at hj
      subst hj
      exact ⟨y.2, hc _ _ ((cellsP_at nd j 0 y e (by omega)).trans rfl), hc _ _ ((cellsP_at nd j 1 y e (by omega)).trans rfl), hc _ _ ((cellsP_at nd j 2 y e (by omega)).trans rfl), hc _ _ ((cellsP_at nd j 3 y e (by omega)).trans rfl), hc _ _ ((cellsP_at nd j 4 y e (by omega)).trans rfl), hr y (List.mem_of_getElem? e)⟩
/-- The table of operations lies in its block. -/
def Ops (w : World) : Prop := ∀ i : Nat, i < 12 → w.cell? ⟨1, i, none⟩ = some (.string (mkS (Wd.ops.getD i [])))
theorem Ops.kept {W W' : World} (h : Ops W) (e : W'.heap[1]? = W.heap[1]?) : Ops W' := fun i hi => by
  rw [← h i hi]
  unfold World.cell?
  rw [show (⟨1, i, none⟩ : Addr).block = 1 from rfl, e]
/-- Blocks of either. -/
def un (X T : Nat → Prop) : Nat → Prop := fun b => X b ∨ T b
/-- A reader in memory. -/
structure RMx (W : World) (X T : Nat → Prop) (g s : Nat) (raw : L) (dp : Nat) (r : Wd.R) (x : Wd.S) (vp vt : Value) (nd : List (Wd.P × Value)) : Prop where
  box : W.heap[g]? = some (.cells (rc vp vt r.k s dp) 41 (0, 0))
  src : Sr W s raw x
  gX : ¬ X g
  sX : ¬ X s
  gT : ¬ T g
  sT : ¬ T s
  txt : W.ownsRow 0 5 1 vt r.t.length (r.t.map bv)
  tX : ∀ b, vt.ownBlock = some b → ¬ X b
  tT : ∀ b, vt.ownBlock = some b → ¬ T b
  row : W.ownsRow 0 28 5 vp nd.length (cellsP nd)
  pX : ∀ b, vp.ownBlock = some b → ¬ X b
  pT : ∀ b, vp.ownBlock = some b → ¬ T b
  ps : nd.map Prod.fst = r.ps
  tree : ∀ y ∈ nd, PsAt W T y.2 y.1.w
  kk : r.k ≤ 9
  xl : XL X W
  tl : XL T W
  xt : ∀ b, X b → ¬ T b
  og : X 1
  op : Ops W
def RMT (W : World) (X T : Nat → Prop) (g s : Nat) (raw : L) (dp : Nat) (r : Wd.R) (x : Wd.S) : Prop := ∃ vp vt nd, RMx W X T g s raw dp r x vp vt nd
def RM (W : World) (X : Nat → Prop) (g s : Nat) (raw : L) (dp : Nat) (r : Wd.R) (x : Wd.S) : Prop := ∃ T, RMT W X T g s raw dp r x
/-- .. and a slice of parts beside it. -/
def RMv (W : World) (X : Nat → Prop) (g s : Nat) (raw : L) (dp : Nat) (r : Wd.R) (x : Wd.S) (v : Value) (ps : List Wd.P) : Prop := ∃ T, RMT W X T g s raw dp r x ∧ PsAt W T v ps
section
variable {W W' : World} {X T : Nat → Prop} {g s dp : Nat} {raw : L} {r : Wd.R} {x x' : Wd.S} {vp vt : Value} {nd : List (Wd.P × Value)}
theorem RMx.rm (h : RMx W X T g s raw dp r x vp vt nd) : RM W X g s raw dp r x := ⟨T, vp, vt, nd, h⟩
theorem RMv.rm {v : Value} {ps : List Wd.P} (h : RMv W X g s raw dp r x v ps) : RM W X g s raw dp r x := by obtain ⟨T, h, _⟩ := h; exact ⟨T, h⟩
theorem RM.nil (h : RM W X g s raw dp r x) : RMv W X g s raw dp r x (.slice none 0 0) [] := by obtain ⟨T, h⟩ := h; exact ⟨T, h, .nil _ _⟩
theorem RMx.facts (h : RMx W X T g s raw dp r x vp vt nd) : (W.cell? ⟨g, 0, none⟩ = some vp ∧ W.cell? ⟨g, 1, none⟩ = some (.int .i64 (r.k : Int)) ∧ W.cell? ⟨g, 2, none⟩ = some vt ∧ W.cell? ⟨g, 3, none⟩ = some (.pointer (some ⟨s, 0, none⟩)) ∧ W.cell? ⟨g, 4, none⟩ = some (.int .i64 (dp : Int))) ∧ ∀ i, W.frozen? ⟨g, i, none⟩ = false :=
  ⟨⟨(cell_row h.box 0).1, (cell_row h.box 1).1, (cell_row h.box 2).1, (cell_row h.box 3).1, (cell_row h.box 4).1⟩, fun i => (cell_row h.box i).2⟩
theorem RM.facts (h : RM W X g s raw dp r x) : (W.cell? ⟨g, 3, none⟩ = some (.pointer (some ⟨s, 0, none⟩)) ∧ W.cell? ⟨g, 4, none⟩ = some (.int .i64 (dp : Int))) ∧ ∀ i, W.frozen? ⟨g, i, none⟩ = false := by
  obtain ⟨T, vp, vt, nd, h⟩ := h
  exact ⟨⟨h.facts.1.2.2.2.1, h.facts.1.2.2.2.2⟩, h.facts.2⟩
theorem RMx.len (h : RMx W X T g s raw dp r x vp vt nd) : nd.length = r.ps.length := by rw [← h.ps, List.length_map]
theorem RMx.lt (h : RMx W X T g s raw dp r x vp vt nd) : g < W.heap.size := lt_of_block h.box
theorem RM.src (h : RM W X g s raw dp r x) : Sr W s raw x := by obtain ⟨T, vp, vt, nd, h⟩ := h; exact h.src
theorem RM.xl (h : RM W X g s raw dp r x) : XL X W := by obtain ⟨T, vp, vt, nd, h⟩ := h; exact h.xl
theorem RM.sX (h : RM W X g s raw dp r x) : ¬ X s := by obtain ⟨T, vp, vt, nd, h⟩ := h; exact h.sX
/-- A block of one type is none of another's row. -/
theorem row_ne {cs : Array Value} {t e : TypeId} {base size n b : Nat} {v : Value} {xs : List Value} (hb : W.heap[b]? = some (.cells cs t (0, 0))) (ho : W.ownsRow base e size v n xs) (he : e ≠ t) : v.ownBlock ≠ some b := fun e1 => by
  obtain ⟨cs', hb'⟩ := own_type ho e1
  rw [hb] at hb'
  injection hb' with hb'
  injection hb' with _ hb' _
  exact he hb'.symm
theorem blk_ne {cs cs' : Array Value} {t t' : TypeId} {b b' : Nat} (hb : W.heap[b]? = some (.cells cs t (0, 0))) (hb' : W.heap[b']? = some (.cells cs' t' (0, 0))) (he : t ≠ t') : b ≠ b' := fun e1 => by
  rw [e1, hb'] at hb
  injection hb with hb
  injection hb with _ hb _
  exact he hb.symm
theorem Sr.box (h : Sr W s raw x) : ∃ cs, W.heap[s]? = some (.cells cs 45 (0, 0)) := by obtain ⟨p, h⟩ := h; exact ⟨_, h.box⟩
theorem RMx.g_ne_s (h : RMx W X T g s raw dp r x vp vt nd) : g ≠ s := by
  obtain ⟨cs, hb⟩ := h.src.box
  exact blk_ne h.box hb (by decide)
theorem tree_kept (h : ∀ y ∈ nd, PsAt W T y.2 y.1.w) (hs : W.heap.size ≤ W'.heap.size) (hk : ∀ b, T b → b < W.heap.size → W'.heap[b]? = W.heap[b]?) : ∀ y ∈ nd, PsAt W' T y.2 y.1.w := fun y hy => (h y hy).kept hs hk fun _ hb => hb
/-- The source went on. -/
theorem RMx.step (h : RMx W X T g s raw dp r x vp vt nd) (hs : Sr W' s raw x') (hg : W.grownBy W' (some s)) : RMx W' X T g s raw dp r x' vp vt nd := by
  obtain ⟨cs, hb⟩ := h.src.box
  exact ⟨(hg.block g h.lt (fun e => h.g_ne_s (by injection e))).trans h.box, hs, h.gX, h.sX, h.gT, h.sT, h.txt.kept hg (.inr (row_ne hb h.txt (by decide))), h.tX, h.tT, h.row.kept hg (.inr (row_ne hb h.row (by decide))), h.pX, h.pT, h.ps, tree_kept h.tree hg.size (fun b hT hlt => hg.block b hlt (fun e => h.sT (by injection e with e; rw [← e]; exact hT))), h.kk, h.xl.mono hg.size, h.tl.mono hg.size, h.xt, h.og, h.op.kept (hg.block _ (h.xl _ h.og) (fun e => h.sX (by injection e with e; rw [← e]; exact h.og)))⟩
theorem RM.step (h : RM W X g s raw dp r x) (hs : Sr W' s raw x') (hg : W.grownBy W' (some s)) : RM W' X g s raw dp r x' ∧ Fr X W W' := by
  obtain ⟨T, vp, vt, nd, h⟩ := h
  exact ⟨(h.step hs hg).rm, Fr.grown hg fun b e => by injection e with e; rw [← e]; exact h.sX⟩
theorem RMx.later (h : RMx W X T g s raw dp r x vp vt nd) (hl : Later W W') : RMx W' X T g s raw dp r x vp vt nd := h.step (h.src.kept (grown_of_later hl none) nofun) (grown_of_later hl (some s))
theorem RM.later (h : RM W X g s raw dp r x) (hl : Later W W') : RM W' X g s raw dp r x := by
  obtain ⟨T, vp, vt, nd, h⟩ := h
  exact (h.later hl).rm
theorem RM.drewN (h : RM W X g s raw dp r x) (m : Nat) : RM (W.drewN m) X g s raw dp r x := h.later (later_drewN W m)
theorem RMv.later {v : Value} {ps : List Wd.P} (h : RMv W X g s raw dp r x v ps) (hl : Later W W') : RMv W' X g s raw dp r x v ps := by
  obtain ⟨T, ⟨vp, vt, nd, h⟩, h2⟩ := h
  exact ⟨T, ⟨vp, vt, nd, h.later hl⟩, h2.kept hl.size (fun b _ hlt => hl.block b hlt) fun _ hb => hb⟩
/-- The text has grown by so much, and is stored; or a cell of the struct is written. -/
theorem RMx.set (h : RMx W X T g s raw dp r x vp vt nd) {W1 : World} {row : Option Nat} (hg : W.grownBy W1 row) (hr : ∀ b, row = some b → ¬ X b ∧ ¬ T b) (hrg : row ≠ some g) (hrs : row ≠ some s) (i : Nat) (u : Value) {r' : Wd.R} {vp' vt' : Value} {nd' : List (Wd.P × Value)} (hc : (rc vp vt r.k s dp).setIfInBounds i u = rc vp' vt' r'.k s dp)
    (ht : W1.ownsRow 0 5 1 vt' r'.t.length (r'.t.map bv)) (htb : ∀ b, vt'.ownBlock = some b → ¬ X b ∧ ¬ T b) (hp : W1.ownsRow 0 28 5 vp' nd'.length (cellsP nd')) (hpb : ∀ b, vp'.ownBlock = some b → ¬ X b ∧ ¬ T b) (hps : nd'.map Prod.fst = r'.ps) (htr : ∀ y ∈ nd', PsAt W T y.2 y.1.w) (hk : r'.k ≤ 9) :
    RMx (W1.setCell ⟨g, i, none⟩ u) X T g s raw dp r' x vp' vt' nd' ∧ Fr (un X T) W (W1.setCell ⟨g, i, none⟩ u) := by
  have hs := set_only W1 g i u
  have hbx : W1.heap[g]? = some (.cells (rc vp vt r.k s dp) 41 (0, 0)) := (hg.block g h.lt (fun e => hrg e.symm)).trans h.box
  have hsr := h.src.kept hg (fun e => hrs e.symm)
  refine ⟨⟨by rw [set_row hbx, hc], hsr.kept hs (fun e => h.g_ne_s (by injection e with e; exact e.symm)), h.gX, h.sX, h.gT, h.sT, ht.kept hs (.inr (row_ne hbx ht (by decide))), fun b e => (htb b e).1, fun b e => (htb b e).2, hp.kept hs (.inr (row_ne hbx hp (by decide))), fun b e => (hpb b e).1, fun b e => (hpb b e).2, hps, ?_, hk, (h.xl.mono hg.size).mono hs.size, (h.tl.mono hg.size).mono hs.size, h.xt, h.og, h.op.kept ((hs.block _ (Nat.lt_of_lt_of_le (h.xl _ h.og) hg.size) (fun e => h.gX (by injection e with e; rw [← e]; exact h.og))).trans (hg.block _ (h.xl _ h.og) fun e => (hr _ e.symm).1 h.og))⟩, ?_⟩
  · refine tree_kept htr (Nat.le_trans hg.size hs.size) fun b hT hlt => ?_
    rw [hs.block b (Nat.lt_of_lt_of_le hlt hg.size) (fun e => h.gT (by injection e with e; rw [← e]; exact hT))]
    exact hg.block b hlt fun e => (hr b e.symm).2 hT
  · exact (Fr.grown hg fun b e hx => hx.elim (hr b e).1 (hr b e).2).trans (Fr.grown hs fun b e => by injection e with e; rw [← e]; exact fun hx => hx.elim h.gX h.gT)
theorem RMx.more (h : RMx W X T g s raw dp r x vp vt nd) (hl : Later W W') (l : List Nat) (hb : ∀ b ∈ l, W.heap.size ≤ b ∧ b < W'.heap.size) : RMx W' (plus X l) T g s raw dp r x vp vt nd := by
  have h' := h.later hl
  have key : ∀ b, b < W.heap.size → ¬ X b → ¬ plus X l b := fun b hlt hx e => by
    rcases e with e | e
    · exact hx e
    · have := (hb b e).1; omega
  exact ⟨h'.box, h'.src, key g h.lt h.gX, key s h.src.lt h.sX, h.gT, h.sT, h'.txt, fun b e => key b (h.txt.lt b e).2 (h.tX b e), h.tT, h'.row, fun b e => key b (h.row.lt b e).2 (h.pX b e), h.pT, h.ps, h'.tree, h.kk, fun b e => by
    rcases e with e | e
    · exact h'.xl b e
    · exact (hb b e).2, h'.tl, fun b e ht => by
    rcases e with e | e
    · exact h.xt b e ht
    · have := (hb b e).1; have := h.tl b ht; omega, .inl h.og, h'.op⟩
theorem RMx.less {l : List Nat} (h : RMx W (plus X l) T g s raw dp r x vp vt nd) (ho : X 1) : RMx W X T g s raw dp r x vp vt nd :=
  ⟨h.box, h.src, fun e => h.gX (.inl e), fun e => h.sX (.inl e), h.gT, h.sT, h.txt, fun b e e2 => h.tX b e (.inl e2), h.tT, h.row, fun b e e2 => h.pX b e (.inl e2), h.pT, h.ps, h.tree, h.kk, fun b e => h.xl b (.inl e), h.tl, fun b e => h.xt b (.inl e), ho, h.op⟩
theorem RM.more (h : RM W X g s raw dp r x) (hl : Later W W') (l : List Nat) (hb : ∀ b ∈ l, W.heap.size ≤ b ∧ b < W'.heap.size) : RM W' (plus X l) g s raw dp r x := by
  obtain ⟨T, vp, vt, nd, h⟩ := h
  exact (h.more hl l hb).rm
theorem RM.less {l : List Nat} (h : RM W (plus X l) g s raw dp r x) (ho : X 1) : RM W X g s raw dp r x := by
  obtain ⟨T, vp, vt, nd, h⟩ := h
  exact (h.less ho).rm
theorem RMv.less {l : List Nat} {v : Value} {ps : List Wd.P} (h : RMv W (plus X l) g s raw dp r x v ps) (ho : X 1) : RMv W X g s raw dp r x v ps := by
  obtain ⟨T, ⟨vp, vt, nd, h⟩, h2⟩ := h
  exact ⟨T, ⟨vp, vt, nd, h.less ho⟩, h2⟩
theorem RM.og (h : RM W X g s raw dp r x) : X 1 := by obtain ⟨T, vp, vt, nd, h⟩ := h; exact h.og
theorem RM.op (h : RM W X g s raw dp r x) : Ops W := by obtain ⟨T, vp, vt, nd, h⟩ := h; exact h.op
theorem RM.lt (h : RM W X g s raw dp r x) : g < W.heap.size := by obtain ⟨T, vp, vt, nd, h⟩ := h; exact h.lt
theorem moved_new {v v' : Value} {Y : Nat → Prop} (hv : ∀ b, v.ownBlock = some b → ¬ Y b) (hY : XL Y W) (hm : Moved W v v') : ∀ b, v'.ownBlock = some b → ¬ Y b := fun b e => by
  rcases hm with e1 | ⟨k, e1, e2⟩
  · exact hv b (e1.symm.trans e)
  · intro hx
    have := hY b hx
    rw [e1] at e
    injection e with e
    omega
/-- The text has grown. -/
theorem RMx.wrote (h : RMx W X T g s raw dp r x vp vt nd) {W1 : World} {v' : Value} {t : L} (hg : Grew W W1 0 5 vt v' ((r.t ++ t).map bv)) : RMx (W1.setCell ⟨g, 2, none⟩ v') X T g s raw dp ⟨r.ps, r.k, r.t ++ t⟩ x vp v' nd ∧ Fr (un X T) W (W1.setCell ⟨g, 2, none⟩ v') := by
  obtain ⟨cs, hb⟩ := h.src.box
  have ho := hg.1
  rw [List.length_map] at ho
  refine h.set hg.2 (fun b e => ⟨h.tX b e, h.tT b e⟩) (row_ne h.box h.txt (by decide)) (row_ne hb h.txt (by decide)) 2 v' (r' := ⟨r.ps, r.k, r.t ++ t⟩) rfl ho (fun b e => ⟨moved_new h.tX h.xl hg.3 b e, moved_new h.tT h.tl hg.3 b e⟩) (h.row.kept hg.2 (apart_types h.row h.txt (by decide))) (fun b e => ⟨h.pX b e, h.pT b e⟩) h.ps h.tree h.kk
/-- Its kind is written. -/
theorem RMx.kind (h : RMx W X T g s raw dp r x vp vt nd) (k : Nat) (hk : k ≤ 9) : RMx (W.setCell ⟨g, 1, none⟩ (.int .i64 (k : Int))) X T g s raw dp ⟨r.ps, k, r.t⟩ x vp vt nd ∧ Fr (un X T) W (W.setCell ⟨g, 1, none⟩ (.int .i64 (k : Int))) :=
  h.set (World.grownBy.refl W none) nofun nofun nofun 1 _ (r' := ⟨r.ps, k, r.t⟩) rfl h.txt (fun b e => ⟨h.tX b e, h.tT b e⟩) h.row (fun b e => ⟨h.pX b e, h.pT b e⟩) h.ps h.tree hk
/-- Its text is dropped. -/
theorem RMx.drop (h : RMx W X T g s raw dp r x vp vt nd) : RMx (W.setCell ⟨g, 2, none⟩ (.slice none 0 0)) X T g s raw dp ⟨r.ps, r.k, []⟩ x vp (.slice none 0 0) nd ∧ Fr (un X T) W (W.setCell ⟨g, 2, none⟩ (.slice none 0 0)) :=
  h.set (World.grownBy.refl W none) nofun nofun nofun 2 _ (r' := ⟨r.ps, r.k, []⟩) rfl (World.ownsRow_nil W 0 _ 1) nofun h.row (fun b e => ⟨h.pX b e, h.pT b e⟩) h.ps h.tree h.kk
/-- A part is added. -/
theorem RMx.added (h : RMx W X T g s raw dp r x vp vt nd) {W1 : World} {v' : Value} {y : Wd.P × Value} (ho : W1.ownsRow 0 28 5 v' (nd.length + 1) (cellsP nd ++ pcs y)) (hg : W.grownBy W1 vp.ownBlock) (hm : Moved W vp v') (hy : PsAt W T y.2 y.1.w) : RMx (W1.setCell ⟨g, 0, none⟩ v') X T g s raw dp ⟨r.ps ++ [y.1], r.k, r.t⟩ x v' vt (nd ++ [y]) ∧ Fr (un X T) W (W1.setCell ⟨g, 0, none⟩ v') := by
  obtain ⟨cs, hb⟩ := h.src.box
  refine h.set hg (fun b e => ⟨h.pX b e, h.pT b e⟩) (row_ne h.box h.row (by decide)) (row_ne hb h.row (by decide)) 0 v' (r' := ⟨r.ps ++ [y.1], r.k, r.t⟩) rfl (h.txt.kept hg (apart_types h.txt h.row (by decide))) (fun b e => ⟨h.tX b e, h.tT b e⟩) (by rw [cellsP_app, List.length_append]; exact ho) (fun b e => ⟨moved_new h.pX h.xl hm b e, moved_new h.pT h.tl hm b e⟩) (by rw [List.map_append, h.ps]; rfl) (fun z hz => ?_) h.kk
  rcases List.mem_append.1 hz with h1 | h1
  · exact h.tree z h1
  · simp only [List.mem_singleton] at h1
    subst h1
    exact hy
end
theorem info_part3 : (Tryd.prog.info? 28).map (fun i => (i.zero, i.size, i.bytes)) = some (some (.agg #[.int .i64 0, .string ⟨#[]⟩, .string ⟨#[]⟩, .bool false, .slice none 0 0]), 5, 72) := by kernel_rfl
theorem info_part : (Tryd.prog.info? 28).map (fun i => (i.zero, i.size)) = some (some (.agg #[.int .i64 0, .string ⟨#[]⟩, .string ⟨#[]⟩, .bool false, .slice none 0 0]), 5) := by kernel_rfl
theorem size_part : (Tryd.prog.info? 28).map (·.size) = some 5 := by kernel_rfl
end Go.Proofs.YtlenocpaalahbaaDoor
