/- A row of nodes that the law builds, and the list whose kids it gathers. No premises. -/
import Derived.Test.YtipojbknkfkgoaaGreatDoorSameS
import Derived.Test.YtipojbknkfkgoaaGreatDoorNq
namespace Go.Proofs.YtipojbknkfkgoaaGreatDoor
open Go.RowKit Go.Maps
open Lx (nl Tok)
open Pz
namespace syntaxTwo
/-- A node, its slices, its line. -/
abbrev It := Sx.Node × Vals × Value
def ics (x : It) : List Value := ncs x.1 x.2.1 x.2.2
def icells (l : List It) : List Value := l.flatMap ics
theorem icells_len (l : List It) : (icells l).length = l.length * 8 := by
  unfold icells
  induction l with
  | nil => rfl
  | cons x l ih => rw [List.flatMap_cons, List.length_append, ih]; simp only [ics, ncs, List.length_cons, List.length_nil]; omega
theorem icells_add (l : List It) (x : It) : icells (l ++ [x]) = icells l ++ ics x := by unfold icells; simp
theorem icells_at : ∀ (l : List It) (j : Nat) (hj : j < l.length) (i : Nat) (_ : i < 8), (icells l)[j * 8 + i]? = (ics l[j])[i]?
  | [], j, hj, _, _ => by simp at hj
  | z :: ts, 0, _, i, hi => by
    have e : icells (z :: ts) = ics z ++ icells ts := by simp [icells]
    rw [e, List.getElem?_append_left (by simp [ics, ncs]; omega)]
    simp
  | z :: ts, j + 1, hj, i, hi => by
    have e : icells (z :: ts) = ics z ++ icells ts := by simp [icells]
    have hl : (ics z).length = 8 := rfl
    rw [e, List.getElem?_append_right (by omega), hl, show (j + 1) * 8 + i - 8 = j * 8 + i by omega, icells_at ts j (by simpa using hj) i hi]
    rfl
theorem ics_one {W : World} {x : It} (h : Nest W x.1 x.2.1) (hl : ∃ ln : Int, x.2.2 = .int .i64 ln) : ∀ u ∈ ics x, u.oneCell' = true := by
  obtain ⟨_, _, e1, _⟩ := own_any h.w
  obtain ⟨_, _, e2, _⟩ := own_any h.r
  obtain ⟨_, _, e3, _⟩ := own_any h.k
  obtain ⟨ln, hl⟩ := hl
  intro u hu
  unfold ics ncs at hu
  rw [e1, e2, e3, hl] at hu
  simp only [List.mem_cons, List.not_mem_nil, or_false] at hu
  rcases hu with rfl | rfl | rfl | rfl | rfl | rfl | rfl | rfl <;> rfl
theorem own_ne {w : World} {b1 b2 s1 s2 n1 n2 : Nat} {e1 e2 : TypeId} {v1 v2 : Value} {x1 x2 : List Value} (h1 : w.ownsRow b1 e1 s1 v1 n1 x1) (h2 : w.ownsRow b2 e2 s2 v2 n2 x2) (hne : e1 ≠ e2) : v1.ownBlock = none ∨ v1.ownBlock ≠ v2.ownBlock := by
  cases e : v1.ownBlock with
  | none => exact .inl rfl
  | some b =>
    refine .inr fun e2 => ?_
    obtain ⟨c1, h3⟩ := own_type h1 e
    obtain ⟨c2, h4⟩ := own_type h2 e2.symm
    rw [h3] at h4
    injection h4 with h4
    injection h4 with _ h4 _
    exact hne h4
theorem own_box {w : World} {b s n L : Nat} {e t : TypeId} {v : Value} {xs : List Value} {cs : Array Value} (h : w.ownsRow b e s v n xs) (hb : w.heap[L]? = some (.cells cs t (0, 0))) (hne : e ≠ t) : v.ownBlock ≠ some L := fun e1 => by
  obtain ⟨c1, h3⟩ := own_type h e1
  rw [hb] at h3
  injection h3 with h3
  injection h3 with _ h3 _
  exact hne h3.symm
/-- What the law holds: the row that it builds, the list in block L, and its kids. -/
structure Lp (W0 W : World) (L : Nat) (vW vK : Value) (items : List It) (LK : List Nat) : Prop where
  lt : Later W0 W
  own : W.ownsRow W0.heap.size 35 8 vW items.length (icells items)
  nest : ∀ x ∈ items, Nest W x.1 x.2.1 ∧ ∃ ln : Int, x.2.2 = .int .i64 ln
  box : W.heap[L]? = some (.cells #[.int .i64 5, .string ⟨#[]⟩, .bool false, .slice none 0 0, .int .i64 0, .slice none 0 0, vK, .int .i64 0] 35 (0, 0))
  low : W0.heap.size ≤ L
  oK : W.ownsRow W0.heap.size 3 1 vK LK.length (LK.map iv)
  s1 : vW.ownBlock ≠ some L
  s2 : ∀ x ∈ items, ∀ b, x.2.1.k.ownBlock = some b → vK.ownBlock ≠ some b
section
variable {W0 W W' : World} {L : Nat} {vW vK : Value} {items : List It} {LK : List Nat}
theorem Lp.later (h : Lp W0 W L vW vK items LK) (hl : Later W W') : Lp W0 W' L vW vK items LK :=
  ⟨h.lt.trans hl, own_below h.own hl, fun x hx => ⟨(h.nest x hx).1.later hl, (h.nest x hx).2⟩, later_cells hl h.box, h.low, own_below h.oK hl, h.s1, h.s2⟩
theorem Lp.add (h : Lp W0 W L vW vK items LK) {vW' : Value} {x : It} (hx : Nest W x.1 x.2.1) (hln : ∃ ln : Int, x.2.2 = .int .i64 ln) (hk : ∀ b, x.2.1.k.ownBlock = some b → vK.ownBlock ≠ some b)
    (ho : W'.ownsRow W0.heap.size 35 8 vW' (items.length + 1) (icells items ++ ics x)) (hg : W.grownBy W' vW.ownBlock) (hm : vW'.ownBlock = vW.ownBlock ∨ ∃ b, vW'.ownBlock = some b ∧ W.heap.size ≤ b) : Lp W0 W' L vW' vK (items ++ [x]) LK := by
  have hL := lt_of_block h.box
  have hnest : ∀ n v, Nest W n v → Nest W' n v := fun n v hn => hn.grown hg fun b hb e => by
    obtain ⟨cs, t, hb1, ht⟩ := hn.types hb
    obtain ⟨cs', hb2⟩ := own_type h.own e.symm
    rw [hb1] at hb2
    injection hb2 with hb2
    injection hb2 with _ hb2 _
    rcases ht with rfl | rfl | rfl <;> revert hb2 <;> decide
  refine ⟨h.lt.grown hg h.lt.size fun k hk => (h.own.lt k hk).1, ?_, fun y hy => ?_, (hg.block L hL (fun e => h.s1 e.symm)).trans h.box, h.low, h.oK.kept hg (own_ne h.oK h.own (by decide)), ?_, fun y hy => ?_⟩
  · rw [icells_add, List.length_append]; exact ho
  · rcases List.mem_append.1 hy with hy | hy
    · exact ⟨hnest _ _ (h.nest y hy).1, (h.nest y hy).2⟩
    · rw [List.mem_singleton] at hy; subst hy; exact ⟨hnest _ _ hx, hln⟩
  · rcases hm with e | ⟨b, e, hb⟩
    · rw [e]; exact h.s1
    · rw [e]; intro e2; injection e2 with e2; omega
  · rcases List.mem_append.1 hy with hy | hy
    · exact h.s2 y hy
    · rw [List.mem_singleton] at hy; subst hy; exact hk
theorem Lp.box_grown (h : Lp W0 W L vW vK items LK) (hg : W.grownBy W' vK.ownBlock) : W'.heap[L]? = some (.cells #[.int .i64 5, .string ⟨#[]⟩, .bool false, .slice none 0 0, .int .i64 0, .slice none 0 0, vK, .int .i64 0] 35 (0, 0)) :=
  (hg.block L (lt_of_block h.box) (fun e => own_box h.oK h.box (by decide) e.symm)).trans h.box
theorem Lp.kids (h : Lp W0 W L vW vK items LK) {vK' : Value} {more : List Nat}
    (ho : W'.ownsRow W0.heap.size 3 1 vK' (LK.length + more.length) (LK.map iv ++ more.map iv)) (hg : W.grownBy W' vK.ownBlock) (hm : vK'.ownBlock = vK.ownBlock ∨ ∃ b, vK'.ownBlock = some b ∧ W.heap.size ≤ b) : Lp W0 (W'.setCell ⟨L, 6, none⟩ vK') L vW vK' items (LK ++ more) := by
  have hbx := h.box_grown hg
  have hs := set_only W' L 6 vK'
  have hw1 : W'.ownsRow W0.heap.size 35 8 vW items.length (icells items) := h.own.kept hg (own_ne h.own h.oK (by decide))
  refine ⟨(h.lt.grown hg h.lt.size fun k hk => (h.oK.lt k hk).1).grown hs (Nat.le_trans h.lt.size hg.size) fun k hk => ?_, ?_, fun x hx => ?_, set_row hbx 6 vK', h.low, ?_, h.s1, fun x hx b hb => ?_⟩
  · injection hk with hk; rw [← hk]; exact h.low
  · refine hw1.kept hs ?_
    cases e : vW.ownBlock with
    | none => exact .inl rfl
    | some b => exact .inr (by rw [← e]; exact h.s1)
  · obtain ⟨hn, hln⟩ := h.nest x hx
    have h1 : Nest W' x.1 x.2.1 := hn.grown hg fun b hb e => by
      obtain ⟨c2, h4⟩ := own_type h.oK e.symm
      rcases mem_blks.1 hb with e1 | e1 | e1
      · obtain ⟨c1, h3⟩ := own_type hn.w e1
        rw [h3] at h4
        injection h4 with h4
        injection h4 with _ h4 _
        revert h4
        decide
      · obtain ⟨c1, h3⟩ := own_type hn.r e1
        rw [h3] at h4
        injection h4 with h4
        injection h4 with _ h4 _
        revert h4
        decide
      · exact h.s2 x hx b e1 e.symm
    refine ⟨h1.grown hs fun b hb e => ?_, hln⟩
    injection e with e
    obtain ⟨cs, t, hb1, ht⟩ := h1.types hb
    rw [e, hbx] at hb1
    injection hb1 with hb1
    injection hb1 with _ hb1 _
    rcases ht with rfl | rfl | rfl <;> revert hb1 <;> decide
  · rw [List.length_append, List.map_append]
    exact ho.kept hs (.inr (own_box ho hbx (by decide)))
  · rcases hm with e | ⟨b', e, hb'⟩
    · rw [e]; exact h.s2 x hx b hb
    · rw [e]
      intro e2
      injection e2 with e2
      have := ((h.nest x hx).1.k.lt b hb).2
      omega
end
theorem items_rd {W : World} {base n c : Nat} {A : Option Addr} {items : List It} (ho : W.ownsRow base 35 8 (.slice A n c) n (icells items)) (hn : items.length = n) (hnest : ∀ x ∈ items, Nest W x.1 x.2.1 ∧ ∃ ln : Int, x.2.2 = .int .i64 ln) : RdN W A n (items.map (·.1)) := by
  refine ⟨by simpa using hn, fun k hk => ?_⟩
  rw [List.length_map] at hk
  rw [List.getElem_map]
  rcases ho.2 with ⟨hv, h0⟩ | ⟨g, cap, cur, hv, hb, hh, hnc, hcm, hcs, htake⟩
  · omega
  · injection hv with e1 e2 e3
    subst e1
    obtain ⟨h2, ln, hln⟩ := hnest items[k] (List.getElem_mem hk)
    have hat : ∀ i, i < 8 → ∀ u, (ics items[k])[i]? = some u → W.cell? ⟨g, k * 8 + i, none⟩ = some u := fun i hi u hu => by
      have hc := ho.cells (g := g) rfl (k * 8 + i) u (by rw [icells_at items k hk i hi]; exact hu)
      rwa [add_lit0] at hc
    obtain ⟨Aw, cw, e1, _⟩ := own_any h2.w
    obtain ⟨Ar, cr, e2, _⟩ := own_any h2.r
    obtain ⟨Ak, ck, e3, _⟩ := own_any h2.k
    have hw := h2.w
    have hr := h2.r
    have hk := h2.k
    rw [e1] at hw
    rw [e2] at hr
    rw [e3] at hk
    exact ⟨g, Aw, Ar, Ak, cw, cr, ck, ln, rfl, hat 0 (by omega) _ rfl, hat 1 (by omega) _ rfl, hat 2 (by omega) _ rfl, by rw [← e1]; exact hat 3 (by omega) _ rfl, hat 4 (by omega) _ rfl, by rw [← e2]; exact hat 5 (by omega) _ rfl, by rw [← e3]; exact hat 6 (by omega) _ rfl, by rw [← hln]; exact hat 7 (by omega) _ rfl, Rd.of_own hw, RdR.of_own hr, Rd.of_own hk, own_most hw, own_most hr, own_most hk⟩
/-- A tree's nodes but the last one, as items; and the last one's kids. -/
theorem tree_items {W : World} {N n c : Nat} {A : Option Addr} {xs : List Sx.Node} {s : Sx.Node} (h : TreeM W N (.slice A (n + 1) c) (xs ++ [s])) (hn : xs.length = n) :
    ∃ g, A = some ⟨g, 0, none⟩ ∧ g < W.heap.size ∧ ∃ items : List It, items.map (·.1) = xs ∧ (∀ x ∈ items, Nest W x.1 x.2.1 ∧ ∃ ln : Int, x.2.2 = .int .i64 ln) ∧ (∀ j u, (icells items)[j]? = some u → W.cell? ((⟨g, 0, none⟩ : Addr).add j) = some u) ∧
    ∃ Ak ck, W.cell? ⟨g, n * 8 + 6, none⟩ = some (.slice Ak s.kids.length ck) ∧ W.ownsRow 0 3 1 (.slice Ak s.kids.length ck) s.kids.length (s.kids.map iv) := by
  have h0 := h
  obtain ⟨nd, h1, h2, h3⟩ := h
  have hl : nd.length = n + 1 := by have := congrArg List.length h1; simpa [hn] using this
  rcases h2.2 with ⟨hv, h00⟩ | ⟨g, cap, cur, hv, hb, hh, hnc, hcm, hcs, htake⟩
  · omega
  · injection hv with e1 e2 e3
    subst e1
    have hnd : nd = nd.take n ++ [nd[n]] := by rw [← List.take_succ_eq_append_getElem (by omega), List.take_of_length_le (by omega)]
    have hcell : ∀ j u, (cellsN N nd)[j]? = some u → W.cell? ((⟨g, 0, none⟩ : Addr).add j) = some u := fun j u hu => h2.cells (g := g) rfl j u hu
    refine ⟨g, rfl, lt_of_block hh, (nd.take n).map fun z => (z.1, z.2, lnv N z.1.left), ?_, fun x hx => ?_, fun j u hu => hcell j u ?_, ?_⟩
    · rw [List.map_map]
      have := congrArg (List.take n) h1
      rw [← List.map_take] at this
      rw [show (List.take n (xs ++ [s])) = xs by rw [← hn]; simp] at this
      exact this
    · obtain ⟨z, hz, rfl⟩ := List.mem_map.1 hx
      exact ⟨h3 z (List.mem_of_mem_take hz), _, rfl⟩
    · have e : cellsN N nd = icells ((nd.take n).map fun z => (z.1, z.2, lnv N z.1.left)) ++ cellsN N [nd[n]] := by
        conv => lhs; rw [hnd]
        unfold cellsN icells ics
        rw [List.flatMap_append, List.flatMap_map]
      rw [e, List.getElem?_append_left (List.getElem?_eq_some_iff.1 hu).1]
      exact hu
    · have hs : nd[n].1 = s := by
        have := congrArg (fun l => l[n]?) h1
        simp only [List.getElem?_map, List.getElem?_eq_getElem (show n < nd.length by omega), Option.map_some] at this
        rw [List.getElem?_append_right (by omega), hn, Nat.sub_self] at this
        simpa using this
      have hnest := h3 nd[n] (List.getElem_mem _)
      obtain ⟨Ak, ck, e3, _⟩ := own_any hnest.k
      have hk := hnest.k
      rw [hs] at e3 hk
      rw [e3] at hk
      refine ⟨Ak, ck, ?_, hk⟩
      have hc := hcell (n * 8 + 6) nd[n].2.k (by rw [cellsN_at N nd n (by omega) 6 (by omega)]; rfl)
      rw [add_lit0, e3] at hc
      exact hc
end syntaxTwo
end Go.Proofs.YtipojbknkfkgoaaGreatDoor
