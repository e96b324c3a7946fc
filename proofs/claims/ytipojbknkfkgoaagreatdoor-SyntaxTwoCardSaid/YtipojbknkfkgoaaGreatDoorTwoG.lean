/- What SyntaxTwo's walk asks of Parse and of append. No premises. -/
import Derived.Test.YtipojbknkfkgoaaGreatDoorTwoA
import Derived.Test.YtipojbknkfkgoaaGreatDoorSTwoT
import Derived.Test.YtipojbknkfkgoaaGreatDoorGives
import Derived.Test.YtipojbknkfkgoaaGreatDoorSxN
import Derived.Deep.Onto
namespace Go.Proofs.YtipojbknkfkgoaaGreatDoor
open Go.RowKit Go.Maps
open Lx (nl Tok)
open Pz
/-- append(s, x...), what it gives known. -/
theorem wpList_appX {P : Program} {ops : Array Oper} {rest : List Oper} {o : Oper} {a : Act} {Q : Exit → Act → World → Prop} {w : World} (hgd : o.guard = none) (s x : Operand) (t : TypeId)
    (ho : o.op = .call { callee := .builtin .append, args := #[s, x], argTypes := #[t, t] }) (vs vx : Value) (hs : a.eval s = vs) (hx : a.eval x = vx) (v' : Value) (w' : World)
    (hrun : (Builtin.append_ #[t, t] o.type #[vs, vx]).run P w = .ok v' w') (h : wpList P ops Q rest (a.put o.dst v') w') : wpList P ops Q (o :: rest) a w := by
  refine wpList_plain hgd fun K hK => ?_
  unfold Oper.wp execOp
  simp only [ho, resolve, invoke, builtin, Sem.run_bind, Sem.run_pure, Result.andThen_ok, List.map_toArray, List.map_cons, List.map_nil, hs, hx, hrun]
  exact hK _ _ h
namespace syntaxTwo
theorem err_nz {S : List UInt8} {k l : Nat} (h : Sx.tree S = .error (k, l)) : k ≠ 0 := by
  unfold Sx.tree at h
  cases e : Lx.all S with
  | error x =>
    obtain ⟨k', l'⟩ := x
    rw [e] at h
    injection h with h
    injection h with h1 h2
    have := ((Lx.all_lines S).1 k' l' e).1
    omega
  | ok o =>
    rw [e] at h
    intro hk
    subst hk
    exact Sx.parse_nz (Lx.all_good e) l h
theorem any_gives {w : World} (hg : Sgn w) {S : List UInt8} (hS : S.length ≤ 4096) : ∃ n k ns, Gives w S n k ns := by
  cases e : Sx.tree S with
  | ok ns => exact ⟨_, _, _, gives_ok hg hS e⟩
  | error x => obtain ⟨k, l⟩ := x; exact ⟨_, _, _, gives_err hg hS e⟩
theorem at_later {w w' : World} {N g o : Nat} {n : Sx.Node} {v : Vals} (h : NodeAt w N g o n v) (hl : Later w w') : NodeAt w' N g o n v := ⟨cell_keeps hl h.c0, cell_keeps hl h.c1, cell_keeps hl h.c2, cell_keeps hl h.c3, cell_keeps hl h.c4, cell_keeps hl h.c5, cell_keeps hl h.c6, cell_keeps hl h.c7⟩
theorem node_load {w : World} {N g o : Nat} {n : Sx.Node} {v : Vals} (h : NodeAt w N g o n v) : (Instr.loadAt 35 (.pointer (some ⟨g, o, none⟩))).run Tryz.prog w = .ok (.agg (ncs n v (lnv N n.left)).toArray) w := by
  refine run_loadAt_mid (P := Tryz.prog) w g o 35 (ncs n v (lnv N n.left)) _ (fun j u hu => ?_) Tryz.underlying35 rfl (by kernel_rfl)
  have hj : j < 8 := (List.getElem?_eq_some_iff.1 hu).1
  match j, hj with
  | 0, _ => cases hu; exact h.c0
  | 1, _ => cases hu; exact h.c1
  | 2, _ => cases hu; exact h.c2
  | 3, _ => cases hu; exact h.c3
  | 4, _ => cases hu; exact h.c4
  | 5, _ => cases hu; exact h.c5
  | 6, _ => cases hu; exact h.c6
  | 7, _ => cases hu; exact h.c7
/-- append(nil, t.Nodes[:n]...). -/
theorem first_run {W : World} {g n c : Nat} {items : List It} (hlen : items.length = n) (hn : n ≤ 100000) (hcell : ∀ j u, (icells items)[j]? = some u → W.cell? ((⟨g, 0, none⟩ : Addr).add j) = some u) (hnest : ∀ x ∈ items, Nest W x.1 x.2.1 ∧ ∃ ln : Int, x.2.2 = .int .i64 ln) :
    ∃ v' w', (Builtin.append_ #[24, 24] 24 #[.slice none 0 0, .slice (some ⟨g, 0, none⟩) n c]).run Tryz.prog W = .ok v' w' ∧ w'.ownsRow W.heap.size 35 8 v' items.length (icells items) ∧ Later W w' := by
  obtain ⟨i0, hi, hz0, hz1, hz2⟩ := info_parts info_node3
  have hone : ∀ u ∈ icells items, u.oneCell' = true := fun u hu => by
    unfold icells at hu
    obtain ⟨x, hx, hu⟩ := List.mem_flatMap.1 hu
    exact ics_one (hnest x hx).1 (hnest x hx).2 u hu
  obtain ⟨v', w', hrun, h2, h3, _, h5⟩ := run_append_own_at (P := Tryz.prog) W W.heap.size 24 24 35 i0 _ 8 120 Tryz.underlying24 hi hz0 hz1 hz2 rfl (by omega) (.slice none 0 0) 0 [] (World.ownsRow_nil W _ _ 8)
    ⟨g, 0, none⟩ n c (icells items) (by rw [icells_len, hlen]) hcell hone (by unfold maxLen; omega) (by omega) (Nat.le_refl _)
  refine ⟨v', w', hrun, ?_, ?_⟩
  · rw [Nat.zero_add, List.nil_append, ← hlen] at h2; exact h2
  · exact (Below.refl W.heap.size W).grown h3 (Nat.le_refl _) fun k hk => by simp [Value.ownBlock] at hk
section
variable {W0 W : World} {L : Nat} {vW vK : Value} {items : List It} {LK : List Nat}
/-- append(want, x). -/
theorem add_run (h : Lp W0 W L vW vK items LK) {x : It} {p : Nat} {cs : Array Value} (hx : Nest W x.1 x.2.1) (hln : ∃ ln : Int, x.2.2 = .int .i64 ln) (hk : ∀ b, x.2.1.k.ownBlock = some b → vK.ownBlock ≠ some b)
    (hcs : cs = (ics x).toArray) (hp : W.heap[p]? = some (.cells cs 35 (0, 0))) (hlen : items.length ≤ 100000) :
    ∃ vW' W', (Builtin.append_ #[24, 24] 24 #[vW, .slice (some ⟨p, 0, none⟩) 1 1]).run Tryz.prog W = .ok vW' W' ∧ Lp W0 W' L vW' vK (items ++ [x]) LK := by
  obtain ⟨i0, hi, hz0, hz1, hz2⟩ := info_parts info_node3
  subst hcs
  obtain ⟨v', w', hrun, h2, h3, _, h5⟩ := run_append_own_at (P := Tryz.prog) W W0.heap.size 24 24 35 i0 _ 8 120 Tryz.underlying24 hi hz0 hz1 hz2 rfl (by omega) vW items.length (icells items) h.own
    ⟨p, 0, none⟩ 1 1 (ics x) rfl (fun j u hj => by rw [add_lit0, (cell_row hp j).1]; simpa using hj) (ics_one hx hln) (by unfold maxLen; omega) (by omega) h.lt.size
  refine ⟨v', w', hrun, h.add hx hln hk h2 h3 ?_⟩
  rcases h5 with h5 | h5
  · exact .inl h5
  · exact .inr ⟨_, h5, Nat.le_refl _⟩
/-- append(last.Kids, kids...), and the store. -/
theorem kids_run (h : Lp W0 W L vW vK items LK) {B : Nat} {A : Option Addr} {m c : Nat} {more : List Nat} (hr : Rd W B A m (more.map iv)) (hlen : LK.length + m ≤ 1000000) :
    ∃ vK' W', (Builtin.append_ #[33, 33] 33 #[vK, .slice A m c]).run Tryz.prog W = .ok vK' W' ∧ W'.heap[L]? = some (.cells #[.int .i64 5, .string ⟨#[]⟩, .bool false, .slice none 0 0, .int .i64 0, .slice none 0 0, vK, .int .i64 0] 35 (0, 0)) ∧
      (∃ A n c, vK' = .slice A n c) ∧ Later W0 W' ∧ Lp W0 (W'.setCell ⟨L, 6, none⟩ vK') L vW vK' items (LK ++ more) := by
  obtain ⟨i0, hi, hz0, hz1, hz2⟩ := info_parts info_int3
  have hl : more.length = m := by have := hr.1; simpa using this
  obtain ⟨v', w', hrun, hg⟩ := run_appN (P := Tryz.prog) W W0.heap.size 33 33 3 i0 (.int .i64 0) 8 Tryz.underlying33 hi hz0 hz1 hz2 rfl vK (LK.map iv) (by rw [List.length_map]; exact h.oK) B A m c (more.map iv) hr
    (by intro u hu; obtain ⟨x, _, rfl⟩ := List.mem_map.1 hu; rfl) (by rw [List.length_map]; omega) (by rw [List.length_map]; omega) h.lt.size
  have ho := hg.own
  rw [List.length_append, List.length_map, List.length_map] at ho
  obtain ⟨A', c', e, _⟩ := own_any ho
  exact ⟨v', w', hrun, h.box_grown hg.grown, ⟨_, _, _, e⟩, h.lt.grown hg.grown h.lt.size fun k hk => (h.oK.lt k hk).1, h.kids ho hg.grown hg.moved⟩
/-- One kid more, in a row of the round's own. -/
theorem kid_one {w : World} {base : Nat} {v : Value} {xs : List Nat} {y : Nat} (hb : base ≤ w.heap.size) (ho : w.ownsRow base 3 1 v (xs.map iv).length (xs.map iv)) (hlen : xs.length ≤ 1000000) :
    ∃ v' w', (Builtin.append_ #[33, 33] 33 #[v, .slice (some ⟨w.heap.size, 0, none⟩) 1 1]).run Tryz.prog (w.alloc (.cells #[iv y] 3)) = .ok v' w' ∧ Grew w w' base 3 v v' ((xs ++ [y]).map iv) := by
  obtain ⟨i0, hi, hz0, hz1, hz2⟩ := info_parts info_int3
  obtain ⟨v', w', hrun, hg⟩ := run_appN (P := Tryz.prog) (w.alloc (.cells #[iv y] 3)) base 33 33 3 i0 (.int .i64 0) 8 Tryz.underlying33 hi hz0 hz1 hz2 rfl v (xs.map iv) (ho.alloc _) (w.heap.size + 1) (some ⟨w.heap.size, 0, none⟩) 1 1 [iv y]
    (Rd.lit w 3 [iv y]) (by intro u hu; rw [List.mem_singleton] at hu; subst hu; rfl) (by rw [List.length_map]; omega) (by rw [List.length_map]; omega) (by simp; omega)
  refine ⟨v', w', hrun, ?_⟩
  rw [List.map_append]
  exact ((Grew.refl ho).alloc _).trans hg
end
theorem nest_node {W W' : World} {base m : Nat} {vW : Value} {cs : List Value} {n : Sx.Node} {v : Vals} (ho : W.ownsRow base 35 8 vW m cs) (hg : W.grownBy W' vW.ownBlock) (hn : Nest W n v) : Nest W' n v := hn.grown hg fun b hb e => by
  obtain ⟨cs, t, hb1, ht⟩ := hn.types hb
  obtain ⟨cs', hb2⟩ := own_type ho e.symm
  rw [hb1] at hb2
  injection hb2 with hb2
  injection hb2 with _ hb2 _
  rcases ht with rfl | rfl | rfl <;> revert hb2 <;> decide
/-- append(want, last). -/
theorem last_run {W0 W : World} {L : Nat} {vW vK : Value} {items : List It} {LK : List Nat} (h : Lp W0 W L vW vK items LK) {p : Nat} {cs : Array Value}
    (hcs : cs = #[.int .i64 5, .string ⟨#[]⟩, .bool false, .slice none 0 0, .int .i64 0, .slice none 0 0, vK, .int .i64 0]) (hp : W.heap[p]? = some (.cells cs 35 (0, 0))) (hlen : items.length ≤ 100000) :
    ∃ A c W', (Builtin.append_ #[24, 24] 24 #[vW, .slice (some ⟨p, 0, none⟩) 1 1]).run Tryz.prog W = .ok (.slice A (items.length + 1) c) W' ∧ RdN W' A (items.length + 1) (items.map (·.1) ++ [{ kind := 5, kids := LK }]) ∧ Later W0 W' := by
  obtain ⟨i0, hi, hz0, hz1, hz2⟩ := info_parts info_node3
  obtain ⟨x, hxe⟩ : ∃ x : It, x = ({ kind := 5, kids := LK }, ⟨.slice none 0 0, .slice none 0 0, vK⟩, .int .i64 0) := ⟨_, rfl⟩
  have hx : Nest W x.1 x.2.1 := by rw [hxe]; exact ⟨World.ownsRow_nil _ _ _ 1, World.ownsRow_nil _ _ _ 4, h.oK.mono (Nat.zero_le _)⟩
  have hln : ∃ ln : Int, x.2.2 = .int .i64 ln := ⟨0, by rw [hxe]⟩
  have hcs' : cs = (ics x).toArray := by rw [hcs, hxe]; rfl
  subst hcs'
  obtain ⟨v', w', hrun, h2, h3, _, h5⟩ := run_append_own_at (P := Tryz.prog) W W0.heap.size 24 24 35 i0 _ 8 120 Tryz.underlying24 hi hz0 hz1 hz2 rfl (by omega) vW items.length (icells items) h.own
    ⟨p, 0, none⟩ 1 1 (ics x) rfl (fun j u hj => by rw [add_lit0, (cell_row hp j).1]; simpa using hj) (ics_one hx hln) (by unfold maxLen; omega) (by omega) h.lt.size
  obtain ⟨A, c, e, _⟩ := own_any h2
  subst e
  refine ⟨A, c, w', hrun, ?_, h.lt.grown h3 h.lt.size fun k hk => (h.own.lt k hk).1⟩
  have := items_rd (items := items ++ [x]) (by rw [icells_add]; exact h2) (by simp) fun y hy => by
    rcases List.mem_append.1 hy with hy | hy
    · exact ⟨nest_node h.own h3 (h.nest y hy).1, (h.nest y hy).2⟩
    · rw [List.mem_singleton] at hy; subst hy; exact ⟨nest_node h.own h3 hx, hln⟩
  rw [List.map_append] at this
  rw [hxe] at this
  exact this
/-- append(want, x), x out of its cells. -/
theorem item_run {W0 W : World} {L : Nat} {vW vK : Value} {items : List It} {LK : List Nat} (h : Lp W0 W L vW vK items LK) {p nw nr m cw cr ck : Nat} {Aw Ar Ak : Option Addr} {ln : Int} (y : Sx.Node) (kids : List Nat)
    (hw : W.ownsRow 0 9 1 (.slice Aw nw cw) nw (y.words.map sv)) (hnw : y.words.length = nw) (hr : W.ownsRow 0 63 4 (.slice Ar nr cr) nr (y.redirs.flatMap rcs)) (hnr : y.redirs.length = nr) (hk : W.ownsRow 0 3 1 (.slice Ak m ck) m (kids.map iv)) (hm : kids.length = m)
    (hne : ∀ b, (Value.slice Ak m ck).ownBlock = some b → vK.ownBlock ≠ some b)
    (hp : W.heap[p]? = some (.cells #[.int .i64 (y.kind : Int), .string (mkS y.text), .bool y.flag, .slice Aw nw cw, .int .i64 (y.sets : Int), .slice Ar nr cr, .slice Ak m ck, .int .i64 ln] 35 (0, 0))) (hlen : items.length ≤ 100000) :
    ∃ vW' W' x, (Builtin.append_ #[24, 24] 24 #[vW, .slice (some ⟨p, 0, none⟩) 1 1]).run Tryz.prog W = .ok vW' W' ∧ Lp W0 W' L vW' vK (items ++ [x]) LK ∧ x.1 = { y with kids := kids } := by
  subst hnw
  subst hnr
  subst hm
  obtain ⟨vW', W', h1, h2⟩ := add_run h (x := ({ y with kids := kids }, ⟨.slice Aw y.words.length cw, .slice Ar y.redirs.length cr, .slice Ak kids.length ck⟩, .int .i64 ln)) ⟨hw, hr, hk⟩ ⟨ln, rfl⟩ hne rfl hp hlen
  exact ⟨vW', W', _, h1, h2, rfl⟩
end syntaxTwo
end Go.Proofs.YtipojbknkfkgoaaGreatDoor
