/- Words over memory: rows, frames, structs that are made, written, read whole. No premises. -/
import Derived.Test.YteljmlodbnfhbaaSof6
import Derived.Deep.QuietTactic
import Derived.Deep.MidRow
import Derived.Deep.WholeRow
import Derived.Laws.Rows
namespace Go.Proofs.Yteljmlodbnfhbaa
open Go.RowKit Go.Maps
abbrev L := List UInt8
theorem cell_row {w : World} {g : Nat} {cs : Array Value} {t : TypeId} (h : w.heap[g]? = some (.cells cs t (0, 0))) (i : Nat) : w.cell? ⟨g, i, none⟩ = cs[i]? ∧ w.frozen? ⟨g, i, none⟩ = false :=
  ⟨by simp [World.cell?, h], by simp [World.frozen?, h]⟩
theorem set_row {w : World} {g : Nat} {cs : Array Value} {t : TypeId} (h : w.heap[g]? = some (.cells cs t (0, 0))) (i : Nat) (u : Value) : (w.setCell ⟨g, i, none⟩ u).heap[g]? = some (.cells (cs.setIfInBounds i u) t (0, 0)) := by
  have hlt := lt_of_block h
  have h' : w.heap[g] = .cells cs t (0, 0) := by simpa [Array.getElem?_eq_getElem hlt] using h
  show (w.heap.modify g _)[g]? = _
  rw [Array.getElem?_eq_getElem (by simpa using hlt), Array.getElem_modify_self, h']
  rfl
theorem set_only (w : World) (g i : Nat) (u : Value) : w.grownBy (w.setCell ⟨g, i, none⟩ u) (some g) :=
  ⟨rfl, rfl, rfl, by simp [World.setCell], fun k _ hk => Below.heap_setCell _ _ _ _ (fun e => hk (by rw [e]))⟩
/-- Rows of other types lie apart. -/
theorem apart_types {w : World} {base size n base' size' n' : Nat} {e e' : TypeId} {v v' : Value} {xs xs' : List Value} (h : w.ownsRow base e size v n xs) (h' : w.ownsRow base' e' size' v' n' xs') (hne : e ≠ e') : v.ownBlock = none ∨ v.ownBlock ≠ v'.ownBlock := by
  rcases h.2 with ⟨rfl, _⟩ | ⟨g, cap, cur, rfl, _, hg, _⟩
  · exact .inl rfl
  · refine .inr fun e1 => ?_
    rcases h'.2 with ⟨rfl, _⟩ | ⟨g', cap', cur', rfl, _, hg', _⟩
    · cases e1
    · simp only [Value.ownBlock, Option.some.injEq] at e1
      subst e1
      rw [hg] at hg'
      simp only [Option.some.injEq, Obj.cells.injEq] at hg'
      exact hne hg'.2.1
theorem ret_bool {a b : Bool} (h : a = b) : Ending.returned (.bool a) = .returned (.bool b) := by rw [h]
theorem owes_append {P : Program} {o : Oper} {a : Act} {w w' : World} {K : Act → World → Prop} {Q : Exit → Act → World → Prop} {i j : Tmp} {t : TypeId} {v x v' : Value} (hrun : (Builtin.append_ #[t, t] o.type #[v, x]).run P w = .ok v' w')
    (ho : o.op = .call { callee := .builtin .append, args := #[.tmp i, .tmp j], argTypes := #[t, t] }) (hi : a.tmps.getD i undef = v) (hj : a.tmps.getD j undef = x) (hK : K (a.put o.dst v') w') : Oper.wp P o a w K Q := by
  have ei : a.eval (.tmp i) = v := hi
  have ej : a.eval (.tmp j) = x := hj
  unfold Oper.wp execOp
  simp only [ho, resolve, invoke, builtin, Sem.run_bind, Sem.run_pure, Result.andThen_ok, List.map_toArray, List.map_cons, List.map_nil, ei, ej, hrun]
  exact hK
theorem later_grown {a b c : World} {row : Option Nat} (h : Later a b) (k : b.grownBy c row) : a.grownBy c row :=
  ⟨k.os.trans h.os, k.tape.trans h.tape, k.output.trans h.output, Nat.le_trans h.size k.size, fun i hi hne => (k.block i (Nat.lt_of_lt_of_le hi h.size) hne).trans (h.block i hi)⟩
/-- These blocks, too. -/
def plus (X : Nat → Prop) (l : List Nat) : Nat → Prop := fun b => X b ∨ b ∈ l
/-- Blocks of X stay as they are. -/
structure Fr (X : Nat → Prop) (w w' : World) : Prop where
  os : w'.os = w.os
  tape : w'.tape = w.tape
  output : w'.output = w.output
  size : w.heap.size ≤ w'.heap.size
  block : ∀ b, b < w.heap.size → X b → w'.heap[b]? = w.heap[b]?
theorem Fr.refl (X : Nat → Prop) (w : World) : Fr X w w := ⟨rfl, rfl, rfl, Nat.le_refl _, fun _ _ _ => rfl⟩
theorem Fr.trans {X : Nat → Prop} {a b c : World} (h : Fr X a b) (k : Fr X b c) : Fr X a c :=
  ⟨k.os.trans h.os, k.tape.trans h.tape, k.output.trans h.output, Nat.le_trans h.size k.size, fun i hi hx => (k.block i (Nat.lt_of_lt_of_le hi h.size) hx).trans (h.block i hi hx)⟩
theorem Fr.later {X : Nat → Prop} {a b : World} (h : Later a b) : Fr X a b := ⟨h.os, h.tape, h.output, h.size, fun i hi _ => h.block i hi⟩
theorem Fr.grown {X : Nat → Prop} {a b : World} {row : Option Nat} (h : a.grownBy b row) (hr : ∀ x, row = some x → ¬ X x) : Fr X a b :=
  ⟨h.os, h.tape, h.output, h.size, fun i hi hx => h.block i hi fun e => hr i e.symm hx⟩
theorem Fr.sub {X Y : Nat → Prop} {a b : World} (h : Fr X a b) (hs : ∀ i, Y i → X i) : Fr Y a b := ⟨h.os, h.tape, h.output, h.size, fun i hi hy => h.block i hi (hs i hy)⟩
theorem Fr.less {X : Nat → Prop} {l : List Nat} {a b : World} (h : Fr (plus X l) a b) : Fr X a b := h.sub fun _ hx => .inl hx
theorem Fr.row {X : Nat → Prop} {a b : World} (h : Fr X a b) {base size n : Nat} {e : TypeId} {v : Value} {xs : List Value} (hr : a.ownsRow base e size v n xs) (hx : ∀ i, v.ownBlock = some i → X i) : b.ownsRow base e size v n xs := by
  refine ⟨hr.1, ?_⟩
  rcases hr.2 with h0 | ⟨g, cap, cur, rfl, h1, h2, h3⟩
  · exact .inl h0
  · exact .inr ⟨g, cap, cur, rfl, h1, (h.block g (lt_of_block h2) (hx g rfl)).trans h2, h3⟩
theorem Fr.cells {X : Nat → Prop} {a b : World} (h : Fr X a b) {i : Nat} {o : Obj} (hi : a.heap[i]? = some o) (hx : X i) : b.heap[i]? = some o := (h.block i (lt_of_block hi) hx).trans hi
theorem grown_of_later {a b : World} (h : Later a b) (row : Option Nat) : a.grownBy b row := ⟨h.os, h.tape, h.output, h.size, fun k hk _ => h.block k hk⟩
def sv (l : List UInt8) : Value := .string (mkS l)
theorem own_type {w : World} {base size n b : Nat} {e : TypeId} {v : Value} {xs : List Value} (h : w.ownsRow base e size v n xs) (hb : v.ownBlock = some b) : ∃ cs, w.heap[b]? = some (.cells cs e (0, 0)) := by
  rcases h.2 with ⟨rfl, _⟩ | ⟨g, cap, cur, rfl, _, h2, _⟩
  · cases hb
  · simp only [Value.ownBlock, Option.some.injEq] at hb
    subst hb
    exact ⟨cur, h2⟩
theorem Fr.new {X : Nat → Prop} {a b c : World} {x : Nat} (h : Fr X a b) (hg : b.grownBy c (some x)) (hx : a.heap.size ≤ x) : Fr X a c :=
  ⟨hg.os.trans h.os, hg.tape.trans h.tape, hg.output.trans h.output, Nat.le_trans h.size hg.size, fun i hi hxi => (hg.block i (Nat.lt_of_lt_of_le hi h.size) (fun e => by injection e with e; omega)).trans (h.block i hi hxi)⟩
theorem Fr.thenLater {X : Nat → Prop} {a b c : World} (h : Fr X a b) (hl : Later b c) : Fr X a c := h.trans (Fr.later hl)
theorem own_any {w : World} {base size n : Nat} {e : TypeId} {v : Value} {xs : List Value} (h : w.ownsRow base e size v n xs) : ∃ A c, v = .slice A n c ∧ n ≤ c := by
  rcases h.2 with ⟨rfl, rfl⟩ | ⟨g, cap, cur, rfl, _, _, hnc, _⟩
  · exact ⟨none, 0, rfl, Nat.le_refl _⟩
  · exact ⟨_, _, rfl, hnc⟩
/-- All that is kept is there. -/
def XL (X : Nat → Prop) (W : World) : Prop := ∀ b, X b → b < W.heap.size
theorem XL.mono {X : Nat → Prop} {W W' : World} (h : XL X W) (hs : W.heap.size ≤ W'.heap.size) : XL X W' := fun b hb => Nat.lt_of_lt_of_le (h b hb) hs
theorem wpList_loadRun {P : Program} {ops : Array Oper} {rest : List Oper} {op : Oper} {a : Act} {w : World} {Q : Exit → Act → World → Prop} (hgd : op.guard = none) (ty : TypeId) (x : Operand) (ho : op.op = .load ty x) (p v : Value) (hx : a.eval x = p) (hr : (Instr.loadAt ty p).run P w = .ok v w) (h : wpList P ops Q rest (a.put op.dst v) w) : wpList P ops Q (op :: rest) a w :=
  wpList_plain hgd fun _ hK => by
    unfold Oper.wp execOp
    simp only [ho, hx, Sem.run_bind, hr, Result.andThen_ok, Sem.run_pure]
    exact hK _ _ h
theorem wpList_storeRun {P : Program} {ops : Array Oper} {rest : List Oper} {op : Oper} {a : Act} {w w' : World} {Q : Exit → Act → World → Prop} (hgd : op.guard = none) (ty : TypeId) (x y : Operand) (ho : op.op = .store ty x y) (p v : Value) (hx : a.eval x = p) (hy : a.eval y = v) (hr : (Instr.storeAt ty p v).run P w = .ok () w') (h : wpList P ops Q rest (a.put op.dst undef) w') : wpList P ops Q (op :: rest) a w :=
  wpList_plain hgd fun _ hK => by
    unfold Oper.wp execOp
    simp only [ho, hx, hy, Sem.run_bind, hr, Result.andThen_ok, Sem.run_pure]
    exact hK _ _ h
theorem ValWp.loadR {P : Program} {o : Oper} {ρ : Operand → Value} {w : World} {K : Value → World → Prop} {ty : TypeId} {x : Operand} {p v : Value} (ho : o.op = .load ty x) (hx : ρ x = p) (hr : (Instr.loadAt ty p).run P w = .ok v w) (hk : K v w) : ValWp P o ρ w K := by
  unfold ValWp execOp
  simp only [ho, hx, Sem.run_bind, hr, Result.andThen_ok, Sem.run_pure]
  exact hk
section
variable {P : Program} {ops : Array Oper} {rest : List Oper} {o : Oper} {a : Act} {w : World} {Q : Exit → Act → World → Prop}
theorem wpList_allocO (tm : Tmp) (_hd : o.dst = some tm) (hgd : o.guard = none) (ty : TypeId) (ho : o.op = .alloc ty) (cs : Array Value) (n : Nat) (hz : (P.info? ty).map (fun i => (i.zero, i.size)) = some (some (.agg cs), n))
    (h : ∀ w1, w1.heap[w.heap.size]? = some (.cells cs ty (0, 0)) → Later w w1 → w1.heap.size = w.heap.size + 1 → wpList P ops Q rest (a.put o.dst (.pointer (some ⟨w.heap.size, 0, none⟩))) w1) : wpList P ops Q (o :: rest) a w :=
  wpList_plain hgd fun _ hK => by
    have hz1 := (zero_of_info hz).1
    unfold Oper.wp execOp
    simp only [ho, Instr.alloc, Sem.run_bind, hz1, Result.andThen_ok, Sem.run_pure]
    simp only [newVar, go_sem]
    exact hK _ _ (h (w.alloc (.cells cs ty)) (heap_alloc_new w _) (Later.alloc w _) (by simp))
/-- A struct's block is written whole. -/
theorem wpList_storeO (hgd : o.guard = none) (ty : TypeId) (x y : Operand) (ho : o.op = .store ty x y) (b : Nat) (c c' : Array Value) (hx : a.eval x = .pointer (some ⟨b, 0, none⟩)) (hy : a.eval y = .agg c')
    (hb : w.heap[b]? = some (.cells c ty (0, 0))) (hi : (P.info? ty).map (·.size) = some c'.size) (hs : c.size = c'.size) (h1 : c'.all (·.oneCell') = true)
    (h : ∀ w1, w1.heap[b]? = some (.cells c' ty (0, 0)) → w.grownBy w1 (some b) → w1.heap.size = w.heap.size → wpList P ops Q rest (a.put o.dst undef) w1) : wpList P ops Q (o :: rest) a w := by
  have hr : (Instr.storeAt ty (.pointer (some ⟨b, 0, none⟩)) (.agg c')).run P w = .ok () (w.setRow b c') := by
    simp only [Instr.storeAt, Instr.sureAddr, Sem.run_bind, Sem.run_pure, Result.andThen]
    exact run_storeVar_row _ _ ty ty c c' hb hi hs h1
  refine wpList_storeRun hgd ty x y ho _ _ hx hy hr (h _ (setRow_heap w b c c' ty (0, 0) hb) ⟨rfl, rfl, rfl, by simp, fun k _ hk => setRow_other w b k c' (fun e => hk (by rw [e]))⟩ (by simp))
/-- A struct is read whole. -/
theorem wpList_loadO (hgd : o.guard = none) (ty : TypeId) (x : Operand) (ho : o.op = .load ty x) (b : Nat) (c : Array Value) (d : TypeDesc) (hx : a.eval x = .pointer (some ⟨b, 0, none⟩))
    (hb : w.heap[b]? = some (.cells c ty (0, 0))) (hu : P.underlying ty = some d) (hd : (match d with | .struct _ | .array _ _ => true | _ => false) = true) (hi : (P.info? ty).map (·.size) = some c.size)
    (h : wpList P ops Q rest (a.put o.dst (.agg c)) w) : wpList P ops Q (o :: rest) a w := by
  have hr : (Instr.loadAt ty (.pointer (some ⟨b, 0, none⟩))).run P w = .ok (.agg c) w := by
    simp only [Instr.loadAt, Instr.sureAddr, Sem.run_bind, Sem.run_pure, Result.andThen]
    exact run_loadVar_row w b ty ty c (0, 0) d hb hu hd hi
  exact wpList_loadRun hgd ty x ho _ _ hx hr h
theorem loadO_run (ty : TypeId) (b : Nat) (c : Array Value) (d : TypeDesc) (hb : w.heap[b]? = some (.cells c ty (0, 0))) (hu : P.underlying ty = some d) (hd : (match d with | .struct _ | .array _ _ => true | _ => false) = true) (hi : (P.info? ty).map (·.size) = some c.size) : (Instr.loadAt ty (.pointer (some ⟨b, 0, none⟩))).run P w = .ok (.agg c) w := by
  simp only [Instr.loadAt, Instr.sureAddr, Sem.run_bind, Sem.run_pure, Result.andThen]
  exact run_loadVar_row w b ty ty c (0, 0) d hb hu hd hi
end
/-- A block whose number a world does not have yet. -/
theorem later_of_new {a b c : World} {x : Nat} (h : Later a b) (hg : b.grownBy c (some x)) (hx : a.heap.size ≤ x) : Later a c :=
  ⟨hg.os.trans h.os, hg.tape.trans h.tape, hg.output.trans h.output, Nat.le_trans h.size hg.size, fun k hk => (hg.block k (Nat.lt_of_lt_of_le hk h.size) (fun e => by injection e with e; omega)).trans (h.block k hk)⟩
theorem later_cells {a b : World} {x : Nat} {o : Obj} (h : Later a b) (hx : a.heap[x]? = some o) : b.heap[x]? = some o := (h.block x (lt_of_block hx)).trans hx
theorem grown_cells {a b : World} {x y : Nat} {o : Obj} (h : a.grownBy b (some y)) (hx : a.heap[x]? = some o) (hne : x ≠ y) : b.heap[x]? = some o := (h.block x (lt_of_block hx) (fun e => hne (by injection e))).trans hx
end Go.Proofs.Yteljmlodbnfhbaa
