/- Words over memory: rows, frames, structs that are made, written, read whole. No premises. -/
import Derived.Test.YtmijploffdoenaaDoorEa
import Derived.Deep.QuietTactic
import Derived.Deep.MidRow
import Derived.Deep.WholeRow
import Derived.Laws.Rows
import Derived.BigQuiet
namespace Go.Proofs.YtmijploffdoenaaDoor
open Go.RowKit Go.Maps
abbrev L := List UInt8
theorem cell_row {w : World} {g : Nat} {cs : Array Value} {t : TypeId} (h : w.heap[g]? = some (.cells cs t (0, 0))) (i : Nat) : w.cell? ⟨g, i, none⟩ = cs[i]? ∧ w.frozen? ⟨g, i, none⟩ = false :=
  ⟨by simp [World.cell?, h], by simp [World.frozen?, h]⟩
theorem set_row {w : World} {g : Nat} {cs : Array Value} {t : TypeId} (h : w.heap[g]? = some (.cells cs t (0, 0))) (i : Nat) (u : Value) : (w.setCell ⟨g, i, none⟩ u).heap[g]? = some (.cells (cs.setIfInBounds i u) t (0, 0)) := by
  have hlt := lt_of_block h
  have h' : w.heap[g] = .cells cs t (0, 0) := by simpa [Array.getElem?_eq_getElem hlt] using h
  show (w.heap.modify g _)[g]? = _
  rw [Array.getElem?_eq_getElem (by simpa using hlt), Array.getElem_modify_self, h']
  rfl
theorem set_only (w : World) (g i : Nat) (u : Value) : w.grownBy (w.setCell ⟨g, i, none⟩ u) (some g) :=
  ⟨rfl, rfl, rfl, by simp [World.setCell], fun k _ hk => Below.heap_setCell _ _ _ _ (fun e => hk (by rw [e]))⟩
/-- Rows of other types lie apart. -/
theorem apart_types {w : World} {base size n base' size' n' : Nat} {e e' : TypeId} {v v' : Value} {xs xs' : List Value} (h : w.ownsRow base e size v n xs) (h' : w.ownsRow base' e' size' v' n' xs') (hne : e ≠ e') : v.ownBlock = none ∨ v.ownBlock ≠ v'.ownBlock := by
  rcases h.2 with ⟨rfl, _⟩ | ⟨g, cap, cur, rfl, _, hg, _⟩
  · exact .inl rfl
  · refine .inr fun e1 => ?_
    rcases h'.2 with ⟨rfl, _⟩ | ⟨g', cap', cur', rfl, _, hg', _⟩
    · cases e1
    · simp only [Value.ownBlock, Option.some.injEq] at e1
      subst e1
      rw [hg] at hg'
      simp only [Option.some.injEq, Obj.cells.injEq] at hg'
      exact hne hg'.2.1
theorem ret_bool {a b : Bool} (h : a = b) : Ending.returned (.bool a) = .returned (.bool b) := by rw [h]
theorem owes_append {P : Program} {o : Oper} {a : Act} {w w' : World} {K : Act → World → Prop} {Q : Exit → Act → World → Prop} {i j : Tmp} {t : TypeId} {v x v' : Value} (hrun : (Builtin.append_ #[t, t] o.type #[v, x]).run P w = .ok v' w')
    (ho : o.op = .call { callee := .builtin .append, args := #[.tmp i, .tmp j], argTypes := #[t, t] }) (hi : a.tmps.getD i undef = v) (hj : a.tmps.getD j undef = x) (hK : K (a.put o.dst v') w') : Oper.wp P o a w K Q := by
  have ei : a.eval (.tmp i) = v := hi
  have ej : a.eval (.tmp j) = x := hj
  unfold Oper.wp execOp
  simp only [ho, resolve, invoke, builtin, Sem.run_bind, Sem.run_pure, Result.andThen_ok, List.map_toArray, List.map_cons, List.map_nil, ei, ej, hrun]
  exact hK
theorem later_grown {a b c : World} {row : Option Nat} (h : Later a b) (k : b.grownBy c row) : a.grownBy c row :=
  ⟨k.os.trans h.os, k.tape.trans h.tape, k.output.trans h.output, Nat.le_trans h.size k.size, fun i hi hne => (k.block i (Nat.lt_of_lt_of_le hi h.size) hne).trans (h.block i hi)⟩
/-- These blocks, too. -/
def plus (X : Nat → Prop) (l : List Nat) : Nat → Prop := fun b => X b ∨ b ∈ l
/-- Blocks of X stay as they are. -/
structure Fr (X : Nat → Prop) (w w' : World) : Prop where
  os : w'.os = w.os
  tape : w'.tape = w.tape
  output : w'.output = w.output
  size : w.heap.size ≤ w'.heap.size
  block : ∀ b, b < w.heap.size → X b → w'.heap[b]? = w.heap[b]?
theorem Fr.refl (X : Nat → Prop) (w : World) : Fr X w w := ⟨rfl, rfl, rfl, Nat.le_refl _, fun _ _ _ => rfl⟩
theorem Fr.trans {X : Nat → Prop} {a b c : World} (h : Fr X a b) (k : Fr X b c) : Fr X a c :=
  ⟨k.os.trans h.os, k.tape.trans h.tape, k.output.trans h.output, Nat.le_trans h.size k.size, fun i hi hx => (k.block i (Nat.lt_of_lt_of_le hi h.size) hx).trans (h.block i hi hx)⟩
theorem Fr.later {X : Nat → Prop} {a b : World} (h : Later a b) : Fr X a b := ⟨h.os, h.tape, h.output, h.size, fun i hi _ => h.block i hi⟩
theorem Fr.grown {X : Nat → Prop} {a b : World} {row : Option Nat} (h : a.grownBy b row) (hr : ∀ x, row = some x → ¬ X x) : Fr X a b :=
  ⟨h.os, h.tape, h.output, h.size, fun i hi hx => h.block i hi fun e => hr i e.symm hx⟩
theorem Fr.sub {X Y : Nat → Prop} {a b : World} (h : Fr X a b) (hs : ∀ i, Y i → X i) : Fr Y a b := ⟨h.os, h.tape, h.output, h.size, fun i hi hy => h.block i hi (hs i hy)⟩
theorem Fr.less {X : Nat → Prop} {l : List Nat} {a b : World} (h : Fr (plus X l) a b) : Fr X a b := h.sub fun _ hx => .inl hx
theorem Fr.row {X : Nat → Prop} {a b : World} (h : Fr X a b) {base size n : Nat} {e : TypeId} {v : Value} {xs : List Value} (hr : a.ownsRow base e size v n xs) (hx : ∀ i, v.ownBlock = some i → X i) : b.ownsRow base e size v n xs := by
  refine ⟨hr.1, ?_⟩
  rcases hr.2 with h0 | ⟨g, cap, cur, rfl, h1, h2, h3⟩
  · exact .inl h0
  · exact .inr ⟨g, cap, cur, rfl, h1, (h.block g (lt_of_block h2) (hx g rfl)).trans h2, h3⟩
theorem Fr.cells {X : Nat → Prop} {a b : World} (h : Fr X a b) {i : Nat} {o : Obj} (hi : a.heap[i]? = some o) (hx : X i) : b.heap[i]? = some o := (h.block i (lt_of_block hi) hx).trans hi
theorem grown_of_later {a b : World} (h : Later a b) (row : Option Nat) : a.grownBy b row := ⟨h.os, h.tape, h.output, h.size, fun k hk _ => h.block k hk⟩
def sv (l : List UInt8) : Value := .string (mkS l)
theorem own_type {w : World} {base size n b : Nat} {e : TypeId} {v : Value} {xs : List Value} (h : w.ownsRow base e size v n xs) (hb : v.ownBlock = some b) : ∃ cs, w.heap[b]? = some (.cells cs e (0, 0)) := by
  rcases h.2 with ⟨rfl, _⟩ | ⟨g, cap, cur, rfl, _, h2, _⟩
  · cases hb
  · simp only [Value.ownBlock, Option.some.injEq] at hb
    subst hb
    exact ⟨cur, h2⟩
theorem Fr.new {X : Nat → Prop} {a b c : World} {x : Nat} (h : Fr X a b) (hg : b.grownBy c (some x)) (hx : a.heap.size ≤ x) : Fr X a c :=
  ⟨hg.os.trans h.os, hg.tape.trans h.tape, hg.output.trans h.output, Nat.le_trans h.size hg.size, fun i hi hxi => (hg.block i (Nat.lt_of_lt_of_le hi h.size) (fun e => by injection e with e; omega)).trans (h.block i hi hxi)⟩
theorem Fr.thenLater {X : Nat → Prop} {a b c : World} (h : Fr X a b) (hl : Later b c) : Fr X a c := h.trans (Fr.later hl)
theorem own_any {w : World} {base size n : Nat} {e : TypeId} {v : Value} {xs : List Value} (h : w.ownsRow base e size v n xs) : ∃ A c, v = .slice A n c ∧ n ≤ c := by
  rcases h.2 with ⟨rfl, rfl⟩ | ⟨g, cap, cur, rfl, _, _, hnc, _⟩
  · exact ⟨none, 0, rfl, Nat.le_refl _⟩
  · exact ⟨_, _, rfl, hnc⟩
/-- All that is kept is there. -/
def XL (X : Nat → Prop) (W : World) : Prop := ∀ b, X b → b < W.heap.size
theorem XL.mono {X : Nat → Prop} {W W' : World} (h : XL X W) (hs : W.heap.size ≤ W'.heap.size) : XL X W' := fun b hb => Nat.lt_of_lt_of_le (h b hb) hs
theorem wpList_loadRun {P : Program} {ops : Array Oper} {rest : List Oper} {op : Oper} {a : Act} {w : World} {Q : Exit → Act → World → Prop} (hgd : op.guard = none) (ty : TypeId) (x : Operand) (ho : op.op = .load ty x) (p v : Value) (hx : a.eval x = p) (hr : (Instr.loadAt ty p).run P w = .ok v w) (h : wpList P ops Q rest (a.put op.dst v) w) : wpList P ops Q (op :: rest) a w :=
  wpList_plain hgd fun _ hK => by
    unfold Oper.wp execOp
    simp only [ho, hx, Sem.run_bind, hr, Result.andThen_ok, Sem.run_pure]
    exact hK _ _ h
theorem wpList_storeRun {P : Program} {ops : Array Oper} {rest : List Oper} {op : Oper} {a : Act} {w w' : World} {Q : Exit → Act → World → Prop} (hgd : op.guard = none) (ty : TypeId) (x y : Operand) (ho : op.op = .store ty x y) (p v : Value) (hx : a.eval x = p) (hy : a.eval y = v) (hr : (Instr.storeAt ty p v).run P w = .ok () w') (h : wpList P ops Q rest (a.put op.dst undef) w') : wpList P ops Q (op :: rest) a w :=
  wpList_plain hgd fun _ hK => by
    unfold Oper.wp execOp
    simp only [ho, hx, hy, Sem.run_bind, hr, Result.andThen_ok, Sem.run_pure]
    exact hK _ _ h
theorem ValWp.loadR {P : Program} {o : Oper} {ρ : Operand → Value} {w : World} {K : Value → World → Prop} {ty : TypeId} {x : Operand} {p v : Value} (ho : o.op = .load ty x) (hx : ρ x = p) (hr : (Instr.loadAt ty p).run P w = .ok v w) (hk : K v w) : ValWp P o ρ w K := by
  unfold ValWp execOp
  simp only [ho, hx, Sem.run_bind, hr, Result.andThen_ok, Sem.run_pure]
  exact hk
section
variable {P : Program} {ops : Array Oper} {rest : List Oper} {o : Oper} {a : Act} {w : World} {Q : Exit → Act → World → Prop}
theorem wpList_allocO (tm : Tmp) (_hd : o.dst = some tm) (hgd : o.guard = none) (ty : TypeId) (ho : o.op = .alloc ty) (cs : Array Value) (n : Nat) (hz : (P.info? ty).map (fun i => (i.zero, i.size)) = some (some (.agg cs), n))
    (h : ∀ w1, w1.heap[w.heap.size]? = some (.cells cs ty (0, 0)) → Later w w1 → w1.heap.size = w.heap.size + 1 → wpList P ops Q rest (a.put o.dst (.pointer (some ⟨w.heap.size, 0, none⟩))) w1) : wpList P ops Q (o :: rest) a w :=
  wpList_plain hgd fun _ hK => by
    have hz1 := (zero_of_info hz).1
    unfold Oper.wp execOp
    simp only [ho, Instr.alloc, Sem.run_bind, hz1, Result.andThen_ok, Sem.run_pure]
    simp only [newVar, go_sem]
    exact hK _ _ (h (w.alloc (.cells cs ty)) (heap_alloc_new w _) (Later.alloc w _) (by simp))
/-- A struct's block is written whole. -/
theorem wpList_storeO (hgd : o.guard = none) (ty : TypeId) (x y : Operand) (ho : o.op = .store ty x y) (b : Nat) (c c' : Array Value) (hx : a.eval x = .pointer (some ⟨b, 0, none⟩)) (hy : a.eval y = .agg c')
    (hb : w.heap[b]? = some (.cells c ty (0, 0))) (hi : (P.info? ty).map (·.size) = some c'.size) (hs : c.size = c'.size) (h1 : c'.all (·.oneCell') = true)
    (h : ∀ w1, w1.heap[b]? = some (.cells c' ty (0, 0)) → w.grownBy w1 (some b) → w1.heap.size = w.heap.size → wpList P ops Q rest (a.put o.dst undef) w1) : wpList P ops Q (o :: rest) a w := by
  have hr : (Instr.storeAt ty (.pointer (some ⟨b, 0, none⟩)) (.agg c')).run P w = .ok () (w.setRow b c') := by
    simp only [Instr.storeAt, Instr.sureAddr, Sem.run_bind, Sem.run_pure, Result.andThen]
    exact run_storeVar_row _ _ ty ty c c' hb hi hs h1
  refine wpList_storeRun hgd ty x y ho _ _ hx hy hr (h _ (setRow_heap w b c c' ty (0, 0) hb) ⟨rfl, rfl, rfl, by simp, fun k _ hk => setRow_other w b k c' (fun e => hk (by rw [e]))⟩ (by simp))
/-- A struct is read whole. -/
theorem wpList_loadO (hgd : o.guard = none) (ty : TypeId) (x : Operand) (ho : o.op = .load ty x) (b : Nat) (c : Array Value) (d : TypeDesc) (hx : a.eval x = .pointer (some ⟨b, 0, none⟩))
    (hb : w.heap[b]? = some (.cells c ty (0, 0))) (hu : P.underlying ty = some d) (hd : (match d with | .struct _ | .array _ _ => true | _ => false) = true) (hi : (P.info? ty).map (·.size) = some c.size)
    (h : wpList P ops Q rest (a.put o.dst (.agg c)) w) : wpList P ops Q (o :: rest) a w := by
  have hr : (Instr.loadAt ty (.pointer (some ⟨b, 0, none⟩))).run P w = .ok (.agg c) w := by
    simp only [Instr.loadAt, Instr.sureAddr, Sem.run_bind, Sem.run_pure, Result.andThen]
    exact run_loadVar_row w b ty ty c (0, 0) d hb hu hd hi
  exact wpList_loadRun hgd ty x ho _ _ hx hr h
theorem loadO_run (ty : TypeId) (b : Nat) (c : Array Value) (d : TypeDesc) (hb : w.heap[b]? = some (.cells c ty (0, 0))) (hu : P.underlying ty = some d) (hd : (match d with | .struct _ | .array _ _ => true | _ => false) = true) (hi : (P.info? ty).map (·.size) = some c.size) : (Instr.loadAt ty (.pointer (some ⟨b, 0, none⟩))).run P w = .ok (.agg c) w := by
  simp only [Instr.loadAt, Instr.sureAddr, Sem.run_bind, Sem.run_pure, Result.andThen]
  exact run_loadVar_row w b ty ty c (0, 0) d hb hu hd hi
end
/-- A block whose number a world does not have yet. -/
theorem later_of_new {a b c : World} {x : Nat} (h : Later a b) (hg : b.grownBy c (some x)) (hx : a.heap.size ≤ x) : Later a c :=
  ⟨hg.os.trans h.os, hg.tape.trans h.tape, hg.output.trans h.output, Nat.le_trans h.size hg.size, fun k hk => (hg.block k (Nat.lt_of_lt_of_le hk h.size) (fun e => by injection e with e; omega)).trans (h.block k hk)⟩
theorem later_cells {a b : World} {x : Nat} {o : Obj} (h : Later a b) (hx : a.heap[x]? = some o) : b.heap[x]? = some o := (h.block x (lt_of_block hx)).trans hx
theorem grown_cells {a b : World} {x y : Nat} {o : Obj} (h : a.grownBy b (some y)) (hx : a.heap[x]? = some o) (hne : x ≠ y) : b.heap[x]? = some o := (h.block x (lt_of_block hx) (fun e => hne (by injection e))).trans hx
end Go.Proofs.YtmijploffdoenaaDoor
/- lexer's Name, and whether a byte may stand in one. No premises. -/
namespace Go.Proofs.YtmijploffdoenaaDoor
open Go.RowKit Go.Maps
theorem toList_mkS (l : L) : (mkS l).toList = l := by
  rw [ByteArray.toList_eq]; simp [mkS]
namespace Ar
def letB (c : UInt8) : Bool := (decide (97 ≤ c) && decide (c ≤ 122)) || (decide (65 ≤ c) && decide (c ≤ 90)) || c == 95
def dig (c : UInt8) : Bool := decide (48 ≤ c) && decide (c ≤ 57)
def nm (c : UInt8) : Bool := letB c || dig c
/-- Is it a name? -/
def nameB (l : L) : Bool := match l with
  | [] => false
  | c :: _ => !dig c && l.all fun c => letB c || dig c
theorem byte_le (a c : UInt8) : decide (a ≤ c) = decide ((a.toNat : Int) ≤ (c.toNat : Int)) := by rw [decide_eq_decide, UInt8.le_iff_toNat_le]; omega
set_option maxHeartbeats 1600000 in
set_option maxRecDepth 100000 in
theorem letter_v (c : UInt8) (W : World) : Calls Tryd.prog 44 #[.int .u8 (c.toNat : Int)] W fun e W' => e = .returned (.bool (letB c)) ∧ W' = W := by
  have hb : letB c = ((decide ((97 : Int) ≤ (c.toNat : Int)) && decide ((c.toNat : Int) ≤ 122)) || (decide ((65 : Int) ≤ (c.toNat : Int)) && decide ((c.toNat : Int) ≤ 90)) || decide ((c.toNat : Int) = 95)) := by
    unfold letB
    rw [byte_le, byte_le, byte_le, byte_le]
    have : (c == 95) = decide ((c.toNat : Int) = 95) := by
      rw [Bool.eq_iff_iff, beq_iff_eq, decide_eq_true_iff]
      exact ⟨fun h => by rw [h]; rfl, fun h => UInt8.toNat_inj.1 (by have : (95 : UInt8).toNat = 95 := rfl; omega)⟩
    rw [this]
    rfl
  rw [hb]
  obtain ⟨x, hx⟩ : ∃ x : Nat, x = c.toNat := ⟨_, rfl⟩
  rw [← hx]
  clear hx hb
  by_cases h1 : (97 : Int) ≤ (x : Int)
  · by_cases h2 : (x : Int) ≤ 122
    · go_enter Tryd.func44, Tryd.ntmps44
      go_wp2
      go_ret
      exact ⟨ret_bool (by simp <;> omega), rfl⟩
    · have h3 : (65 : Int) ≤ (x : Int) := by omega
      have h4 : ¬ (x : Int) ≤ 90 := by omega
      have h5 : ((x : Int) == 95) = false := by simp; omega
      go_enter Tryd.func44, Tryd.ntmps44
      go_wp2
      go_ret
      exact ⟨ret_bool (by simp <;> omega), rfl⟩
  · by_cases h3 : (65 : Int) ≤ (x : Int)
    · by_cases h4 : (x : Int) ≤ 90
      · go_enter Tryd.func44, Tryd.ntmps44
        go_wp2
        go_ret
        exact ⟨ret_bool (by simp <;> omega), rfl⟩
      · by_cases h6 : x = 95
        · subst h6
          go_enter Tryd.func44, Tryd.ntmps44
          go_wp2
          go_ret
          exact ⟨ret_bool (by simp), rfl⟩
        · have h5 : ((x : Int) == 95) = false := by simp; omega
          go_enter Tryd.func44, Tryd.ntmps44
          go_wp2
          go_ret
          exact ⟨ret_bool (by simp <;> omega), rfl⟩
    · have h5 : ((x : Int) == 95) = false := by simp; omega
      go_enter Tryd.func44, Tryd.ntmps44
      go_wp2
      go_ret
      exact ⟨ret_bool (by simp <;> omega), rfl⟩
set_option maxRecDepth 100000 in
theorem digit_v (c : UInt8) (W : World) : Calls Tryd.prog 43 #[.int .u8 (c.toNat : Int)] W fun e W' => e = .returned (.bool (decide (48 ≤ c) && decide (c ≤ 57))) ∧ W' = W := by
  have e1 : decide (48 ≤ c) = decide (48 ≤ (c.toNat : Int)) := by rw [decide_eq_decide, UInt8.le_iff_toNat_le]; simp; omega
  have e2 : decide (c ≤ 57) = decide ((c.toNat : Int) ≤ 57) := by rw [decide_eq_decide, UInt8.le_iff_toNat_le]; simp; omega
  rw [e1, e2]
  obtain ⟨x, hx⟩ : ∃ x : Nat, x = c.toNat := ⟨_, rfl⟩
  rw [← hx]
  clear hx e1 e2
  by_cases h1 : (48 : Int) ≤ (x : Int) <;> by_cases h2 : (x : Int) ≤ 57
  all_goals
    go_enter Tryd.func43, Tryd.ntmps43
    go_wp2
    go_ret
    exact ⟨ret_bool (by simp [h1, h2]; try omega), rfl⟩
/-- []byte of a text: new memory, that reads as it. -/
theorem conv_str (W : World) (t : List UInt8) (N : Nat) (hN : N = W.heap.size) : ∃ c W', (convert 9 69 (.string (mkS t))).run Tryd.prog W = .ok (.slice (some ⟨N, 0, none⟩) t.length c) W' ∧ Later W W' ∧ Rd W' W'.heap.size (some ⟨N, 0, none⟩) t.length (t.map bv) := by
  subst hN
  have h := run_bytes_of_string W 9 69 5 (mkS t) Tryd.underlying9 Tryd.underlying69 Tryd.underlying5
  rw [mkS_size] at h
  refine ⟨_, _, h, Later.trans (Later.drew W) (Later.alloc _ _), by simp, fun h0 => ⟨_, rfl, by simp, fun j u hu => ?_⟩⟩
  rw [add_lit0]
  have hz : W.drew.heap.size = W.heap.size := rfl
  rw [← hz]
  rw [cell_of_row _ _ j _ _ _ (heap_alloc_new W.drew _)]
  rw [List.getElem?_map] at hu
  by_cases hj : j < t.length
  · rw [List.getElem?_eq_getElem hj] at hu
    simp at hu
    subst hu
    unfold bytesRow
    rw [Array.getElem?_append_left (by simp [mkS]; omega)]
    simp [mkS, hj, bv]
  · rw [List.getElem?_eq_none (by omega)] at hu
    cases hu
theorem sget0 (c : UInt8) (r : L) : ∃ h : 0 < (mkS (c :: r)).size, (mkS (c :: r))[0]'h = c := ⟨by rw [mkS_size]; simp, rfl⟩
set_option maxHeartbeats 1600000 in
set_option maxRecDepth 100000 in
theorem name_v (l : L) (hl : l.length ≤ 2000000) (W : World) : Calls Tryd.prog 25 #[.string (mkS l)] W fun e W' => e = .returned (.bool (nameB l)) ∧ Later W W' := by
  cases l with
  | nil =>
    have he : ((mkS []).toList == ([] : List UInt8)) = true := by rw [toList_mkS]; rfl
    go_enter Tryd.func25, Tryd.ntmps25
    go_wp2
    go_ret
    exact ⟨rfl, Later.refl _⟩
  | cons c r =>
    have he : ((mkS (c :: r)).toList == ([] : List UInt8)) = false := by rw [toList_mkS]; rfl
    obtain ⟨hs0, hg0⟩ := sget0 c r
    obtain ⟨l, hll⟩ : ∃ l, l = c :: r := ⟨_, rfl⟩
    rw [← hll] at hl he ⊢
    have hs1 : (0 : Int) < ((mkS l).size : Int) := by rw [hll]; omega
    have hg1 : ∀ h, (mkS l)[0]'h = c := by rw [hll]; exact fun _ => hg0
    have HD := Lib.hid (digit_v c)
    have HLL := Lib.hid hll
    by_cases hd : dig c = true
    · have hd1 := HD.out
      rw [show (decide (48 ≤ c) && decide (c ≤ 57)) = true from hd] at hd1
      have HD1 := Lib.hid hd1
      have HNB := Lib.hid (show nameB l = false by rw [hll]; unfold nameB; simp only [hd]; rfl)
      clear hd1 hll
      go_enter Tryd.func25, Tryd.ntmps25
      go_wp2_with (first
        | (go_at_call 43; (with_reducible refine (HD1.out _).mono ?_); rintro e w2 ⟨rfl, rfl⟩))
      go_ret
      exact ⟨ret_bool HNB.out.symm, Later.refl _⟩
    · have hdf : dig c = false := by simpa using hd
      have hd1 := HD.out
      rw [show (decide (48 ≤ c) && decide (c ≤ 57)) = false from hdf] at hd1
      have HD1 := Lib.hid hd1
      have HNB := Lib.hid (show nameB l = l.all fun c => letB c || dig c by rw [hll]; unfold nameB; simp only [hdf]; rfl)
      obtain ⟨cp, W2, hcv, hl2, hr2⟩ := conv_str W l W.heap.size rfl
      obtain ⟨n, hn⟩ : ∃ n, n = l.length := ⟨_, rfl⟩
      rw [← hn] at hcv hr2 hl
      have HL2 := Lib.hid hl2
      have HR := Lib.hid hr2
      have HN := Lib.hid hn
      clear hl2 hr2 hn hd1 hll
      go_enter Tryd.func25, Tryd.ntmps25
      go_wp2_with (first
        | (go_at_call 43; (with_reducible refine (HD1.out _).mono ?_); rintro e w2 ⟨rfl, hw⟩; subst hw))
      go_loopw [15] (fun i wr => ∃ k : Nat, k ≤ n ∧ i = .int .i64 (k : Int) ∧ wr = W2 ∧ (l.take k).all (fun c => letB c || dig c) = true) (fun i _ => n - (intOf i).toNat)
      case atStart => exact ⟨0, by omega, rfl, rfl, rfl⟩
      case round =>
        obtain ⟨k, hk, rfl, hw, ha⟩ := hrel
        subst hw
        have HA := Lib.hid ha
        clear ha
        by_cases hkn : k < n
        · obtain ⟨ad, hlk, had, _, hcell⟩ := HR.out.byte hkn
          obtain ⟨x, hx⟩ : ∃ x, x = l[k] := ⟨_, rfl⟩
          rw [← hx] at hcell
          injection had with had
          have hcell2 := hcell
          rw [← had, add_lit0] at hcell2
          have hk0 : (0 : Int) ≤ (k : Int) := by omega
          have hk1 : (k : Int) < (n : Int) := by omega
          have HTK := Lib.hid (show l.take (k + 1) = l.take k ++ [x] by rw [List.take_succ_eq_append_getElem hlk, hx])
          have HX := Lib.hid (show x ∈ l by rw [hx]; exact List.getElem_mem _)
          have HLT := Lib.hid (letter_v x)
          have HDG := Lib.hid (digit_v x)
          have hcell3 : wr.cell? ⟨w2.heap.size, k, none⟩ = some (.int .u8 (x.toNat : Int)) := hcell2
          have hlt := HLT.out
          have hdg : ∀ W, Calls Tryd.prog 43 #[.int .u8 (x.toNat : Int)] W fun e W' => e = .returned (.bool (dig x)) ∧ W' = W := HDG.out
          clear hcell hcell2 hx had hlk
          cases hlb : letB x with
          | true =>
            rw [hlb] at hlt
            have HL1 := Lib.hid hlt
            have HNX := Lib.hid (show (l.take (k + 1)).all (fun c => letB c || dig c) = true by rw [HTK.out, List.all_append, HA.out]; simp [hlb])
            clear hlt hdg hlb
            go_wp2_with (first
              | (go_at_call 44; (with_reducible refine (HL1.out _).mono ?_); rintro e w3 ⟨rfl, rfl⟩))
            go_roundw
            case rel => exact ⟨k + 1, by omega, by go_num, by first | rfl | trivial, HNX.out⟩
            case measure => simp [intOf]; omega
          | false =>
            rw [hlb] at hlt
            have HL1 := Lib.hid hlt
            cases hdb : dig x with
            | true =>
              rw [hdb] at hdg
              have HD2 := Lib.hid hdg
              have HNX := Lib.hid (show (l.take (k + 1)).all (fun c => letB c || dig c) = true by rw [HTK.out, List.all_append, HA.out]; simp [hdb])
              clear hlt hdg hlb hdb
              go_wp2_with (first
                | (go_at_call 44; (with_reducible refine (HL1.out _).mono ?_); rintro e w3 ⟨rfl, rfl⟩)
                | (go_at_call 43; (with_reducible refine (HD2.out _).mono ?_); rintro e w3 ⟨rfl, rfl⟩))
              go_roundw
              case rel => exact ⟨k + 1, by omega, by go_num, by first | rfl | trivial, HNX.out⟩
              case measure => simp [intOf]; omega
            | false =>
              rw [hdb] at hdg
              have HD2 := Lib.hid hdg
              have HRES := Lib.hid (show nameB l = false by
                rw [HNB.out, Bool.eq_false_iff]
                intro h
                rw [List.all_eq_true] at h
                have := h x HX.out
                simp [hlb, hdb] at this)
              clear hlt hdg hlb hdb
              go_wp2_with (first
                | (go_at_call 44; (with_reducible refine (HL1.out _).mono ?_); rintro e w3 ⟨rfl, rfl⟩)
                | (go_at_call 43; (with_reducible refine (HD2.out _).mono ?_); rintro e w3 ⟨rfl, rfl⟩))
              go_ret
              exact ⟨ret_bool HRES.out.symm, HL2.out⟩
        · obtain hke : k = n := by omega
          have HRES := Lib.hid (show nameB l = true by rw [HNB.out]; have := HA.out; rw [hke, HN.out, List.take_length] at this; exact this)
          clear hke
          go_wp2
          go_ret
          exact ⟨ret_bool HRES.out.symm, HL2.out⟩
theorem may_name (c : UInt8) : nameB [95, c] = nm c := by
  unfold nameB nm
  simp [show dig 95 = false by decide, show letB 95 = true by decide]
end Ar
end Go.Proofs.YtmijploffdoenaaDoor
