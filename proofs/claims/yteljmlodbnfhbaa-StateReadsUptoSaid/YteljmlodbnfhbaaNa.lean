/- append OF ROWS WHOSE ELEMENTS ARE STRUCTS: one, many, none. No premises. -/
import Derived.Test.YteljmlodbnfhbaaBase
import Derived.Test.YteljmlodbnfhbaaLater
import Derived.Laws.OwnMore
namespace Go.Proofs.Yteljmlodbnfhbaa
open Go.RowKit Go.Maps
/-- What an append to a row of the call's own leaves, elements of k cells. -/
structure GrewK (w w' : World) (base : Nat) (e : TypeId) (k : Nat) (v v' : Value) (n : Nat) (xs : List Value) : Prop where
  own : w'.ownsRow base e k v' n xs
  grown : w.grownBy w' v.ownBlock
  moved : Moved w v v'
section
variable {P : Program} {ops : Array Oper} {rest : List Oper} {o : Oper} {a : Act} {Q : Exit → Act → World → Prop}
/-- append(v, x...), v the call's own, x's cells anywhere. -/
theorem wpList_appL (w : World) (k : Nat) (hk : 0 < k) (hgd : o.guard = none) (s x : Operand) (t e : TypeId)
    (ho : o.op = .call { callee := .builtin .append, args := #[s, x], argTypes := #[t, t] }) (i0 : TypeInfo) (z : Value) (bytes : Nat) (ht : P.underlying t = some (.slice e)) (hi : P.info? e = some i0) (hz : i0.zero = some z)
    (hsize : i0.size = k) (hby : i0.bytes = bytes) (hzs : z.cells.size = k)
    (base : Nat) (v : Value) (n : Nat) (xs : List Value) (hs : a.eval s = v) (hown : w.ownsRow base e k v n xs)
    (ad : Addr) (m c : Nat) (ys : List Value) (hx : a.eval x = .slice (some ad) m c) (hl : ys.length = m * k) (hys : ∀ j u, ys[j]? = some u → w.cell? (ad.add j) = some u) (h1 : ∀ u ∈ ys, u.oneCell' = true)
    (hn : (n + m) * bytes ≤ 140737488355328) (hn2 : n + m ≤ 140737488355328) (hbase : base ≤ w.heap.size)
    (h : ∀ v' w', GrewK w w' base e k v v' (n + m) (xs ++ ys) → wpList P ops Q rest (a.put o.dst v') w') : wpList P ops Q (o :: rest) a w := by
  refine wpList_plain hgd fun K hK => ?_
  obtain ⟨v', w', hrun, h2, h3, _, h5⟩ := run_append_own_at (P := P) w base t o.type e i0 z k bytes ht hi hz hsize hby hzs hk v n xs hown ad m c ys hl hys h1 (by unfold maxLen; omega) hn hbase
  unfold Oper.wp execOp
  simp only [ho, resolve, invoke, builtin, Sem.run_bind, Sem.run_pure, Result.andThen_ok, List.map_toArray, List.map_cons, List.map_nil, hs, hx, hrun]
  refine hK _ _ (h v' w' ⟨h2, h3, ?_⟩)
  rcases h5 with h5 | h5
  · exact .inl h5
  · exact .inr ⟨_, h5, Nat.le_refl _⟩
/-- append(v, x...), x nil: v as it was. -/
theorem wpList_appL0 (w : World) (k : Nat) (hgd : o.guard = none) (s x : Operand) (t e : TypeId)
    (ho : o.op = .call { callee := .builtin .append, args := #[s, x], argTypes := #[t, t] }) (i0 : TypeInfo) (ht : P.underlying t = some (.slice e)) (hi : P.info? e = some i0)
    (base : Nat) (v : Value) (n : Nat) (xs : List Value) (hs : a.eval s = v) (hown : w.ownsRow base e k v n xs) (hx : a.eval x = .slice none 0 0)
    (h : wpList P ops Q rest (a.put o.dst v) w) : wpList P ops Q (o :: rest) a w := by
  refine wpList_plain hgd fun K hK => ?_
  have hrun := run_append_owned_none (P := P) w base t o.type e i0 k ht hi v n xs hown
  unfold Oper.wp execOp
  simp only [ho, resolve, invoke, builtin, Sem.run_bind, Sem.run_pure, Result.andThen_ok, List.map_toArray, List.map_cons, List.map_nil, hs, hx, hrun]
  exact hK _ _ h
/-- append(v, x), v the call's own: x stands in a new block of its own. -/
theorem wpList_appK (w : World) (cs : Array Value) (k : Nat) (hk : 0 < k) (hcs : cs.size = k) (h1 : ∀ u ∈ cs.toList, u.oneCell' = true) (hgd : o.guard = none) (s x : Operand) (t e : TypeId)
    (ho : o.op = .call { callee := .builtin .append, args := #[s, x], argTypes := #[t, t] }) (i0 : TypeInfo) (z : Value) (bytes : Nat) (ht : P.underlying t = some (.slice e)) (hi : P.info? e = some i0) (hz : i0.zero = some z)
    (hsize : i0.size = k) (hby : i0.bytes = bytes) (hzs : z.cells.size = k)
    (base : Nat) (v : Value) (n : Nat) (xs : List Value) (hs : a.eval s = v) (hown : w.ownsRow base e k v n xs) (N : Nat) (hN : N = w.heap.size) (hx : a.eval x = .slice (some ⟨N, 0, none⟩) 1 1)
    (hn : (n + 1) * bytes ≤ 140737488355328) (hn2 : n + 1 ≤ 140737488355328) (hbase : base ≤ w.heap.size)
    (h : ∀ v' w', GrewK w w' base e k v v' (n + 1) (xs ++ cs.toList) → wpList P ops Q rest (a.put o.dst v') w') : wpList P ops Q (o :: rest) a (w.alloc (.cells cs e)) := by
  subst hN
  have hla := Later.alloc w (.cells cs e)
  refine wpList_appL (w.alloc (.cells cs e)) k hk hgd s x t e ho i0 z bytes ht hi hz hsize hby hzs base v n xs hs (hown.alloc _) ⟨w.heap.size, 0, none⟩ 1 1 cs.toList hx (by simpa using hcs) (fun j u hj => ?_) h1 hn hn2 (Nat.le_trans hbase hla.size) fun v' w' hg => h v' w' ⟨hg.own, ?_, ?_⟩
  · rw [add_lit0, cell_of_row _ _ j cs e (0, 0) (heap_alloc_new w _)]
    simpa using hj
  · have h3 := hg.grown
    exact ⟨h3.os.trans hla.os, h3.tape.trans hla.tape, h3.output.trans hla.output, Nat.le_trans hla.size h3.size, fun k hk hne => (h3.block k (Nat.lt_of_lt_of_le hk hla.size) hne).trans (hla.block k hk)⟩
  · rcases hg.moved with h5 | ⟨j, h5, h6⟩
    · exact .inl h5
    · exact .inr ⟨j, h5, Nat.le_trans hla.size h6⟩
end
end Go.Proofs.Yteljmlodbnfhbaa
