/- Words for memory that the walks of this seat share: bytes as cells, a slice that reads as a list, an append that grows. No premises. -/
import Derived.WalkKit
import Derived.WalkLawsBesides
import Derived.Maps.AppendAt
import Derived.Lib.AppendStr
import Derived.Lib.Hide
import Derived.Deep.Draws
import Derived.Outline
import Derived.Laws.IdiomStrings
import Derived.Laws.BytesArg
import Derived.Test.YtmijploffdoenaaDoorProg
import Derived.Lib.SmallJoins
import Derived.Tactics
import Derived.Orders
namespace Go.Proofs.YtmijploffdoenaaDoor
open Go.RowKit
theorem ret_int {k : IntKind} {a b : Int} (h : a = b) : Ending.returned (.int k a) = .returned (.int k b) := by rw [h]
theorem int_eq {k : IntKind} {a b : Int} (h : a = b) : Value.int k a = .int k b := by rw [h]
/-- Behind a call that turns nothing that was there: each cell, and each mark, is as it was. -/
theorem bcell {W w1 : World} (hb : Below W.heap.size W w1) : (∀ b o, b < W.heap.size → w1.cell? ⟨b, o, none⟩ = W.cell? ⟨b, o, none⟩) ∧ (∀ b o, b < W.heap.size → w1.frozen? ⟨b, o, none⟩ = W.frozen? ⟨b, o, none⟩) :=
  ⟨fun b o h => hb.cell (p := ⟨b, o, none⟩) h, fun b o h => hb.frozen (p := ⟨b, o, none⟩) h⟩
/-- A number of 64 bits as a cell. -/
def nv (x : Nat) : Value := .int .u64 (x : Int)
/-- A byte as a cell. -/
def bv (c : UInt8) : Value := .int .u8 (c.toNat : Int)
theorem bv_one (l : List UInt8) : ∀ u ∈ l.map bv, u.oneCell' = true := by
  intro u hu
  obtain ⟨c, _, rfl⟩ := List.mem_map.1 hu
  rfl
theorem block_add (a : Addr) (n : Nat) : (a.add n).block = a.block := by unfold Addr.add; split <;> rfl
theorem add_add (a : Addr) (i j : Nat) : (a.add i).add j = a.add (i + j) := by
  unfold Addr.add
  by_cases hi : i = 0 <;> by_cases hj : j = 0 <;> simp [hi, hj, Nat.add_assoc]
theorem add_lit0 (g j : Nat) : (⟨g, 0, none⟩ : Addr).add j = ⟨g, j, none⟩ := by unfold Addr.add; split <;> simp_all

/-- A slice of elements of one cell that reads as xs, nil let in; its cells lie below block B. -/
def Rd (w : World) (B : Nat) (A : Option Addr) (n : Nat) (xs : List Value) : Prop :=
  xs.length = n ∧ (0 < n → ∃ ad, A = some ad ∧ ad.block < B ∧ ∀ (j : Nat) (u : Value), xs[j]? = some u → w.cell? (ad.add j) = some u)
section
variable {w w' : World} {B B' n : Nat} {A : Option Addr} {xs : List Value}
theorem Rd.nil_ : Rd w B A 0 [] := ⟨rfl, fun h => absurd h (by omega)⟩
theorem Rd.at_ {k : Nat} (h : Rd w B A n xs) (hk : k < n) : ∃ ad u, A = some ad ∧ ad.block < B ∧ xs[k]? = some u ∧ w.cell? (ad.add k) = some u := by
  obtain ⟨ad, e, hb, hc⟩ := h.2 (by omega)
  have hl : k < xs.length := by have := h.1; omega
  exact ⟨ad, xs[k], e, hb, List.getElem?_eq_getElem hl, hc k _ (List.getElem?_eq_getElem hl)⟩
theorem Rd.keep (h : Rd w B A n xs) (hk : ∀ p : Addr, p.block < B → w'.cell? p = w.cell? p) : Rd w' B A n xs :=
  ⟨h.1, fun hn => by
    obtain ⟨ad, e, hb, hc⟩ := h.2 hn
    exact ⟨ad, e, hb, fun j u hu => (hk _ (by rw [block_add]; exact hb)).trans (hc j u hu)⟩⟩
theorem Rd.below (h : Rd w B A n xs) (hb : Below B w w') : Rd w' B A n xs := h.keep fun _ hp => hb.cell hp
theorem Rd.more (h : Rd w B A n xs) (hB : B ≤ B') : Rd w B' A n xs :=
  ⟨h.1, fun hn => by
    obtain ⟨ad, e, hb, hc⟩ := h.2 hn
    exact ⟨ad, e, by omega, hc⟩⟩
theorem Rd.cut (h : Rd w B A n xs) {k cap : Nat} (hk : k ≤ n) (hc : n ≤ cap) :
    Rd w B (if cap = k then A else A.map (·.add k)) (n - k) (xs.drop k) := by
  refine ⟨by rw [List.length_drop, h.1], fun hn => ?_⟩
  obtain ⟨ad, rfl, hb, hcell⟩ := h.2 (by omega)
  rw [if_neg (by omega)]
  refine ⟨ad.add k, rfl, by rw [block_add]; exact hb, fun j u hu => ?_⟩
  rw [add_add]
  exact hcell _ u (by rw [← hu, List.getElem?_drop])
theorem Rd.take_ (h : Rd w B A n xs) {k : Nat} (hk : k ≤ n) : Rd w B A k (xs.take k) := by
  refine ⟨by rw [List.length_take, h.1]; omega, fun hn => ?_⟩
  obtain ⟨ad, rfl, hb, hcell⟩ := h.2 (by omega)
  refine ⟨ad, rfl, hb, fun j u hu => hcell j u ?_⟩
  rw [List.getElem?_take] at hu
  split at hu
  · exact hu
  · cases hu
theorem Rd.lit (w : World) (e : TypeId) (cs : List Value) : Rd (w.alloc (.cells cs.toArray e)) (w.heap.size + 1) (some ⟨w.heap.size, 0, none⟩) cs.length cs :=
  ⟨rfl, fun _ => ⟨_, rfl, Nat.lt_succ_self _, fun j u hu => by
    rw [add_lit0, cell_of_row _ _ j cs.toArray e (0, 0) (heap_alloc_new w _)]
    simpa using hu⟩⟩
theorem Rd.of_own {base : Nat} {e : TypeId} {c : Nat} (h : w.ownsRow base e 1 (.slice A n c) n xs) : Rd w w.heap.size A n xs := by
  refine ⟨by simpa using h.1, fun hn => ?_⟩
  rcases h.2 with ⟨_, h0⟩ | ⟨g, cap, cur, hv, _, hh, _⟩
  · omega
  · injection hv with hA
    subst hA
    refine ⟨_, rfl, (Array.getElem?_eq_some_iff.1 hh).1, h.cells (g := g) rfl⟩
/-- The element at k. -/
theorem Rd.at_map {α : Type} {f : α → Value} {l : List α} {k : Nat} (h : Rd w B A n (l.map f)) (hk : k < n) : ∃ (ad : Addr) (hl : k < l.length), A = some ad ∧ ad.block < B ∧ w.cell? (ad.add k) = some (f l[k]) := by
  obtain ⟨ad, u, e, hb, hx, hc⟩ := h.at_ hk
  have hl : k < l.length := by have := h.1; simp at this; omega
  rw [List.getElem?_map, List.getElem?_eq_getElem hl] at hx
  simp at hx
  subst hx
  exact ⟨ad, hl, e, hb, hc⟩
theorem Rd.len_map {α : Type} {f : α → Value} {l : List α} (h : Rd w B A n (l.map f)) : l.length = n := by have := h.1; simpa using this
/-- The byte at k of a slice of bytes. -/
theorem Rd.byte {bs : List UInt8} {k : Nat} (h : Rd w B A n (bs.map bv)) (hk : k < n) : ∃ (ad : Addr) (hl : k < bs.length), A = some ad ∧ ad.block < B ∧ w.cell? (ad.add k) = some (bv bs[k]) := by
  obtain ⟨ad, u, e, hb, hx, hc⟩ := h.at_ hk
  have hl : k < bs.length := by have := h.1; simp at this; omega
  rw [List.getElem?_map, List.getElem?_eq_getElem hl] at hx
  simp at hx
  subst hx
  exact ⟨ad, hl, e, hb, hc⟩
theorem Rd.len {bs : List UInt8} (h : Rd w B A n (bs.map bv)) : bs.length = n := by have := h.1; simpa using this
end
/-- A text of bytes. -/
def mkS (l : List UInt8) : ByteArray := ⟨l.toArray⟩
theorem mkS_size (l : List UInt8) : (mkS l).size = l.length := by simp [mkS, ByteArray.size]
theorem mkS_list (l : List UInt8) : (mkS l).data.toList = l := by simp [mkS]
theorem mkS_of (s : ByteArray) : mkS s.data.toList = s := by simp [mkS]
theorem mkS_add (a b : List UInt8) : mkS a ++ mkS b = mkS (a ++ b) := ByteArray.mk_append_mk a b
/-- string(b) of bytes that read as bs. -/
theorem run_str_of {P : Program} {w : World} {B n : Nat} {A : Option Addr} {bs : List UInt8} (h : Rd w B A n (bs.map bv)) (src dst e : TypeId) (hs : P.underlying src = some (.slice e)) (he : P.underlying e = some (.int .u8)) (hd : P.underlying dst = some .string) (cap : Nat) :
    (convert src dst (.slice A n cap)).run P w = .ok (.string (mkS bs)) w := by
  have hl := h.len
  subst hl
  rcases A with _ | ad
  · have h0 : bs = [] := by
      rcases Nat.eq_zero_or_pos bs.length with h0 | h0
      · exact List.eq_nil_of_length_eq_zero h0
      · obtain ⟨ad, h, _⟩ := h.2 h0
        cases h
    subst h0
    exact run_convert_bytes_nil w src e hs he _ cap dst hd
  · refine run_convert_bytes_back w src dst e ad cap bs hs he hd fun j hj => ?_
    obtain ⟨ad', h1, _, h3⟩ := h.2 (by omega)
    injection h1 with h1
    subst h1
    exact h3 j _ (by rw [List.getElem?_map, List.getElem?_eq_getElem hj]; rfl)
/-- Where a slice of the call's own lies behind an append: where it lay, or in a new block. -/
def Moved (w : World) (v v' : Value) : Prop := v'.ownBlock = v.ownBlock ∨ ∃ k, v'.ownBlock = some k ∧ w.heap.size ≤ k
/-- v, that the call owns, has become v', that owns xs; nothing else that was there has turned. -/
structure Grew (w w' : World) (base : Nat) (e : TypeId) (v v' : Value) (xs : List Value) : Prop where
  own : w'.ownsRow base e 1 v' xs.length xs
  grown : w.grownBy w' v.ownBlock
  moved : Moved w v v'
section
variable {w w1 w2 : World} {base : Nat} {e : TypeId} {v v1 v2 : Value} {xs ys zs : List Value}
theorem Grew.refl (h : w.ownsRow base e 1 v xs.length xs) : Grew w w base e v v xs := ⟨h, World.grownBy.refl w _, .inl rfl⟩
theorem Grew.nil (w : World) (base : Nat) (e : TypeId) : Grew w w base e (.slice none 0 0) (.slice none 0 0) [] := Grew.refl (World.ownsRow_nil w base e 1)
theorem Grew.trans (h : Grew w w1 base e v v1 ys) (k : Grew w1 w2 base e v1 v2 zs) : Grew w w2 base e v v2 zs := by
  refine ⟨k.own, ⟨k.grown.os.trans h.grown.os, k.grown.tape.trans h.grown.tape, k.grown.output.trans h.grown.output, Nat.le_trans h.grown.size k.grown.size, fun i hi hne => ?_⟩, ?_⟩
  · refine (k.grown.block i (Nat.lt_of_lt_of_le hi h.grown.size) ?_).trans (h.grown.block i hi hne)
    rcases h.moved with e1 | ⟨j, e1, hj⟩
    · rw [e1]; exact hne
    · rw [e1]; intro e2; injection e2 with e2; omega
  · rcases k.moved with e1 | ⟨j, e1, hj⟩
    · rw [Moved, e1]; exact h.moved
    · exact .inr ⟨j, e1, Nat.le_trans h.grown.size hj⟩
theorem Grew.below (h : Grew w w1 base e v v1 ys) (hown : w.ownsRow base e 1 v xs.length xs) (hb : base ≤ w.heap.size) : Below base w w1 :=
  (Below.refl base w).grown h.grown hb fun k hk => (hown.lt k hk).1
theorem Grew.belowNil {c : Nat} (h : Grew w w1 base e (.slice none 0 c) v1 ys) : Below w.heap.size w w1 :=
  (Below.refl _ w).grown h.grown (Nat.le_refl _) fun k hk => by simp [Value.ownBlock] at hk
theorem Grew.alloc (h : Grew w w1 base e v v1 ys) (o : Obj) : Grew w (w1.alloc o) base e v v1 ys :=
  h.trans ⟨h.own.alloc o, World.grownBy_alloc _ _ _, .inl rfl⟩
end
/-- A cell that was there reads as it did. -/
theorem cell_keeps {w w' : World} {p : Addr} {v : Value} (hb : Below w.heap.size w w') (h : w.cell? p = some v) : w'.cell? p = some v := (hb.cell (World.block_lt_of_cell? w p h)).trans h
/-- What the call owns stays owned where nothing that was there turns. -/
theorem own_below {w w' : World} {base size n : Nat} {e : TypeId} {v : Value} {xs : List Value} (h : w.ownsRow base e size v n xs) (hb : Below w.heap.size w w') : w'.ownsRow base e size v n xs :=
  h.kept (row := none) ⟨hb.os, hb.tape, hb.output, hb.size, fun k hk _ => hb.block k hk⟩ (by cases hv : v.ownBlock <;> simp)
theorem Grew.then_ {w w1 w2 : World} {base : Nat} {e : TypeId} {v v1 : Value} {ys : List Value} (h : Grew w w1 base e v v1 ys) (hb : Below w1.heap.size w1 w2) : Grew w w2 base e v v1 ys :=
  h.trans ⟨own_below h.own hb, ⟨hb.os, hb.tape, hb.output, hb.size, fun k hk _ => hb.block k hk⟩, .inl rfl⟩
theorem below_of_grown {w w' : World} {row : Option Nat} {B : Nat} (hg : w.grownBy w' row) (hB : B ≤ w.heap.size) (hr : ∀ k, row = some k → B ≤ k) : Below B w w' := (Below.refl B w).grown hg hB hr
section
variable {P : Program} {ops : Array Oper} {rest : List Oper} {o : Oper} {a : Act} {Q : Exit → Act → World → Prop}
/-- append(v, xs...), v the call's own, xs nil or not. -/
theorem run_appN (w : World) (base : Nat) (t ty e : TypeId) (i : TypeInfo) (z : Value) (bytes : Nat) (ht : P.underlying t = some (.slice e)) (hi : P.info? e = some i) (hz : i.zero = some z)
    (hsize : i.size = 1) (hby : i.bytes = bytes) (hzs : z.cells.size = 1) (v : Value) (xs : List Value) (hown : w.ownsRow base e 1 v xs.length xs)
    (B : Nat) (A : Option Addr) (m c : Nat) (news : List Value) (hr : Rd w B A m news) (h1 : ∀ u ∈ news, u.oneCell' = true)
    (hbytes : (xs.length + m) * bytes ≤ 140737488355328) (hlen : xs.length + m ≤ 140737488355328) (hbase : base ≤ w.heap.size) :
    ∃ v' w', (Builtin.append_ #[t, t] ty #[v, .slice A m c]).run P w = .ok v' w' ∧ Grew w w' base e v v' (xs ++ news) := by
  have hl : (xs ++ news).length = xs.length + m := by rw [List.length_append, hr.1]
  rcases A with _ | ad
  · have hm : m = 0 := by
      rcases Nat.eq_zero_or_pos m with h0 | h0
      · exact h0
      · obtain ⟨ad, h, _⟩ := hr.2 h0
        cases h
    subst hm
    have hn : news = [] := List.eq_nil_of_length_eq_zero hr.1
    subst hn
    refine ⟨v, w, ?_, by simpa using Grew.refl hown⟩
    rcases hown.2 with ⟨rfl, _⟩ | ⟨g, cap, cur, rfl, _, _, hnc, _⟩
    · simp [Builtin.append_, run_underlying ht, sizeOf, typeInfo, hi, Builtin.lenOf, Builtin.firstCells]
    · simp [Builtin.append_, run_underlying ht, sizeOf, typeInfo, hi, Builtin.lenOf, Builtin.firstCells, hnc, storeCells]
  · have hcells : ∀ j u, news[j]? = some u → w.cell? (ad.add j) = some u := by
      intro j u hu
      rcases Nat.eq_zero_or_pos m with h0 | h0
      · subst h0
        have hn : news = [] := List.eq_nil_of_length_eq_zero hr.1
        subst hn
        simp at hu
      · obtain ⟨ad', h, _, hc⟩ := hr.2 h0
        injection h with h
        subst h
        exact hc j u hu
    obtain ⟨v', w', hrun, h2, h3, _, h5⟩ := run_append_own_at (P := P) w base t ty e i z 1 bytes ht hi hz hsize hby hzs (by omega) v xs.length xs hown ad m c news (by rw [hr.1]; omega) hcells h1 (by unfold maxLen; omega) hbytes hbase
    refine ⟨v', w', hrun, by rw [hl]; exact h2, h3, ?_⟩
    rcases h5 with h5 | h5
    · exact .inl h5
    · exact .inr ⟨_, h5, Nat.le_refl _⟩
theorem wpList_appN (w : World) (hgd : o.guard = none) (s x : Operand) (t : TypeId)
    (ho : o.op = .call { callee := .builtin .append, args := #[s, x], argTypes := #[t, t] })
    (base : Nat) (e : TypeId) (i : TypeInfo) (z : Value) (bytes : Nat) (ht : P.underlying t = some (.slice e)) (hi : P.info? e = some i) (hz : i.zero = some z)
    (hsize : i.size = 1) (hby : i.bytes = bytes) (hzs : z.cells.size = 1)
    (v : Value) (xs : List Value) (hs : a.eval s = v) (hown : w.ownsRow base e 1 v xs.length xs)
    (B : Nat) (A : Option Addr) (m c : Nat) (news : List Value) (hx : a.eval x = .slice A m c) (hr : Rd w B A m news) (h1 : ∀ u ∈ news, u.oneCell' = true)
    (hbytes : (xs.length + m) * bytes ≤ 140737488355328) (hlen : xs.length + m ≤ 140737488355328) (hbase : base ≤ w.heap.size)
    (h : ∀ v' w', Grew w w' base e v v' (xs ++ news) → wpList P ops Q rest (a.put o.dst v') w') : wpList P ops Q (o :: rest) a w := by
  refine wpList_plain hgd fun K hK => ?_
  obtain ⟨v', w', hrun, hg⟩ := run_appN (P := P) w base t o.type e i z bytes ht hi hz hsize hby hzs v xs hown B A m c news hr h1 hbytes hlen hbase
  unfold Oper.wp execOp
  simp only [ho, resolve, invoke, builtin, Sem.run_bind, Sem.run_pure, Result.andThen_ok, List.map_toArray, List.map_cons, List.map_nil, hs, hx, hrun]
  exact hK _ _ (h v' w' hg)
/-- append(v, u), v the call's own: u stands in a new block of its own. -/
theorem wpList_app1 (w : World) (u : Value) (hgd : o.guard = none) (s x : Operand) (t : TypeId)
    (ho : o.op = .call { callee := .builtin .append, args := #[s, x], argTypes := #[t, t] })
    (base : Nat) (e : TypeId) (i : TypeInfo) (z : Value) (bytes : Nat) (ht : P.underlying t = some (.slice e)) (hi : P.info? e = some i) (hz : i.zero = some z)
    (hsize : i.size = 1) (hby : i.bytes = bytes) (hzs : z.cells.size = 1) (h1 : u.oneCell' = true)
    (v : Value) (xs : List Value) (hs : a.eval s = v) (hown : w.ownsRow base e 1 v xs.length xs) (hx : a.eval x = .slice (some ⟨w.heap.size, 0, none⟩) 1 1)
    (hbytes : (xs.length + 1) * bytes ≤ 140737488355328) (hlen : xs.length + 1 ≤ 140737488355328) (hbase : base ≤ w.heap.size)
    (h : ∀ v' w', Grew w w' base e v v' (xs ++ [u]) → wpList P ops Q rest (a.put o.dst v') w') : wpList P ops Q (o :: rest) a (w.alloc (.cells #[u] e)) :=
  wpList_appN (w.alloc (.cells #[u] e)) hgd s x t ho base e i z bytes ht hi hz hsize hby hzs v xs hs (hown.alloc _) (w.heap.size + 1) (some ⟨w.heap.size, 0, none⟩) 1 1 [u] hx
    ⟨rfl, fun _ => ⟨_, rfl, Nat.lt_succ_self _, fun j y hy => by
      match j, hy with
      | 0, hy => simp at hy; subst hy; simp [Addr.add]⟩⟩ (by intro y hy; simp at hy; subst hy; exact h1) hbytes hlen (by simp; omega)
    fun v' w' hg => h v' w' (((Grew.refl hown).alloc _).trans hg)
theorem strCells_eq (s : ByteArray) : Lib.strCells s = s.data.toList.map bv := rfl
theorem run_appS (w : World) (base : Nat) (t u ty e : TypeId) (i : TypeInfo) (ht : P.underlying t = some (.slice e)) (hu : P.underlying u = some .string) (hi : P.info? e = some i) (hz : i.zero = some (.int .u8 0))
    (hsize : i.size = 1) (hby : i.bytes = 1) (v : Value) (xs : List Value) (hown : w.ownsRow base e 1 v xs.length xs) (s : ByteArray)
    (hlen : xs.length + s.size ≤ 140737488355328) (hbase : base ≤ w.heap.size) :
    ∃ v' w', (Builtin.append_ #[t, u] ty #[v, .string s]).run P w = .ok v' w' ∧ Grew w w' base e v v' (xs ++ s.data.toList.map bv) := by
  have hl : (xs ++ s.data.toList.map bv).length = xs.length + s.size := by rw [← strCells_eq, List.length_append, Lib.strCells_length]
  rcases hown.2 with ⟨rfl, h0⟩ | ⟨g, cap, cur, rfl, hbg, hg, hnc, hcm, hcs, htake⟩
  · have hx : xs = [] := List.eq_nil_of_length_eq_zero h0
    subst hx
    obtain ⟨v', w', hr, h2, h3, _⟩ := Lib.run_append_own_string (P := P) w w.heap.size t u ty e i ht hu hi hz hsize hby (.slice none 0 0) 0 [] (World.ownsRow_nil w _ e 1) s (by unfold maxLen; simp at hlen; omega) (by simpa using hlen) (Nat.le_refl _)
    obtain ⟨v2, w2, hr2, h22, _, _⟩ := Lib.run_append_own_string (P := P) w base t u ty e i ht hu hi hz hsize hby (.slice none 0 0) 0 [] (World.ownsRow_nil w _ e 1) s (by unfold maxLen; simp at hlen; omega) (by simpa using hlen) hbase
    have he := hr.symm.trans hr2
    injection he with e1 e2
    subst e1 e2
    rw [strCells_eq] at h22
    refine ⟨v', w', hr, by rw [hl]; simpa using h22, h3, ?_⟩
    rcases hv : v'.ownBlock with _ | k
    · exact .inl hv
    · exact .inr ⟨k, hv, (h2.lt k hv).1⟩
  · obtain ⟨v', w', hr, h2, h3, _⟩ := Lib.run_append_own_string (P := P) w base t u ty e i ht hu hi hz hsize hby _ _ xs hown s (by unfold maxLen; omega) hlen hbase
    refine ⟨v', w', hr, by rw [hl, ← strCells_eq]; exact h2, h3, ?_⟩
    by_cases hroom : xs.length + s.size ≤ cap
    · have hr2 := Lib.run_append_room_string (P := P) w t u ty e i ht hu hi hsize g xs.length cap cur hg s hroom (by omega)
      have he := hr.symm.trans hr2
      injection he with e1 _
      exact .inl (by rw [e1]; rfl)
    · have holds : ∀ j u, xs[j]? = some u → w.cell? ((⟨g, 0, none⟩ : Addr).add j) = some u := hown.cells (g := g) rfl
      have hr2 := Lib.run_append_grow_string (P := P) w t u ty e i (.int .u8 0) ht hu hi hz ⟨g, 0, none⟩ xs.length cap xs (by rw [hsize]; simp) holds s (by omega) (by omega) (by rw [hby]; exact growslice_fits (by omega) (by omega))
      have he := hr.symm.trans hr2
      injection he with e1 _
      exact .inr ⟨w.heap.size, by rw [e1]; rfl, Nat.le_refl _⟩
/-- append(v, s...), v the call's own bytes, s a string. -/
theorem wpList_appS (w : World) (hgd : o.guard = none) (so xo : Operand) (t u : TypeId)
    (ho : o.op = .call { callee := .builtin .append, args := #[so, xo], argTypes := #[t, u] })
    (base : Nat) (e : TypeId) (i : TypeInfo) (ht : P.underlying t = some (.slice e)) (hu : P.underlying u = some .string) (hi : P.info? e = some i) (hz : i.zero = some (.int .u8 0))
    (hsize : i.size = 1) (hby : i.bytes = 1)
    (v : Value) (xs : List Value) (hs : a.eval so = v) (hown : w.ownsRow base e 1 v xs.length xs) (s : ByteArray) (hx : a.eval xo = .string s)
    (hlen : xs.length + s.size ≤ 140737488355328) (hbase : base ≤ w.heap.size)
    (h : ∀ v' w', Grew w w' base e v v' (xs ++ s.data.toList.map bv) → wpList P ops Q rest (a.put o.dst v') w') : wpList P ops Q (o :: rest) a w := by
  refine wpList_plain hgd fun K hK => ?_
  obtain ⟨v', w', hrun, hg⟩ := run_appS (P := P) w base t u o.type e i ht hu hi hz hsize hby v xs hown s hlen hbase
  unfold Oper.wp execOp
  simp only [ho, resolve, invoke, builtin, Sem.run_bind, Sem.run_pure, Result.andThen_ok, List.map_toArray, List.map_cons, List.map_nil, hs, hx, hrun]
  exact hK _ _ (h v' w' hg)
end
end Go.Proofs.YtmijploffdoenaaDoor
/- Small words over the program that the walks of every layer share: what a byte's type holds, a slice of the call's own, a text of one byte. No premises. -/
namespace Go.Proofs.YtmijploffdoenaaDoor
open Go.RowKit
/-- []byte of a constant: the row gets a mark behind its last cell. -/
theorem conv_const (W : World) (C : Array Value) (n c g : Nat) (h : g = W.heap.size) : (convert 69 69 (.slice (some ⟨g, 0, none⟩) n c)).run Tryd.prog (W.alloc (.cells C 5)) = .ok (.slice (some ⟨g, 0, none⟩) n c) (W.alloc (.cells C 5 (C.size, C.size + 1))) :=
  Joins.run_convert_bytes_const_at W 69 5 C n c g h Tryd.underlying69 Tryd.underlying5
theorem Rd.litF (w : World) (e : TypeId) (fr : Nat × Nat) (cs : List Value) : Rd (w.alloc (.cells cs.toArray e fr)) (w.heap.size + 1) (some ⟨w.heap.size, 0, none⟩) cs.length cs :=
  ⟨rfl, fun _ => ⟨_, rfl, Nat.lt_succ_self _, fun j u hu => by
    rw [add_lit0, cell_of_row _ _ j cs.toArray e fr (heap_alloc_new w _)]
    simpa using hu⟩⟩
theorem info_u8 : (Tryd.prog.info? 5).map (fun i => (i.zero, i.size, i.bytes)) = some (some (.int .u8 0), 1, 1) := by kernel_rfl
theorem size_toList (s : ByteArray) : s.data.toList.length = s.size := rfl
theorem sget (s : ByteArray) (k : Nat) (h : k < s.size) : s.data.toList[k]'h = s[k] := by
  rw [Array.getElem_toList]; rfl
theorem own_slice {w : World} {base n : Nat} {e : TypeId} {v : Value} {xs : List Value} (h : w.ownsRow base e 1 v n xs) :
    ∃ A c, v = .slice A n c ∧ n ≤ c ∧ Rd w w.heap.size A n xs ∧ (∀ ad, A = some ad → base ≤ ad.block ∧ ad.block < w.heap.size) := by
  rcases h.2 with ⟨rfl, rfl⟩ | ⟨g, cap, cur, rfl, hb, hh, hnc, _⟩
  · exact ⟨none, 0, rfl, Nat.le_refl _, by have := h.1; simp at this; subst this; exact Rd.nil_, fun ad h => by cases h⟩
  · exact ⟨_, _, rfl, hnc, Rd.of_own h, fun ad he => by injection he with he; subst he; exact ⟨hb, (Array.getElem?_eq_some_iff.1 hh).1⟩⟩
theorem own_map {α : Type} {f : α → Value} {w : World} {base : Nat} {e : TypeId} {v : Value} {xs : List α} (h : w.ownsRow base e 1 v (xs.map f).length (xs.map f)) :
    ∃ A c, v = .slice A xs.length c ∧ xs.length ≤ c ∧ Rd w w.heap.size A xs.length (xs.map f) ∧ (∀ ad, A = some ad → base ≤ ad.block ∧ ad.block < w.heap.size) := by
  rw [List.length_map] at h
  exact own_slice h
theorem str1 (W : World) (n : Nat) (h : n < 256) (cap : Nat) : (convert 69 9 (.slice (some ⟨W.heap.size, 0, none⟩) 1 cap)).run Tryd.prog (W.alloc (.cells #[.int .u8 (n : Int)] 5)) = .ok (.string (mkS [UInt8.ofNat n])) (W.alloc (.cells #[.int .u8 (n : Int)] 5)) := by
  refine run_str_of (bs := [UInt8.ofNat n]) (B := W.heap.size + 1) ⟨rfl, fun _ => ⟨_, rfl, Nat.lt_succ_self _, fun j y hy => ?_⟩⟩ _ _ 5 Tryd.underlying69 Tryd.underlying5 Tryd.underlying9 cap
  match j, hy with
  | 0, hy => simp only [List.map_cons, List.map_nil, List.getElem?_cons_zero, Option.some.injEq, bv, show (UInt8.ofNat n).toNat = n by simp; omega] at hy; subst hy; simp [Addr.add]
/-- A slice of slices of bytes that reads as ls; what it leads to lies below block B. -/
def RdL (w : World) (B : Nat) (A : Option Addr) (n : Nat) (ls : List (List UInt8)) : Prop :=
  ls.length = n ∧ ∀ (j : Nat) (h : j < ls.length), ∃ ad A' n' c', A = some ad ∧ ad.block < B ∧ w.cell? (ad.add j) = some (.slice A' n' c') ∧ Rd w B A' n' (ls[j].map bv) ∧ n' ≤ maxLen
theorem RdL.one {w : World} {B : Nat} {A : Option Addr} {n c : Nat} {l : List UInt8} (h : Rd w B A n (l.map bv)) (hB : B ≤ w.heap.size) (h1 : n ≤ maxLen) (e : TypeId) :
    RdL (w.alloc (.cells #[.slice A n c] e)) (w.heap.size + 1) (some ⟨w.heap.size, 0, none⟩) 1 [l] := by
  refine ⟨rfl, fun j hj => ?_⟩
  have hj0 : j = 0 := by simpa using hj
  subst hj0
  refine ⟨_, A, n, c, rfl, Nat.lt_succ_self _, ?_, (h.below ((Below.refl B w).alloc hB _)).more (by omega), h1⟩
  obtain ⟨ad, e1, _, e3⟩ := (Rd.lit w e [.slice A n c]).2 (by simp)
  injection e1 with e1
  subst e1
  exact e3 0 _ rfl
theorem RdL.keep {w w' : World} {B : Nat} {A : Option Addr} {n : Nat} {ls : List (List UInt8)} (h : RdL w B A n ls) (hb : Below B w w') : RdL w' B A n ls := by
  refine ⟨h.1, fun j hj => ?_⟩
  obtain ⟨ad, A', n', c', rfl, h1, h2, h3, h4⟩ := h.2 j hj
  exact ⟨ad, A', n', c', rfl, h1, (hb.cell (by rw [block_add]; exact h1)).trans h2, h3.below hb, h4⟩
theorem RdL.two {w : World} {B B' : Nat} {A A' : Option Addr} {n n' c c' : Nat} {l l' : List UInt8} (h : Rd w B A n (l.map bv)) (h' : Rd w B' A' n' (l'.map bv)) (hB : B ≤ w.heap.size) (hB' : B' ≤ w.heap.size) (h1 : n ≤ maxLen) (h1' : n' ≤ maxLen) (e : TypeId) :
    RdL (w.alloc (.cells #[.slice A n c, .slice A' n' c'] e)) (w.heap.size + 1) (some ⟨w.heap.size, 0, none⟩) 2 [l, l'] := by
  obtain ⟨ad, e1, _, e3⟩ := (Rd.lit w e [.slice A n c, .slice A' n' c']).2 (by simp)
  injection e1 with e1
  subst e1
  refine ⟨rfl, fun j hj => ?_⟩
  have hc : j = 0 ∨ j = 1 := by simp at hj; omega
  rcases hc with rfl | rfl
  · exact ⟨_, A, n, c, rfl, Nat.lt_succ_self _, e3 0 _ rfl, (h.below ((Below.refl B w).alloc hB _)).more (by omega), h1⟩
  · exact ⟨_, A', n', c', rfl, Nat.lt_succ_self _, e3 1 _ rfl, (h'.below ((Below.refl B' w).alloc hB' _)).more (by omega), h1'⟩
end Go.Proofs.YtmijploffdoenaaDoor
/- A region that draws its order, walked operation by operation, in whatever order they come up: each operation owes what it alone yields (a relation of its own, kept by all that may come between), out of what those it waits for have yielded. So n operations are n steps, however many orders there are. No premises. -/
namespace Go.Proofs.YtmijploffdoenaaDoor
/-- The value in an operation's temporary. -/
def slotOf (d : Option Tmp) (a : Act) : Value := match d with | some t => a.tmps.getD t undef | none => undef
/-- Nobody in the region writes this temporary. -/
def freeTmp (ops : Array Oper) (t : Tmp) : Bool := ops.toList.all fun o => o.dst != some t
/-- Each temporary is written once, and lies in the frame; whoever is waited for stands ahead. -/
def softB (ops : Array Oper) (n : Nat) : Bool :=
  (List.range ops.size).all fun i => match ops[i]? with
    | some o => (match o.dst with | some d => decide (d < n) && ((List.range i).all fun j => ((ops[j]?).bind (·.dst)) != some d) | none => true) && o.after.toList.all fun e => !Region.binds .any e || decide (e.on < i)
    | none => true
structure SoftOk (ops : Array Oper) (n : Nat) : Prop where
  inn : ∀ (i : Nat) o d, ops[i]? = some o → o.dst = some d → d < n
  one : ∀ (i j : Nat) oi oj d, ops[i]? = some oi → ops[j]? = some oj → oi.dst = some d → oj.dst = some d → i = j
  early : ∀ (i : Nat) o, ops[i]? = some o → ∀ e ∈ o.after, Region.binds .any e = true → e.on < i
theorem SoftOk.of {ops : Array Oper} {n : Nat} (h : softB ops n = true) : SoftOk ops n := by
  unfold softB at h
  rw [List.all_eq_true] at h
  have key : ∀ (i : Nat) o, ops[i]? = some o → ((match o.dst with | some d => decide (d < n) && ((List.range i).all fun j => ((ops[j]?).bind (·.dst)) != some d) | none => true) = true ∧ (o.after.toList.all fun e => !Region.binds .any e || decide (e.on < i)) = true) := by
    intro i o ho
    have hi : i < ops.size := (Array.getElem?_eq_some_iff.1 ho).1
    have := h i (List.mem_range.2 hi)
    rw [ho] at this
    simpa using this
  have lt : ∀ (i j : Nat) oi oj d, ops[i]? = some oi → ops[j]? = some oj → oi.dst = some d → oj.dst = some d → ¬ j < i := by
    intro i j oi oj d hi hj hdi hdj hji
    have := (key i oi hi).1
    rw [hdi] at this
    simp only [Bool.and_eq_true, List.all_eq_true] at this
    have h2 := this.2 j (List.mem_range.2 hji)
    rw [hj] at h2
    simp [hdj] at h2
  refine ⟨fun i o d ho hd => ?_, fun i j oi oj d hi hj hdi hdj => ?_, fun i o ho e he hb => ?_⟩
  · have := (key i o ho).1
    rw [hd] at this
    simp only [Bool.and_eq_true, decide_eq_true_eq] at this
    exact this.1
  · have h1 := lt i j oi oj d hi hj hdi hdj
    have h2 := lt j i oj oi d hj hi hdj hdi
    omega
  · have := (key i o ho).2
    rw [List.all_eq_true] at this
    have h2 := this e (by simpa using he)
    rw [hb] at h2
    exact of_decide_eq_true (by simpa using h2)
section
variable {P : Program} {ops : Array Oper} {Q : Exit → Act → World → Prop} {C : World → Prop} {G : World → World → Prop} {R : Nat → Value → World → Prop} {a0 : Act}
structure Fits (ops : Array Oper) (a0 : Act) (R : Nat → Value → World → Prop) (listed : Array Bool) (a : Act) (w : World) : Prop where
  lsize : listed.size = ops.size
  defers : a.defers = a0.defers
  size : a.tmps.size = a0.tmps.size
  outer : ∀ t, (∀ (i : Nat) o, ops[i]? = some o → listed.getD i false = true → o.dst ≠ some t) → a.tmps.getD t undef = a0.tmps.getD t undef
  inner : ∀ (i : Nat) o, ops[i]? = some o → listed.getD i false = true → R i (slotOf o.dst a) w
/-- What an operation sees of the frame: those it waits for, and what nobody writes. -/
structure Sees (ops : Array Oper) (a0 : Act) (R : Nat → Value → World → Prop) (o : Oper) (a : Act) (w : World) : Prop where
  defers : a.defers = a0.defers
  size : a.tmps.size = a0.tmps.size
  free : ∀ t, freeTmp ops t = true → a.tmps.getD t undef = a0.tmps.getD t undef
  dep : ∀ (d : Nat) od, (o.after.toList.any fun e => e.on == d && Region.binds .any e) = true → ops[d]? = some od → R d (slotOf od.dst a) w
/-- What operation number i owes. -/
def StepOk (P : Program) (ops : Array Oper) (Q : Exit → Act → World → Prop) (C : World → Prop) (G : World → World → Prop) (R : Nat → Value → World → Prop) (a0 : Act) (i : Nat) (o : Oper) : Prop :=
  ∀ (a : Act) (w : World), C w → Sees ops a0 R o a w → ∀ K : Act → World → Prop,
    (∀ v w', R i (if o.dst.isSome then v else undef) w' → C w' → G w w' → K (a.put o.dst v) w') →
    if Region.wanted o (yielded ops a.tmps) = true then Oper.wp P o a w K Q else K (a.put o.dst undef) w
theorem slot_put_same {a : Act} {d : Option Tmp} {v : Value} (h : ∀ t, d = some t → t < a.tmps.size) : slotOf d (a.put d v) = if d.isSome then v else undef := by
  cases d with
  | none => rfl
  | some t => have := h t rfl; simp [slotOf, Act.put, this]
theorem slot_put_other {a : Act} {d e : Option Tmp} {v : Value} (h : ∀ t, d = some t → e ≠ some t) : slotOf e (a.put d v) = slotOf e a := by
  cases d with
  | none => rfl
  | some t =>
    cases e with
    | none => rfl
    | some u =>
      have hne : t ≠ u := fun he => h t rfl (by rw [he])
      simp [slotOf, Act.put, hne]
theorem getD_put {a : Act} {d : Option Tmp} {v : Value} {t : Tmp} (h : d ≠ some t) : (a.put d v).tmps.getD t undef = a.tmps.getD t undef := by
  cases d with
  | none => rfl
  | some u =>
    have hne : u ≠ t := fun he => h (by rw [he])
    simp [Act.put, hne]
theorem put_size (a : Act) (d : Option Tmp) (v : Value) : (a.put d v).tmps.size = a.tmps.size := by cases d <;> simp [Act.put]
theorem put_defers' (a : Act) (d : Option Tmp) (v : Value) : (a.put d v).defers = a.defers := by cases d <;> rfl
theorem getD_set_listed {listed : Array Bool} {i j : Nat} (h : (listed.setIfInBounds i true).getD j false = true) : j = i ∨ listed.getD j false = true := by
  by_cases e : i = j
  · exact .inl e.symm
  · right
    simpa [Array.getElem?_setIfInBounds, e] using h
theorem Fits.step {listed : Array Bool} {a : Act} {w w' : World} {i : Nat} {o : Oper} {v : Value} (hok : SoftOk ops a0.tmps.size) (hmono : ∀ i v w w', C w → G w w' → R i v w → R i v w')
    (h : Fits ops a0 R listed a w) (ho : ops[i]? = some o) (hC : C w) (hG : G w w') (hR : R i (if o.dst.isSome then v else undef) w') : Fits ops a0 R (listed.setIfInBounds i true) (a.put o.dst v) w' := by
  have hin : i < listed.size := by rw [h.lsize]; exact (Array.getElem?_eq_some_iff.1 ho).1
  refine ⟨by simpa using h.lsize, (put_defers' _ _ _).trans h.defers, (put_size _ _ _).trans h.size, fun t ht => ?_, fun j oj hj hl => ?_⟩
  · have h1 := ht i o ho (by simp [hin])
    rw [getD_put h1]
    refine h.outer t fun j oj hj hl => ht j oj hj ?_
    by_cases e : i = j
    · subst e; simp [hin]
    · simpa [Array.getElem?_setIfInBounds, e] using hl
  · by_cases e : j = i
    · subst e
      have : oj = o := Option.some.inj (hj.symm.trans ho)
      subst this
      rw [slot_put_same (fun t ht => by rw [h.size]; exact hok.inn j oj t ho ht)]
      exact hR
    · have hl' := (getD_set_listed hl).resolve_left e
      rw [slot_put_other (fun t ht hjt => e (hok.one j i oj o t hj ho hjt ht))]
      exact hmono _ _ _ _ hC hG (h.inner j oj hj hl')
theorem Fits.sees {listed : Array Bool} {a : Act} {w : World} {i : Nat} {o : Oper} (h : Fits ops a0 R listed a w) (hi : i ∈ Region.ready .any ops listed) (ho : ops[i]? = some o) : Sees ops a0 R o a w := by
  obtain ⟨_, oj, hoj, hall⟩ := mem_ready.1 hi
  have : oj = o := Option.some.inj (hoj.symm.trans ho)
  subst this
  refine ⟨h.defers, h.size, fun t ht => h.outer t fun j oj' hj _ hd => ?_, fun d od hd hod => ?_⟩
  · unfold freeTmp at ht
    rw [List.all_eq_true] at ht
    have := ht oj' (Array.mem_toList_iff.2 (Array.mem_of_getElem? hj))
    simp [hd] at this
  · obtain ⟨e, he, hb⟩ := List.any_eq_true.1 hd
    simp only [Bool.and_eq_true, beq_iff_eq] at hb
    rw [← hb.1] at hod ⊢
    exact h.inner e.on od hod (hall e (by simpa using he) hb.2)
/-- How many have not come up. -/
def open_ (listed : Array Bool) : Nat := listed.toList.countP fun b => !b
theorem open_set {listed : Array Bool} {i : Nat} (hi : i < listed.size) (h : listed.getD i true = false) : open_ (listed.setIfInBounds i true) + 1 = open_ listed := by
  unfold open_
  have hl : listed.toList[i]'(by simpa using hi) = false := by
    simp [hi] at h
    simpa using h
  have e : (listed.setIfInBounds i true).toList = listed.toList.set i true := by simp
  rw [e]
  have h1 : ∀ (l : List Bool) (i : Nat) (hi : i < l.length), l[i] = false → (l.set i true).countP (fun b => !b) + 1 = l.countP fun b => !b := by
    intro l
    induction l with
    | nil => intro i hi; simp at hi
    | cons b l ih =>
      intro i hi hb
      cases i with
      | zero => simp at hb; subst hb; simp
      | succ i =>
        have := ih i (by simpa using hi) (by simpa using hb)
        simp only [List.set_cons_succ, List.countP_cons]
        omega
  exact h1 _ _ (by simpa using hi) hl
theorem open_zero {listed : Array Bool} (h : open_ listed = 0) : ∀ i, listed.getD i true = true := by
  intro i
  unfold open_ at h
  rw [List.countP_eq_zero] at h
  by_cases hi : i < listed.size
  · have := h (listed[i]) (by simp)
    simp at this
    simp [hi, this]
  · simp [hi]
theorem ready_nil {listed : Array Bool} (hs : listed.size = ops.size) (hok : SoftOk ops a0.tmps.size) (h : Region.ready .any ops listed = []) : ∀ i, i < ops.size → listed.getD i false = true := by
  intro i
  induction i using Nat.strongRecOn with
  | _ i ih =>
    intro hi
    have ho : ops[i]? = some ops[i] := by simp [hi]
    by_cases hl : listed.getD i true = true
    · have hi' : i < listed.size := by omega
      simp [hi'] at hl ⊢
      exact hl
    · exfalso
      have hm : i ∈ Region.ready .any ops listed := mem_ready.2 ⟨by simpa using hl, ops[i], ho, fun e he hb => ih e.on (hok.early i _ ho e he hb) (by have := hok.early i _ ho e he hb; omega)⟩
      rw [h] at hm
      cases hm
theorem wpAny_soft (hok : SoftOk ops a0.tmps.size) (hmono : ∀ i v w w', C w → G w w' → R i v w → R i v w')
    (hstep : ∀ (i : Nat) o, ops[i]? = some o → StepOk P ops Q C G R a0 i o)
    (hQ : ∀ a w, C w → Fits ops a0 R (Array.replicate ops.size true) a w → Q .normal a w) :
    ∀ (fuel : Nat) (listed : Array Bool) (a : Act) (w : World), open_ listed ≤ fuel → C w → Fits ops a0 R listed a w → wpAny P .any ops Q fuel listed a w := by
  have hend : ∀ (listed : Array Bool) (a : Act) (w : World), C w → Fits ops a0 R listed a w → Region.ready .any ops listed = [] → Q .normal a w := by
    intro listed a w hC h hr
    have hall := ready_nil h.lsize hok hr
    refine hQ a w hC ⟨by simp, h.defers, h.size, fun t ht => h.outer t fun i o ho hl => ht i o ho (by have := (Array.getElem?_eq_some_iff.1 ho).1; simp [this]), fun i o ho _ => h.inner i o ho (hall i (Array.getElem?_eq_some_iff.1 ho).1)⟩
  intro fuel
  induction fuel with
  | zero =>
    intro listed a w hf hC h
    have hz := open_zero (Nat.le_zero.1 hf)
    have hr : Region.ready .any ops listed = [] := by
      rw [List.eq_nil_iff_forall_not_mem]
      intro i hi
      have := (mem_ready.1 hi).1
      rw [hz i] at this
      cases this
    exact ⟨hr, hend listed a w hC h hr⟩
  | succ fuel ih =>
    intro listed a w hf hC h
    refine ⟨hend listed a w hC h, fun i hi => ?_⟩
    obtain ⟨hun, o, ho, _⟩ := mem_ready.1 hi
    have hin : i < listed.size := by rw [h.lsize]; exact (Array.getElem?_eq_some_iff.1 ho).1
    have hst := hstep i o ho a w hC (h.sees hi ho) (wpAny P .any ops Q fuel (listed.setIfInBounds i true)) fun v w' hR hC' hG =>
      ih _ _ _ (by have := open_set hin hun; omega) hC' (h.step hok hmono ho hC hG hR)
    unfold wpOp
    rw [ho]
    dsimp only
    split
    · rename_i hw; rw [if_pos hw] at hst; exact .inl hst
    · rename_i hw; rw [if_neg hw] at hst; exact hst
/-- The region. -/
theorem wp_region_soft {id : Nat} {w : World} (hm : P.follows .mixedOrders = true) (C : World → Prop) (G : World → World → Prop) (R : Nat → Value → World → Prop) (hok : softB ops a0.tmps.size = true)
    (hC : C w.drew) (hmono : ∀ i v w w', C w → G w w' → R i v w → R i v w')
    (hstep : ∀ (i : Nat) o, ops[i]? = some o → StepOk P ops Q C G R a0 i o)
    (hQ : ∀ a w, C w → a.defers = a0.defers → a.tmps.size = a0.tmps.size → (∀ t, freeTmp ops t = true → a.tmps.getD t undef = a0.tmps.getD t undef) → (∀ (i : Nat) o, ops[i]? = some o → R i (slotOf o.dst a) w) → Q .normal a w) :
    (Code.region id ops true).wp P Q a0 w := by
  refine wp_region_any hm (wpAny_soft (SoftOk.of hok) hmono hstep (fun a w hC h => hQ a w hC h.defers h.size (fun t ht => h.outer t fun j oj' hj _ hd => ?_) fun i o ho => h.inner i o ho (by have := (Array.getElem?_eq_some_iff.1 ho).1; simp [this])) ops.size (Array.replicate ops.size false) a0 w.drew ?_ hC ⟨by simp, rfl, rfl, fun _ _ => rfl, fun i o ho hl => ?_⟩)
  · unfold freeTmp at ht
    rw [List.all_eq_true] at ht
    have := ht oj' (Array.mem_toList_iff.2 (Array.mem_of_getElem? hj))
    simp [hd] at this
  · unfold open_; exact Nat.le_trans List.countP_le_length (by simp)
  · exfalso
    by_cases hi : i < ops.size <;> simp [hi] at hl
/-- What an operation comes to, its operands' values given. -/
def ValWp (P : Program) (o : Oper) (ρ : Operand → Value) (w : World) (K : Value → World → Prop) : Prop :=
  match (execOp ρ o).run P w with
  | .ok (.value v) w' => K v w'
  | .ok .skip w' => K undef w'
  | .ok (.enter f args) w' => Calls P f args w' fun e w'' => ∃ v, e = .returned v ∧ K v w''
  | _ => False
theorem wp_of_val {o : Oper} {a : Act} {w : World} {K : Act → World → Prop} (h : ValWp P o a.eval w fun v w' => K (a.put o.dst v) w') : Oper.wp P o a w K Q := by
  unfold ValWp at h
  unfold Oper.wp
  generalize (execOp a.eval o).run P w = r at *
  cases r with
  | ok n w' =>
    cases n <;> simp only [Oper.upon] at h ⊢
    case value v => exact h
    case skip => exact h
    case enter f args => exact h.mono fun e w'' ⟨v, he, hk⟩ => by subst he; exact hk
  | halt x w' => simp at h
theorem ValWp.congr {o : Oper} {ρ ρ' : Operand → Value} {w : World} {K : Value → World → Prop} (hs : ∀ cs b, o.op ≠ .select cs b) (h : ∀ x ∈ o.op.operands, ρ x = ρ' x) (hv : ValWp P o ρ' w K) : ValWp P o ρ w K := by
  unfold ValWp at *
  rw [execOp_congr o hs h]
  exact hv
/-- A relation that lasts. -/
structure Sp (G : World → World → Prop) where
  p : Value → World → Prop
  lasts : ∀ v w w', G w w' → p v w → p v w'
def Sp.val {G : World → World → Prop} (v : Value) : Sp G := ⟨fun u _ => u = v, fun _ _ _ _ h => h⟩
def Sp.any {G : World → World → Prop} : Sp G := ⟨fun _ _ => True, fun _ _ _ _ h => h⟩
def spAt {G : World → World → Prop} (l : List (Sp G)) (i : Nat) (v : Value) (w : World) : Prop := (l.getD i Sp.any).p v w
/-- What operation number i owes, its guard apart. -/
def Owes (P : Program) (ops : Array Oper) (C : World → Prop) (G : World → World → Prop) (R : Nat → Value → World → Prop) (a0 : Act) (i : Nat) (o : Oper) : Prop :=
  ∀ (a : Act) (w : World), C w → Sees ops a0 R o a w →
    (Region.wanted o (yielded ops a.tmps) = true ∧ ValWp P o a.eval w fun v w' => R i (if o.dst.isSome then v else undef) w' ∧ C w' ∧ G w w') ∨
    (Region.wanted o (yielded ops a.tmps) = false ∧ R i undef w)
def OwesAll (P : Program) (ops : Array Oper) (C : World → Prop) (G : World → World → Prop) (R : Nat → Value → World → Prop) (a0 : Act) : Nat → List Oper → Prop
  | _, [] => True
  | n, o :: l => Owes P ops C G R a0 n o ∧ OwesAll P ops C G R a0 (n + 1) l
theorem owesAll_at : ∀ (l : List Oper) (n i : Nat) (o : Oper), OwesAll P ops C G R a0 n l → l[i]? = some o → Owes P ops C G R a0 (n + i) o
  | [], _, i, o, _, h => by simp at h
  | x :: l, n, 0, o, h, ho => by simp at ho; subst ho; exact h.1
  | x :: l, n, i + 1, o, h, ho => by
    have := owesAll_at l (n + 1) i o h.2 (by simpa using ho)
    rwa [show n + 1 + i = n + (i + 1) by omega] at this
/-- The region, by a list of what each operation owes. -/
theorem wp_region_owes {id : Nat} {w : World} {l : List Oper} (hm : P.follows .mixedOrders = true) (C : World → Prop) (G : World → World → Prop) (hG : ∀ w, G w w) (sp : List (Sp G)) (hok : softB l.toArray a0.tmps.size = true)
    (hC : C w.drew) (hstep : OwesAll P l.toArray C G (spAt sp) a0 0 l)
    (hQ : ∀ a w, C w → a.defers = a0.defers → a.tmps.size = a0.tmps.size → (∀ t, freeTmp l.toArray t = true → a.tmps.getD t undef = a0.tmps.getD t undef) → (∀ (i : Nat) o, l[i]? = some o → spAt sp i (slotOf o.dst a) w) → Q .normal a w) :
    (Code.region id l.toArray true).wp P Q a0 w := by
  refine wp_region_soft hm C G (spAt sp) hok hC (fun i v w w' _ hg h => (sp.getD i Sp.any).lasts v w w' hg h) (fun i o ho => ?_) (fun a w hc hd hs hf hr => hQ a w hc hd hs hf fun i o ho => hr i o (by simpa using ho))
  have hw := owesAll_at l 0 i o hstep (by simpa using ho)
  rw [Nat.zero_add] at hw
  intro a w hc hsee K hK
  rcases hw a w hc hsee with ⟨h1, h2⟩ | ⟨h1, h2⟩
  · rw [if_pos h1]
    refine wp_of_val ?_
    unfold ValWp at h2 ⊢
    generalize (execOp a.eval o).run P w = r at *
    cases r with
    | ok n w' =>
      cases n <;> simp only at h2 ⊢
      case value v => exact hK v w' h2.1 h2.2.1 h2.2.2
      case skip => exact hK undef w' h2.1 h2.2.1 h2.2.2
      case enter f args => exact h2.mono fun e w'' ⟨v, he, hk⟩ => ⟨v, he, hK v w'' hk.1 hk.2.1 hk.2.2⟩
    | halt x w' => simp at h2
  · rw [h1]
    simp only [Bool.false_eq_true, if_false]
    exact hK undef w (by simpa using h2) hc (hG w)
theorem yielded_bool {a : Act} {j : Nat} {d : Tmp} {b : Bool} (h : (ops[j]?).bind (·.dst) = some d) (hv : a.tmps.getD d undef = .bool b) : yielded ops a.tmps j = some b := by
  unfold yielded
  rw [h]
  by_cases hd : d < a.tmps.size
  · simp [hd] at hv ⊢
    rw [hv]
  · simp [hd, undef] at hv
theorem ValWp.pure {o : Oper} {ρ : Operand → Value} {w w' : World} {K : Value → World → Prop} {v : Value} (h : ∀ K' : Value → World → Prop, K' v w' → ValWp P o ρ w K') (hk : K v w') : ValWp P o ρ w K := h K hk
theorem run_enter {f : FuncId} {fn : Func} {c : Code} (hf : P.funcs[f]? = some fn) (hname : (fn.name == "runtime.NumGoroutine") = false) (hb : fn.body = some c) (args : Array Value) (w : World) : (callFunc f args).run P w = .ok (.enter f args) w := by
  have hn : ¬ fn.name = "runtime.NumGoroutine" := by simpa using hname
  unfold callFunc
  simp [hf, hn, hb]
/-- A call of a function that the text names. -/
theorem ValWp.call {o : Oper} {f : FuncId} {xs : Array Operand} {ats : Array TypeId} {ρ : Operand → Value} {w : World} {K : Value → World → Prop} {fn : Func} {c : Code} (vals : Array Value)
    (hop : o.op = .call { callee := .value (.func f), args := xs, argTypes := ats }) (hρ : ρ (.func f) = .func (.func f) #[] #[]) (hf : P.funcs[f]? = some fn) (hname : (fn.name == "runtime.NumGoroutine") = false) (hb : fn.body = some c)
    (hv : xs.map ρ = vals) (h : Calls P f vals w fun e w'' => ∃ v, e = .returned v ∧ K v w'') : ValWp P o ρ w K := by
  have e1 : execOp ρ o = callFunc f vals := by
    subst hv
    unfold execOp
    simp [hop, resolve, Deferred.ofValue, invoke, hρ]
  unfold ValWp
  rw [e1, run_enter hf hname hb]
  exact h
end
end Go.Proofs.YtmijploffdoenaaDoor
/- Relations of values that last while memory only grows: for soft regions. No premises. -/
namespace Go.Proofs.YtmijploffdoenaaDoor
open Go.RowKit
def Later (w w' : World) : Prop := Below w.heap.size w w'
theorem Later.refl (w : World) : Later w w := Below.refl _ _
theorem Later.trans {a b c : World} (h : Later a b) (k : Later b c) : Later a c := Below.trans h (Below.mono k h.size)
theorem Later.alloc (w : World) (o : Obj) : Later w (w.alloc o) := (Below.refl _ w).alloc (Nat.le_refl _) o
theorem Later.drew (w : World) : Later w w.drew := (Below.refl _ w).drew
/-- A slice of so many bytes, that reads as l. -/
def spBytes (n : Nat) (l : List UInt8) : Sp Later := ⟨fun v w => ∃ A c, v = .slice A n c ∧ Rd w w.heap.size A n (l.map bv), fun _ _ _ hg ⟨A, c, h1, h2⟩ => ⟨A, c, h1, (h2.below hg).more hg.size⟩⟩
/-- A slice of so many slices of bytes, that reads as ls. -/
def spRows (n : Nat) (ls : List (List UInt8)) : Sp Later := ⟨fun v w => ∃ A c, v = .slice A n c ∧ RdL w w.heap.size A n ls, fun _ _ _ hg ⟨A, c, h1, h2⟩ => ⟨A, c, h1, by
  refine ⟨h2.1, fun j hj => ?_⟩
  obtain ⟨ad, A', n', c', rfl, h3, h4, h5, h6⟩ := (RdL.keep h2 hg).2 j hj
  exact ⟨ad, A', n', c', rfl, Nat.lt_of_lt_of_le h3 hg.size, h4, h5.more hg.size, h6⟩⟩⟩
end Go.Proofs.YtmijploffdoenaaDoor
/- Soft regions, two words more: an operation whose guard's operation was left out; the frame behind a region, written out. No premises. -/
namespace Go.Proofs.YtmijploffdoenaaDoor
open Go.RowKit
theorem yielded_undef {ops : Array Oper} {a : Act} {j : Nat} {d : Tmp} (h : (ops[j]?).bind (·.dst) = some d) (hv : a.tmps.getD d undef = undef) : yielded ops a.tmps j = none := by
  unfold yielded
  rw [h]
  by_cases hd : d < a.tmps.size
  · simp [hd] at hv ⊢
    rw [hv]
    rfl
  · simp [hd]
def AllAt (a : Act) : Nat → List Value → Prop
  | _, [] => True
  | n, v :: l => a.tmps.getD n undef = v ∧ AllAt a (n + 1) l
theorem AllAt.at_ {a : Act} : ∀ {l : List Value} {n : Nat}, AllAt a n l → ∀ (i : Nat) (h : i < l.length), a.tmps.getD (n + i) undef = l[i]
  | v :: l, n, h, 0, _ => h.1
  | v :: l, n, h, i + 1, hi => by
    have := AllAt.at_ h.2 i (by simpa using hi)
    rw [show n + (i + 1) = n + 1 + i by omega, this]
    rfl
theorem act_lit {a : Act} {l : List Value} (hd : a.defers = []) (hsz : a.tmps.size = l.length) (h : AllAt a 0 l) : a = ⟨l.toArray, []⟩ := by
  obtain ⟨t, d⟩ := a
  simp only at hd hsz
  subst hd
  congr 1
  apply Array.ext
  · simpa using hsz
  · intro i h1 h2
    have h3 := h.at_ i (by simpa using h2)
    rw [Nat.zero_add] at h3
    simp only at h3
    rw [← Array.getElem_eq_getD (h := h1)] at h3
    simpa using h3
end Go.Proofs.YtmijploffdoenaaDoor
/- A statement of open order in which one operation (number p) writes what was there: before it the world is as C0 says, behind it as C1 says; all others only read, or make memory. No premises. -/
namespace Go.Proofs.YtmijploffdoenaaDoor
open Go.RowKit
section
variable {P : Program} {ops : Array Oper} {Q : Exit → Act → World → Prop} {G : World → World → Prop} {R : Nat → Value → World → Prop} {a0 : Act}
theorem wpAny_softL {C : Array Bool → World → Prop} (hok : SoftOk ops a0.tmps.size) (hmono : ∀ i v w w', G w w' → R i v w → R i v w')
    (hstep : ∀ (i : Nat) o, ops[i]? = some o → ∀ (listed : Array Bool) (a : Act) (w : World), listed.size = ops.size → listed.getD i true = false → (∀ e ∈ o.after, Region.binds .any e = true → listed.getD e.on false = true) → C listed w → Sees ops a0 R o a w → ∀ K : Act → World → Prop,
      (∀ v w', R i (if o.dst.isSome then v else undef) w' → C (listed.setIfInBounds i true) w' → G w w' → K (a.put o.dst v) w') →
      if Region.wanted o (yielded ops a.tmps) = true then Oper.wp P o a w K Q else K (a.put o.dst undef) w)
    (hQ : ∀ (listed : Array Bool) a w, (∀ i, i < ops.size → listed.getD i false = true) → C listed w → Fits ops a0 R (Array.replicate ops.size true) a w → Q .normal a w) :
    ∀ (fuel : Nat) (listed : Array Bool) (a : Act) (w : World), open_ listed ≤ fuel → C listed w → Fits ops a0 R listed a w → wpAny P .any ops Q fuel listed a w := by
  have hend : ∀ (listed : Array Bool) (a : Act) (w : World), C listed w → Fits ops a0 R listed a w → Region.ready .any ops listed = [] → Q .normal a w := by
    intro listed a w hC h hr
    have hall := ready_nil h.lsize hok hr
    refine hQ listed a w hall hC ⟨by simp, h.defers, h.size, fun t ht => h.outer t fun i o ho hl => ht i o ho (by have := (Array.getElem?_eq_some_iff.1 ho).1; simp [this]), fun i o ho _ => h.inner i o ho (hall i (Array.getElem?_eq_some_iff.1 ho).1)⟩
  intro fuel
  induction fuel with
  | zero =>
    intro listed a w hf hC h
    have hz := open_zero (Nat.le_zero.1 hf)
    have hr : Region.ready .any ops listed = [] := by
      rw [List.eq_nil_iff_forall_not_mem]
      intro i hi
      have := (mem_ready.1 hi).1
      rw [hz i] at this
      cases this
    exact ⟨hr, hend listed a w hC h hr⟩
  | succ fuel ih =>
    intro listed a w hf hC h
    refine ⟨hend listed a w hC h, fun i hi => ?_⟩
    obtain ⟨hun, o, ho, hdeps⟩ := mem_ready.1 hi
    have hin : i < listed.size := by rw [h.lsize]; exact (Array.getElem?_eq_some_iff.1 ho).1
    have hst := hstep i o ho listed a w h.lsize hun hdeps hC (h.sees hi ho) (wpAny P .any ops Q fuel (listed.setIfInBounds i true)) fun v w' hR hC' hG =>
      ih _ _ _ (by have := open_set hin hun; omega) hC' (h.step (C := fun _ => True) hok (fun i v w w' _ => hmono i v w w') ho trivial hG hR)
    unfold wpOp
    rw [ho]
    dsimp only
    split
    · rename_i hw; rw [if_pos hw] at hst; exact .inl hst
    · rename_i hw; rw [if_neg hw] at hst; exact hst
theorem ValWp.mono {o : Oper} {ρ : Operand → Value} {w : World} {K K' : Value → World → Prop} (h : ValWp P o ρ w K) (hk : ∀ v w', K v w' → K' v w') : ValWp P o ρ w K' := by
  unfold ValWp at *
  generalize (execOp ρ o).run P w = r at *
  cases r with
  | ok n w' =>
    cases n <;> simp only at h ⊢
    case value v => exact hk _ _ h
    case skip => exact hk _ _ h
    case enter f args => exact Calls.mono h fun e w'' ⟨v, he, h2⟩ => ⟨v, he, hk _ _ h2⟩
  | halt x w' => simp at h
/-- Does operation p wait for operation i? -/
def depOn (ops : Array Oper) (p i : Nat) : Bool := match ops[p]? with | some o => o.after.toList.any (fun e => e.on == i && Region.binds .any e) | none => false
/-- What operation number i owes: p goes from C0 to C1, all others keep either; what p waits for sees C0. -/
def OwesP (P : Program) (ops : Array Oper) (C0 C1 : World → Prop) (G : World → World → Prop) (p : Nat) (R : Nat → Value → World → Prop) (a0 : Act) (i : Nat) (o : Oper) : Prop :=
  if i = p then ∀ (a : Act) (w : World), C0 w → Sees ops a0 R o a w →
    (Region.wanted o (yielded ops a.tmps) = true ∧ ValWp P o a.eval w fun v w' => R i (if o.dst.isSome then v else undef) w' ∧ C1 w' ∧ G w w')
  else ∀ (a : Act) (w : World), (depOn ops p i = true → C0 w) → (C0 w ∨ C1 w) → Sees ops a0 R o a w →
    (Region.wanted o (yielded ops a.tmps) = true ∧ ValWp P o a.eval w fun v w' => R i (if o.dst.isSome then v else undef) w' ∧ (C0 w' ∨ C1 w') ∧ Later w w') ∨
    (Region.wanted o (yielded ops a.tmps) = false ∧ R i undef w)
def OwesAllP (P : Program) (ops : Array Oper) (C0 C1 : World → Prop) (G : World → World → Prop) (p : Nat) (R : Nat → Value → World → Prop) (a0 : Act) : Nat → List Oper → Prop
  | _, [] => True
  | n, o :: l => OwesP P ops C0 C1 G p R a0 n o ∧ OwesAllP P ops C0 C1 G p R a0 (n + 1) l
theorem owesAllP_at {C0 C1 : World → Prop} {p : Nat} : ∀ (l : List Oper) (n i : Nat) (o : Oper), OwesAllP P ops C0 C1 G p R a0 n l → l[i]? = some o → OwesP P ops C0 C1 G p R a0 (n + i) o
  | [], _, i, o, _, h => by simp at h
  | x :: l, n, 0, o, h, ho => by simp at ho; subst ho; exact h.1
  | x :: l, n, i + 1, o, h, ho => by
    have := owesAllP_at l (n + 1) i o h.2 (by simpa using ho)
    rwa [show n + 1 + i = n + (i + 1) by omega] at this
theorem getD_set_same {l : Array Bool} {i : Nat} (h : i < l.size) : (l.setIfInBounds i true).getD i false = true := by simp [h]
theorem getD_set_ne {l : Array Bool} {i p : Nat} (h : i ≠ p) : (l.setIfInBounds i true).getD p false = l.getD p false := by
  by_cases hp : p < l.size
  · simp [hp, h]
  · simp [hp]
/-- The region. -/
theorem wp_region_writes {id : Nat} {w : World} {l : List Oper} (hm : P.follows .mixedOrders = true) (p : Nat) (C0 C1 : World → Prop) (G : World → World → Prop) (sp : List (Sp G)) (hp : p < l.length) (hok : softB l.toArray a0.tmps.size = true)
    (hC : C0 w.drew) (h0 : ∀ w w', C0 w → Later w w' → C0 w') (h1 : ∀ w w', C1 w → Later w w' → C1 w') (hL : ∀ w w', Later w w' → G w w')
    (hstep : OwesAllP P l.toArray C0 C1 G p (spAt sp) a0 0 l)
    (hQ : ∀ a w, C1 w → a.defers = a0.defers → a.tmps.size = a0.tmps.size → (∀ t, freeTmp l.toArray t = true → a.tmps.getD t undef = a0.tmps.getD t undef) → (∀ (i : Nat) o, l[i]? = some o → spAt sp i (slotOf o.dst a) w) → Q .normal a w) :
    (Code.region id l.toArray true).wp P Q a0 w := by
  have hmono : ∀ i v w w', G w w' → spAt sp i v w → spAt sp i v w' := fun i v w w' hg h => (sp.getD i Sp.any).lasts v w w' hg h
  refine wp_region_any hm (wpAny_softL (C := fun listed w => if listed.getD p false = true then C1 w ∧ (∀ i, depOn l.toArray p i = true → listed.getD i false = true) else C0 w) (R := spAt sp) (SoftOk.of hok) hmono (fun i o ho listed a w hsz hun hdeps hc hsee K hK => ?_)
    (fun listed a w hall hc h => ?_) l.toArray.size (Array.replicate l.toArray.size false) a0 w.drew ?_ ?_ ⟨by simp, rfl, rfl, fun _ _ => rfl, fun i o ho hl => ?_⟩)
  · have hil : i < listed.size := by rw [hsz]; exact (Array.getElem?_eq_some_iff.1 ho).1
    have hw := owesAllP_at l 0 i o hstep (by simpa using ho)
    rw [Nat.zero_add] at hw
    by_cases hip : i = p
    · subst hip
      have hf : listed.getD i false = false := by simp [hil] at hun ⊢; exact hun
      rw [hf] at hc
      simp only [Bool.false_eq_true, if_false] at hc
      unfold OwesP at hw
      rw [if_pos rfl] at hw
      obtain ⟨hw1, hw2⟩ := hw a w hc hsee
      rw [if_pos hw1]
      refine wp_of_val (hw2.mono fun v w' hk => ?_)
      refine hK v w' hk.1 ?_ hk.2.2
      rw [if_pos (getD_set_same hil)]
      refine ⟨hk.2.1, fun j hj => ?_⟩
      by_cases hji : i = j
      · subst hji; exact getD_set_same hil
      · rw [getD_set_ne hji]
        unfold depOn at hj
        rw [ho] at hj
        obtain ⟨e, he, hb⟩ := List.any_eq_true.1 hj
        simp only [Bool.and_eq_true, beq_iff_eq] at hb
        rw [← hb.1]
        exact hdeps e (by simpa using he) hb.2
    · unfold OwesP at hw
      rw [if_neg hip] at hw
      have hor : C0 w ∨ C1 w := by split at hc; exact .inr hc.1; exact .inl hc
      have hdep : depOn l.toArray p i = true → C0 w := fun hd => by
        split at hc
        · have h1 := hc.2 i hd
          simp [hil] at hun h1
          rw [hun] at h1; cases h1
        · exact hc
      have hkeep : ∀ w', Later w w' → (if (listed.setIfInBounds i true).getD p false = true then C1 w' ∧ (∀ j, depOn l.toArray p j = true → (listed.setIfInBounds i true).getD j false = true) else C0 w') := by
        intro w' hl
        rw [getD_set_ne hip]
        split
        · rename_i h; rw [if_pos h] at hc; refine ⟨h1 _ _ hc.1 hl, fun j hj => ?_⟩
          by_cases hji : i = j
          · subst hji; exact getD_set_same hil
          · rw [getD_set_ne hji]; exact hc.2 j hj
        · rename_i h; rw [if_neg h] at hc; exact h0 _ _ hc hl
      rcases hw a w hdep hor hsee with ⟨hw1, hw2⟩ | ⟨hw1, hw2⟩
      · rw [if_pos hw1]
        exact wp_of_val (hw2.mono fun v w' hk => hK v w' hk.1 (hkeep _ hk.2.2) (hL _ _ hk.2.2))
      · rw [hw1]
        simp only [Bool.false_eq_true, if_false]
        exact hK undef w (by simpa using hw2) (hkeep w (Later.refl w)) (hL _ _ (Later.refl w))
  · have hpl := hall p (by simpa using hp)
    rw [hpl] at hc
    simp only [if_true] at hc
    refine hQ a w hc.1 h.defers h.size (fun t ht => h.outer t fun j oj' hj _ hd => ?_) fun i o ho => h.inner i o (by simpa using ho) (by have := (List.getElem?_eq_some_iff.1 ho).1; simp [this])
    unfold freeTmp at ht
    rw [List.all_eq_true] at ht
    have := ht oj' (Array.mem_toList_iff.2 (Array.mem_of_getElem? hj))
    simp [hd] at this
  · unfold open_; exact Nat.le_trans List.countP_le_length (by simp)
  · simp [hp]; exact hC
  · exfalso
    have hi := (Array.getElem?_eq_some_iff.1 ho).1
    rw [List.size_toArray] at hi
    simp [hi] at hl
end
end Go.Proofs.YtmijploffdoenaaDoor
/- A statement of open order in which two operations write what was there: number p, and behind it number q, that waits for p: before p the world is as C0 says, between them as C1 says, behind q as C2 says; p may end the statement (a panic). All others only read, or make memory. No premises. -/
namespace Go.Proofs.YtmijploffdoenaaDoor
open Go.RowKit
section
variable {P : Program} {ops : Array Oper} {Q : Exit → Act → World → Prop} {G : World → World → Prop} {R : Nat → Value → World → Prop} {a0 : Act}
theorem wpAny_softA {C : Array Bool → Act → World → Prop} (hok : SoftOk ops a0.tmps.size) (hmono : ∀ i v w w', G w w' → R i v w → R i v w')
    (hstep : ∀ (i : Nat) o, ops[i]? = some o → ∀ (listed : Array Bool) (a : Act) (w : World), listed.size = ops.size → listed.getD i true = false → (∀ e ∈ o.after, Region.binds .any e = true → listed.getD e.on false = true) → C listed a w → a.tmps.size = a0.tmps.size → Sees ops a0 R o a w → ∀ K : Act → World → Prop,
      (∀ v w', R i (if o.dst.isSome then v else undef) w' → C (listed.setIfInBounds i true) (a.put o.dst v) w' → G w w' → K (a.put o.dst v) w') →
      if Region.wanted o (yielded ops a.tmps) = true then Oper.wp P o a w K Q else K (a.put o.dst undef) w)
    (hQ : ∀ (listed : Array Bool) a w, (∀ i, i < ops.size → listed.getD i false = true) → C listed a w → Fits ops a0 R (Array.replicate ops.size true) a w → Q .normal a w) :
    ∀ (fuel : Nat) (listed : Array Bool) (a : Act) (w : World), open_ listed ≤ fuel → C listed a w → Fits ops a0 R listed a w → wpAny P .any ops Q fuel listed a w := by
  have hend : ∀ (listed : Array Bool) (a : Act) (w : World), C listed a w → Fits ops a0 R listed a w → Region.ready .any ops listed = [] → Q .normal a w := by
    intro listed a w hC h hr
    have hall := ready_nil h.lsize hok hr
    refine hQ listed a w hall hC ⟨by simp, h.defers, h.size, fun t ht => h.outer t fun i o ho hl => ht i o ho (by have := (Array.getElem?_eq_some_iff.1 ho).1; simp [this]), fun i o ho _ => h.inner i o ho (hall i (Array.getElem?_eq_some_iff.1 ho).1)⟩
  intro fuel
  induction fuel with
  | zero =>
    intro listed a w hf hC h
    have hz := open_zero (Nat.le_zero.1 hf)
    have hr : Region.ready .any ops listed = [] := by
      rw [List.eq_nil_iff_forall_not_mem]
      intro i hi
      have := (mem_ready.1 hi).1
      rw [hz i] at this
      cases this
    exact ⟨hr, hend listed a w hC h hr⟩
  | succ fuel ih =>
    intro listed a w hf hC h
    refine ⟨hend listed a w hC h, fun i hi => ?_⟩
    obtain ⟨hun, o, ho, hdeps⟩ := mem_ready.1 hi
    have hin : i < listed.size := by rw [h.lsize]; exact (Array.getElem?_eq_some_iff.1 ho).1
    have hst := hstep i o ho listed a w h.lsize hun hdeps hC h.size (h.sees hi ho) (wpAny P .any ops Q fuel (listed.setIfInBounds i true)) fun v w' hR hC' hG =>
      ih _ _ _ (by have := open_set hin hun; omega) hC' (h.step (C := fun _ => True) hok (fun i v w w' _ => hmono i v w w') ho trivial hG hR)
    unfold wpOp
    rw [ho]
    dsimp only
    split
    · rename_i hw; rw [if_pos hw] at hst; exact .inl hst
    · rename_i hw; rw [if_neg hw] at hst; exact hst
/-- What operation number i owes. -/
def OwesT (P : Program) (ops : Array Oper) (Q : Exit → Act → World → Prop) (C0 : World → Prop) (C1 : Value → World → Prop) (C2 : World → Prop) (G : World → World → Prop) (p q : Nat) (R : Nat → Value → World → Prop) (a0 : Act) (i : Nat) (o : Oper) : Prop :=
  if i = p then ∀ (a : Act) (w : World), C0 w → Sees ops a0 R o a w →
    (Region.wanted o (yielded ops a.tmps) = true ∧ ∀ K : Act → World → Prop, (∀ v w', R i v w' → C1 v w' → G w w' → K (a.put o.dst v) w') → Oper.wp P o a w K Q)
  else if i = q then ∀ (a : Act) (w : World) (u : Value), C1 u w → ((ops[p]?).bind (·.dst)).elim True (fun t => a.tmps.getD t undef = u) → Sees ops a0 R o a w →
    (Region.wanted o (yielded ops a.tmps) = true ∧ ValWp P o a.eval w fun v w' => R i (if o.dst.isSome then v else undef) w' ∧ C2 w' ∧ G w w')
  else ∀ (a : Act) (w : World), (depOn ops p i = true → C0 w) → (C0 w ∨ (∃ u, C1 u w) ∨ C2 w) → Sees ops a0 R o a w →
    (Region.wanted o (yielded ops a.tmps) = true ∧ ValWp P o a.eval w fun v w' => R i (if o.dst.isSome then v else undef) w' ∧ (C0 w' ∨ (∃ u, C1 u w') ∨ C2 w') ∧ Later w w')
def OwesAllT (P : Program) (ops : Array Oper) (Q : Exit → Act → World → Prop) (C0 : World → Prop) (C1 : Value → World → Prop) (C2 : World → Prop) (G : World → World → Prop) (p q : Nat) (R : Nat → Value → World → Prop) (a0 : Act) : Nat → List Oper → Prop
  | _, [] => True
  | n, o :: l => OwesT P ops Q C0 C1 C2 G p q R a0 n o ∧ OwesAllT P ops Q C0 C1 C2 G p q R a0 (n + 1) l
theorem owesAllT_at {C0 C2 : World → Prop} {C1 : Value → World → Prop} {p q : Nat} : ∀ (l : List Oper) (n i : Nat) (o : Oper), OwesAllT P ops Q C0 C1 C2 G p q R a0 n l → l[i]? = some o → OwesT P ops Q C0 C1 C2 G p q R a0 (n + i) o
  | [], _, i, o, _, h => by simp at h
  | x :: l, n, 0, o, h, ho => by simp at ho; subst ho; exact h.1
  | x :: l, n, i + 1, o, h, ho => by
    have := owesAllT_at l (n + 1) i o h.2 (by simpa using ho)
    rwa [show n + 1 + i = n + (i + 1) by omega] at this
/-- Those that i waits for have come up. -/
theorem deps_listed {i : Nat} {o : Oper} {listed : Array Bool} (ho : ops[i]? = some o) (hdeps : ∀ e ∈ o.after, Region.binds .any e = true → listed.getD e.on false = true) (j : Nat) (hj : depOn ops i j = true) : listed.getD j false = true := by
  unfold depOn at hj
  rw [ho] at hj
  obtain ⟨e, he, hb⟩ := List.any_eq_true.1 hj
  simp only [Bool.and_eq_true, beq_iff_eq] at hb
  rw [← hb.1]
  exact hdeps e (by simpa using he) hb.2
theorem listed_more {i j : Nat} {listed : Array Bool} (hi : i < listed.size) (h : listed.getD j false = true) : (listed.setIfInBounds i true).getD j false = true := by
  by_cases hji : i = j
  · subst hji; exact getD_set_same hi
  · rw [getD_set_ne hji]; exact h
/-- How far the two writers are. -/
def Phase (ops : Array Oper) (p q : Nat) (C0 : World → Prop) (C1 : Value → World → Prop) (C2 : World → Prop) (listed : Array Bool) (a : Act) (w : World) : Prop :=
  (listed.getD p false = false ∧ listed.getD q false = false ∧ C0 w) ∨
  (listed.getD p false = true ∧ listed.getD q false = false ∧ (∃ u, C1 u w ∧ ((ops[p]?).bind (·.dst)).elim True fun t => a.tmps.getD t undef = u) ∧ ∀ i, depOn ops p i = true → listed.getD i false = true) ∨
  (listed.getD p false = true ∧ listed.getD q false = true ∧ C2 w ∧ ∀ i, depOn ops p i = true → listed.getD i false = true)
/-- The region. -/
theorem wp_region_two {id : Nat} {w : World} {l : List Oper} (hm : P.follows .mixedOrders = true) (p q : Nat) (C0 : World → Prop) (C1 : Value → World → Prop) (C2 : World → Prop) (G : World → World → Prop) (sp : List (Sp G)) (hp : p < l.length) (hq : q < l.length) (hpq : p ≠ q) (hdq : depOn l.toArray q p = true) (hpd : ((l.toArray[p]?).bind (·.dst)).isSome = true) (hok : softB l.toArray a0.tmps.size = true)
    (hC : C0 w.drew) (h0 : ∀ w w', C0 w → Later w w' → C0 w') (h1 : ∀ u w w', C1 u w → Later w w' → C1 u w') (h2 : ∀ w w', C2 w → Later w w' → C2 w') (hL : ∀ w w', Later w w' → G w w')
    (hstep : OwesAllT P l.toArray Q C0 C1 C2 G p q (spAt sp) a0 0 l)
    (hQ : ∀ a w, C2 w → a.defers = a0.defers → a.tmps.size = a0.tmps.size → (∀ t, freeTmp l.toArray t = true → a.tmps.getD t undef = a0.tmps.getD t undef) → (∀ (i : Nat) o, l[i]? = some o → spAt sp i (slotOf o.dst a) w) → Q .normal a w) :
    (Code.region id l.toArray true).wp P Q a0 w := by
  have hmono : ∀ i v w w', G w w' → spAt sp i v w → spAt sp i v w' := fun i v w w' hg h => (sp.getD i Sp.any).lasts v w w' hg h
  have hso := SoftOk.of hok
  refine wp_region_any hm (wpAny_softA (C := Phase l.toArray p q C0 C1 C2) (R := spAt sp) hso hmono (fun i o ho listed a w hsz hun hdeps hc hsize hsee K hK => ?_)
    (fun listed a w hall hc h => ?_) l.toArray.size (Array.replicate l.toArray.size false) a0 w.drew ?_ ?_ ⟨by simp, rfl, rfl, fun _ _ => rfl, fun i o ho hl => ?_⟩)
  · have hil : i < listed.size := by rw [hsz]; exact (Array.getElem?_eq_some_iff.1 ho).1
    have hf : listed.getD i false = false := by simp [hil] at hun ⊢; exact hun
    have hw := owesAllT_at l 0 i o hstep (by simpa using ho)
    rw [Nat.zero_add] at hw
    unfold OwesT at hw
    by_cases hip : i = p
    · subst hip
      rw [if_pos rfl] at hw
      have hsm : o.dst.isSome = true := by rw [ho] at hpd; exact hpd
      obtain ⟨t, ht⟩ := Option.isSome_iff_exists.1 hsm
      rcases hc with ⟨_, c2, c3⟩ | ⟨c1, _⟩ | ⟨c1, _⟩
      · obtain ⟨hw1, hw2⟩ := hw a w c3 hsee
        rw [if_pos hw1]
        refine hw2 K fun v w' hR hC' hG => hK v w' (by rw [if_pos hsm]; exact hR) (.inr (.inl ⟨getD_set_same hil, by rw [getD_set_ne hpq]; exact c2, ⟨v, hC', ?_⟩, fun j hj => listed_more hil (deps_listed ho hdeps j hj)⟩)) hG
        rw [ho]
        simp only [Option.bind_some, ht, Option.elim_some]
        have h9 := slot_put_same (a := a) (d := o.dst) (v := v) (fun t' ht' => by rw [hsize]; exact hso.inn i o t' ho ht')
        rw [ht] at h9
        simpa [slotOf] using h9
      · rw [hf] at c1; cases c1
      · rw [hf] at c1; cases c1
    · rw [if_neg hip] at hw
      by_cases hiq : i = q
      · subst hiq
        rw [if_pos rfl] at hw
        have hpl := deps_listed ho hdeps p hdq
        rcases hc with ⟨c1, _⟩ | ⟨c1, _, ⟨u, c3, c5⟩, c4⟩ | ⟨_, c2, _⟩
        · rw [hpl] at c1; cases c1
        · obtain ⟨hw1, hw2⟩ := hw a w u c3 c5 hsee
          rw [if_pos hw1]
          refine wp_of_val (hw2.mono fun v w' hk => ?_)
          exact hK v w' hk.1 (.inr (.inr ⟨by rw [getD_set_ne (Ne.symm hpq)]; exact c1, getD_set_same hil, hk.2.1, fun j hj => listed_more hil (c4 j hj)⟩)) hk.2.2
        · rw [hf] at c2; cases c2
      · rw [if_neg hiq] at hw
        have hor : C0 w ∨ (∃ u, C1 u w) ∨ C2 w := by
          rcases hc with ⟨_, _, c⟩ | ⟨_, _, ⟨u, c, _⟩, _⟩ | ⟨_, _, c, _⟩
          · exact .inl c
          · exact .inr (.inl ⟨u, c⟩)
          · exact .inr (.inr c)
        have hd0 : depOn l.toArray p i = true → C0 w := fun hd => by
          rcases hc with ⟨_, _, c⟩ | ⟨_, _, _, c⟩ | ⟨_, _, _, c⟩
          · exact c
          · have := c i hd; rw [hf] at this; cases this
          · have := c i hd; rw [hf] at this; cases this
        obtain ⟨hw1, hw2⟩ := hw a w hd0 hor hsee
        rw [if_pos hw1]
        refine wp_of_val (hw2.mono fun v w' hk => hK v w' hk.1 ?_ (hL _ _ hk.2.2))
        rcases hc with ⟨c1, c2, c⟩ | ⟨c1, c2, ⟨u, c, c5⟩, c4⟩ | ⟨c1, c2, c, c4⟩
        · exact .inl ⟨by rw [getD_set_ne hip]; exact c1, by rw [getD_set_ne hiq]; exact c2, h0 _ _ c hk.2.2⟩
        · refine .inr (.inl ⟨by rw [getD_set_ne hip]; exact c1, by rw [getD_set_ne hiq]; exact c2, ⟨u, h1 _ _ _ c hk.2.2, ?_⟩, fun j hj => listed_more hil (c4 j hj)⟩)
          cases hpo : l.toArray[p]? with
          | none => simp
          | some op =>
            rw [hpo] at c5
            cases hpt : op.dst with
            | none => simp [hpt]
            | some t =>
              simp only [Option.bind_some, hpt, Option.elim_some] at c5 ⊢
              have h9 := slot_put_other (a := a) (d := o.dst) (e := some t) (v := v) (fun t' ht' e => hip (hso.one i p o op t' ho hpo ht' (by rw [hpt]; exact e)))
              exact (show (a.put o.dst v).tmps.getD t undef = a.tmps.getD t undef from h9).trans c5
        · exact .inr (.inr ⟨by rw [getD_set_ne hip]; exact c1, by rw [getD_set_ne hiq]; exact c2, h2 _ _ c hk.2.2, fun j hj => listed_more hil (c4 j hj)⟩)
  · have hql := hall q (by simpa using hq)
    have hc2 : C2 w := by
      rcases hc with ⟨_, c, _⟩ | ⟨_, c, _⟩ | ⟨_, _, c, _⟩
      · rw [hql] at c; cases c
      · rw [hql] at c; cases c
      · exact c
    refine hQ a w hc2 h.defers h.size (fun t ht => h.outer t fun j oj' hj _ hd => ?_) fun i o ho => h.inner i o (by simpa using ho) (by have := (List.getElem?_eq_some_iff.1 ho).1; simp [this])
    unfold freeTmp at ht
    rw [List.all_eq_true] at ht
    have := ht oj' (Array.mem_toList_iff.2 (Array.mem_of_getElem? hj))
    simp [hd] at this
  · unfold open_; exact Nat.le_trans List.countP_le_length (by simp)
  · exact .inl ⟨by simp [hp], by simp [hq], hC⟩
  · exfalso
    have hi := (Array.getElem?_eq_some_iff.1 ho).1
    rw [List.size_toArray] at hi
    simp [hi] at hl
end
end Go.Proofs.YtmijploffdoenaaDoor
/- A statement of open order in which several operations write, each waiting for the one before it (a call, a literal, an append, a store): between them the world is as C j says, with the last writer's value. All others leave the world as it is. No premises. -/
namespace Go.Proofs.YtmijploffdoenaaDoor
open Go.RowKit
section
variable {P : Program} {ops : Array Oper} {Q : Exit → Act → World → Prop} {a0 : Act} {C : Nat → Value → World → Prop} {R : Nat → Value → World → Prop}
/-- What an operation yields, where it is known. -/
def RV (rv : List (Option Value)) (i : Nat) (v : Value) (_ : World) : Prop := match rv[i]? with
  | some (some x) => v = x
  | _ => True
def idx : List Nat → Nat → Option Nat
  | [], _ => none
  | p :: ps, n => if n = p then some 0 else (idx ps n).map (· + 1)
theorem idx_some {ps : List Nat} {n j : Nat} (h : idx ps n = some j) : ps[j]? = some n := by
  induction ps generalizing j with
  | nil => cases h
  | cons p ps ih =>
    unfold idx at h
    split at h
    · rename_i e; cases h; simp [e]
    · cases e : idx ps n with
      | none => rw [e] at h; cases h
      | some k => rw [e] at h; cases h; simpa using ih e
theorem idx_none {ps : List Nat} {n : Nat} (h : idx ps n = none) : ∀ k : Nat, ps[k]? ≠ some n := by
  induction ps with
  | nil => simp
  | cons p ps ih =>
    unfold idx at h
    split at h
    · cases h
    · rename_i e1
      cases e : idx ps n with
      | some k => rw [e] at h; cases h
      | none =>
        intro k
        cases k with
        | zero => simpa using fun e2 => e1 e2.symm
        | succ k => simpa using ih e k
/-- The last writer's slot holds u. -/
def lastIs (ops : Array Oper) (ps : List Nat) (j : Nat) (a : Act) (u : Value) : Prop := match j with
  | 0 => True
  | j + 1 => match (ps[j]?).bind fun p => (ops[p]?).bind (·.dst) with
    | some t => a.tmps.getD t undef = u
    | none => True
def OwesQ (P : Program) (ops : Array Oper) (C : Nat → Value → World → Prop) (ps : List Nat) (R : Nat → Value → World → Prop) (a0 : Act) (i : Nat) (o : Oper) : Prop :=
  ∀ (a : Act) (w : World) (j : Nat) (u : Value), C j u w → (∀ k p, ps[k]? = some p → depOn ops p i = true → j ≤ k) → Sees ops a0 R o a w →
    Region.wanted o (yielded ops a.tmps) = true ∧ ValWp P o a.eval w fun v w' => R i (if o.dst.isSome then v else undef) w' ∧ w' = w
def OwesW (P : Program) (ops : Array Oper) (Q : Exit → Act → World → Prop) (C : Nat → Value → World → Prop) (ps : List Nat) (R : Nat → Value → World → Prop) (a0 : Act) (i : Nat) (o : Oper) (j : Nat) : Prop :=
  ∀ (a : Act) (w : World) (u : Value), C j u w → lastIs ops ps j a u → Sees ops a0 R o a w →
    Region.wanted o (yielded ops a.tmps) = true ∧ ∀ K : Act → World → Prop, (∀ v w', R i (if o.dst.isSome then v else undef) w' → C (j + 1) v w' → K (a.put o.dst v) w') → Oper.wp P o a w K Q
def OwesS (P : Program) (ops : Array Oper) (Q : Exit → Act → World → Prop) (C : Nat → Value → World → Prop) (ps : List Nat) (R : Nat → Value → World → Prop) (a0 : Act) (i : Nat) (o : Oper) : Prop :=
  match idx ps i with
  | some j => OwesW P ops Q C ps R a0 i o j
  | none => OwesQ P ops C ps R a0 i o
theorem OwesS.w {ps : List Nat} {i j : Nat} {o : Oper} (h : idx ps i = some j) (hw : OwesW P ops Q C ps R a0 i o j) : OwesS P ops Q C ps R a0 i o := by unfold OwesS; rw [h]; exact hw
theorem OwesS.q {ps : List Nat} {i : Nat} {o : Oper} (h : idx ps i = none) (hw : OwesQ P ops C ps R a0 i o) : OwesS P ops Q C ps R a0 i o := by unfold OwesS; rw [h]; exact hw
def OwesAllS (P : Program) (ops : Array Oper) (Q : Exit → Act → World → Prop) (C : Nat → Value → World → Prop) (ps : List Nat) (R : Nat → Value → World → Prop) (a0 : Act) : Nat → List Oper → Prop
  | _, [] => True
  | n, o :: l => OwesS P ops Q C ps R a0 n o ∧ OwesAllS P ops Q C ps R a0 (n + 1) l
theorem owesAllS_at {ps : List Nat} : ∀ (l : List Oper) (n i : Nat) (o : Oper), OwesAllS P ops Q C ps R a0 n l → l[i]? = some o → OwesS P ops Q C ps R a0 (n + i) o
  | [], _, i, o, _, h => by simp at h
  | x :: l, n, 0, o, h, ho => by simp at ho; subst ho; exact h.1
  | x :: l, n, i + 1, o, h, ho => by
    have := owesAllS_at l (n + 1) i o h.2 (by simpa using ho)
    rwa [show n + 1 + i = n + (i + 1) by omega] at this
/-- Each writer waits for the one before it. -/
def chainB (ops : Array Oper) : List Nat → Bool
  | p :: q :: ps => depOn ops q p && chainB ops (q :: ps)
  | _ => true
theorem chainB_at {ps : List Nat} (h : chainB ops ps = true) : ∀ k p q, ps[k]? = some p → ps[k + 1]? = some q → depOn ops q p = true := by
  induction ps with
  | nil => intro k p q h1; simp at h1
  | cons x ps ih =>
    intro k p q h1 h2
    cases ps with
    | nil => simp at h2
    | cons y ps =>
      simp only [chainB, Bool.and_eq_true] at h
      cases k with
      | zero => simp at h1 h2; subst h1; subst h2; exact h.1
      | succ k => exact ih h.2 k p q (by simpa using h1) (by simpa using h2)
structure PhaseS (ops : Array Oper) (ps : List Nat) (C : Nat → Value → World → Prop) (j : Nat) (u : Value) (listed : Array Bool) (a : Act) (w : World) : Prop where
  le : j ≤ ps.length
  c : C j u w
  last : lastIs ops ps j a u
  at_ : ∀ k p, ps[k]? = some p → listed.getD p false = decide (k < j)
  dep : ∀ k p, ps[k]? = some p → k < j → ∀ i, depOn ops p i = true → listed.getD i false = true
theorem nodup_at {ps : List Nat} (h : ps.Nodup) {j k p : Nat} (h1 : ps[j]? = some p) (h2 : ps[k]? = some p) : j = k := by
  induction ps generalizing j k with
  | nil => simp at h1
  | cons x ps ih =>
    obtain ⟨hx, hn⟩ := List.nodup_cons.1 h
    cases j with
    | zero => cases k with
      | zero => rfl
      | succ k =>
        simp only [List.getElem?_cons_zero, Option.some.injEq] at h1
        simp only [List.getElem?_cons_succ] at h2
        subst h1
        exact absurd (List.mem_of_getElem? h2) hx
    | succ j => cases k with
      | zero =>
        simp only [List.getElem?_cons_zero, Option.some.injEq] at h2
        simp only [List.getElem?_cons_succ] at h1
        subst h2
        exact absurd (List.mem_of_getElem? h1) hx
      | succ k => exact congrArg (· + 1) (ih hn (by simpa using h1) (by simpa using h2))
/-- The region. -/
theorem wp_region_seq {id : Nat} {w : World} {l : List Oper} (hm : P.follows .mixedOrders = true) (ps : List Nat) (C : Nat → Value → World → Prop) (rv : List (Option Value)) (hps : ∀ p ∈ ps, p < l.length) (hnd : ps.Nodup) (hch : chainB l.toArray ps = true) (hok : softB l.toArray a0.tmps.size = true)
    (hC : C 0 undef w.drew) (hstep : OwesAllS P l.toArray Q C ps (RV rv) a0 0 l)
    (hQ : ∀ a w u, C ps.length u w → lastIs l.toArray ps ps.length a u → a.defers = a0.defers → a.tmps.size = a0.tmps.size → (∀ t, freeTmp l.toArray t = true → a.tmps.getD t undef = a0.tmps.getD t undef) → (∀ (i : Nat) o, l[i]? = some o → RV rv i (slotOf o.dst a) w) → Q .normal a w) :
    (Code.region id l.toArray true).wp P Q a0 w := by
  have hmono : ∀ i v w w', (fun _ _ => True : World → World → Prop) w w' → RV rv i v w → RV rv i v w' := fun i v w w' _ h => h
  have hso := SoftOk.of hok
  refine wp_region_any hm (wpAny_softA (C := fun listed a w => ∃ j u, PhaseS l.toArray ps C j u listed a w) (R := RV rv) (G := fun _ _ => True) hso hmono (fun i o ho listed a w hsz hun hdeps hc hsize hsee K hK => ?_)
    (fun listed a w hall hc h => ?_) l.toArray.size (Array.replicate l.toArray.size false) a0 w.drew ?_ ?_ ⟨by simp, rfl, rfl, fun _ _ => rfl, fun i o ho hl => ?_⟩)
  · have hil : i < listed.size := by rw [hsz]; exact (Array.getElem?_eq_some_iff.1 ho).1
    have hf : listed.getD i false = false := by simp [hil] at hun ⊢; exact hun
    have hw := owesAllS_at l 0 i o hstep (by simpa using ho)
    rw [Nat.zero_add] at hw
    unfold OwesS at hw
    obtain ⟨j, u, hp⟩ := hc
    have hdl := fun d hd => deps_listed ho hdeps d hd
    cases hi : idx ps i with
    | some j0 =>
      rw [hi] at hw
      simp only at hw
      have hj0 := idx_some hi
      have h1 := hp.at_ j0 i hj0
      rw [hf] at h1
      have hle : j ≤ j0 := by simpa using h1.symm
      have hge : j0 ≤ j := by
        cases j0 with
        | zero => omega
        | succ k =>
          have hlt : k < ps.length := by have := (List.getElem?_eq_some_iff.1 hj0).1; omega
          have h2 : ps[k]? = some ps[k] := by simp [hlt]
          have h3 := hdl _ (chainB_at hch k ps[k] i h2 hj0)
          rw [hp.at_ k _ h2] at h3
          have := of_decide_eq_true h3
          omega
      have hje : j = j0 := by omega
      subst hje
      obtain ⟨hw1, hw2⟩ := hw a w u hp.c hp.last hsee
      rw [if_pos hw1]
      refine hw2 K fun v w' hR hC' => hK v w' hR ⟨j + 1, v, (List.getElem?_eq_some_iff.1 hj0).1, hC', ?_, fun k p hk => ?_, fun k p hk hkj d hd => ?_⟩ trivial
      · show (match (ps[j]?).bind fun p => (l.toArray[p]?).bind (·.dst) with | some t => (a.put o.dst v).tmps.getD t undef = v | none => True)
        rw [hj0]
        simp only [Option.bind_some, ho]
        cases hdst : o.dst with
        | none => trivial
        | some t =>
          have h9 := slot_put_same (a := a) (d := o.dst) (v := v) (fun t' ht' => by rw [hsize]; exact hso.inn i o t' ho ht')
          rw [hdst] at h9
          simpa [slotOf] using h9
      · by_cases hpi : i = p
        · subst hpi
          rw [getD_set_same hil, nodup_at hnd hk hj0]
          simp
        · rw [getD_set_ne hpi, hp.at_ k p hk]
          have hkj : k ≠ j := fun e => hpi (by rw [e, hj0] at hk; exact Option.some.inj hk)
          simp only [decide_eq_decide]
          omega
      · by_cases hkj' : k = j
        · subst hkj'
          rw [hj0] at hk
          cases hk
          exact listed_more hil (hdl d hd)
        · exact listed_more hil (hp.dep k p hk (by omega) d hd)
    | none =>
      rw [hi] at hw
      simp only at hw
      have hni := idx_none hi
      have hb : ∀ k p, ps[k]? = some p → depOn l.toArray p i = true → j ≤ k := fun k p hk hd => by
        by_cases hkj : k < j
        · have := hp.dep k p hk hkj i hd
          rw [hf] at this
          cases this
        · omega
      obtain ⟨hw1, hw2⟩ := hw a w j u hp.c hb hsee
      rw [if_pos hw1]
      refine wp_of_val (hw2.mono fun v w' hk => hK v w' hk.1 ?_ trivial)
      obtain ⟨_, rfl⟩ := hk
      refine ⟨j, u, hp.le, hp.c, ?_, fun k p hk => ?_, fun k p hk hkj d hd => listed_more hil (hp.dep k p hk hkj d hd)⟩
      · cases j with
        | zero => trivial
        | succ j =>
          have h5 := hp.last
          unfold lastIs at h5 ⊢
          simp only at h5 ⊢
          cases hpj : ps[j]? with
          | none => trivial
          | some p =>
            rw [hpj] at h5
            simp only [Option.bind_some] at h5 ⊢
            cases hpo : l.toArray[p]? with
            | none => trivial
            | some op =>
              rw [hpo] at h5
              simp only [Option.bind_some] at h5 ⊢
              cases hpt : op.dst with
              | none => trivial
              | some t =>
                rw [hpt] at h5
                simp only at h5 ⊢
                have h9 := slot_put_other (a := a) (d := o.dst) (e := some t) (v := v) (fun t' ht' e => hni j (by rw [hpj, hso.one i p o op t' ho hpo ht' (by rw [hpt]; exact e)]))
                exact (show (a.put o.dst v).tmps.getD t undef = a.tmps.getD t undef from h9).trans h5
      · have hpi : i ≠ p := fun e => hni k (by rw [hk, e])
        rw [getD_set_ne hpi, hp.at_ k p hk]
  · obtain ⟨j, u, hp⟩ := hc
    have hje : j = ps.length := by
      by_cases hlt : j < ps.length
      · have h2 : ps[j]? = some ps[j] := by simp [hlt]
        have h3 := hp.at_ j _ h2
        rw [hall ps[j] (by simpa using hps _ (List.getElem_mem hlt))] at h3
        simp at h3
      · have := hp.le; omega
    subst hje
    refine hQ a w u hp.c hp.last h.defers h.size (fun t ht => h.outer t fun j oj' hj _ hd => ?_) fun i o ho => h.inner i o (by simpa using ho) (by have := (List.getElem?_eq_some_iff.1 ho).1; simp [this])
    unfold freeTmp at ht
    rw [List.all_eq_true] at ht
    have := ht oj' (Array.mem_toList_iff.2 (Array.mem_of_getElem? hj))
    simp [hd] at this
  · unfold open_; exact Nat.le_trans List.countP_le_length (by simp)
  · refine ⟨0, undef, Nat.zero_le _, hC, trivial, fun k p hk => ?_, fun k p _ hk => by omega⟩
    by_cases hp : p < l.length <;> simp [hp]
  · exfalso
    have hi := (Array.getElem?_eq_some_iff.1 ho).1
    rw [List.size_toArray] at hi
    simp [hi] at hl
end
end Go.Proofs.YtmijploffdoenaaDoor
/- A statement of open order in which several operations write, the last one of them a temporary that others read ahead of it (x = append(x, ..)). No premises. -/
namespace Go.Proofs.YtmijploffdoenaaDoor
open Go.RowKit
section
variable {P : Program} {ops : Array Oper} {Q : Exit → Act → World → Prop} {a0 : Act} {C : Nat → Value → World → Prop} {R : Nat → Value → World → Prop}
/-- Only the last writer writes the temporary t0. -/
def onlyB (ops : Array Oper) (ps : List Nat) (t0 : Tmp) : Bool := (List.range ops.size).all fun i => match ops[i]? with
  | some o => o.dst != some t0 || ps.getLast? == some i
  | none => true
theorem onlyB_at {ps : List Nat} {t0 : Tmp} (h : onlyB ops ps t0 = true) {i : Nat} {o : Oper} (ho : ops[i]? = some o) (hd : o.dst = some t0) : ps[ps.length - 1]? = some i := by
  unfold onlyB at h
  rw [List.all_eq_true] at h
  have := h i (List.mem_range.2 (Array.getElem?_eq_some_iff.1 ho).1)
  rw [ho] at this
  simp only [hd, bne_self_eq_false, Bool.false_or, beq_iff_eq] at this
  rw [← List.getLast?_eq_getElem?]
  exact this
def OwesQE (P : Program) (ops : Array Oper) (C : Nat → Value → World → Prop) (ps : List Nat) (R : Nat → Value → World → Prop) (a0 : Act) (t0 : Tmp) (i : Nat) (o : Oper) : Prop :=
  ∀ (a : Act) (w : World) (j : Nat) (u : Value), C j u w → (∀ k p, ps[k]? = some p → depOn ops p i = true → j ≤ k) → (j < ps.length → a.tmps.getD t0 undef = a0.tmps.getD t0 undef) → Sees ops a0 R o a w →
    Region.wanted o (yielded ops a.tmps) = true ∧ ValWp P o a.eval w fun v w' => R i (if o.dst.isSome then v else undef) w' ∧ w' = w
def OwesSE (P : Program) (ops : Array Oper) (Q : Exit → Act → World → Prop) (C : Nat → Value → World → Prop) (ps : List Nat) (R : Nat → Value → World → Prop) (a0 : Act) (t0 : Tmp) (i : Nat) (o : Oper) : Prop :=
  match idx ps i with
  | some j => OwesW P ops Q C ps R a0 i o j
  | none => OwesQE P ops C ps R a0 t0 i o
theorem OwesSE.w {ps : List Nat} {t0 : Tmp} {i j : Nat} {o : Oper} (h : idx ps i = some j) (hw : OwesW P ops Q C ps R a0 i o j) : OwesSE P ops Q C ps R a0 t0 i o := by unfold OwesSE; rw [h]; exact hw
theorem OwesSE.q {ps : List Nat} {t0 : Tmp} {i : Nat} {o : Oper} (h : idx ps i = none) (hw : OwesQE P ops C ps R a0 t0 i o) : OwesSE P ops Q C ps R a0 t0 i o := by unfold OwesSE; rw [h]; exact hw
def OwesAllSE (P : Program) (ops : Array Oper) (Q : Exit → Act → World → Prop) (C : Nat → Value → World → Prop) (ps : List Nat) (R : Nat → Value → World → Prop) (a0 : Act) (t0 : Tmp) : Nat → List Oper → Prop
  | _, [] => True
  | n, o :: l => OwesSE P ops Q C ps R a0 t0 n o ∧ OwesAllSE P ops Q C ps R a0 t0 (n + 1) l
theorem owesAllSE_at {ps : List Nat} {t0 : Tmp} : ∀ (l : List Oper) (n i : Nat) (o : Oper), OwesAllSE P ops Q C ps R a0 t0 n l → l[i]? = some o → OwesSE P ops Q C ps R a0 t0 (n + i) o
  | [], _, i, o, _, h => by simp at h
  | x :: l, n, 0, o, h, ho => by simp at ho; subst ho; exact h.1
  | x :: l, n, i + 1, o, h, ho => by
    have := owesAllSE_at l (n + 1) i o h.2 (by simpa using ho)
    rwa [show n + 1 + i = n + (i + 1) by omega] at this
/-- The region. -/
theorem wp_region_seqE {id : Nat} {w : World} {l : List Oper} (hm : P.follows .mixedOrders = true) (ps : List Nat) (C : Nat → Value → World → Prop) (rv : List (Option Value)) (hps : ∀ p ∈ ps, p < l.length) (hnd : ps.Nodup) (hch : chainB l.toArray ps = true) (hok : softB l.toArray a0.tmps.size = true) (t0 : Tmp) (hon : onlyB l.toArray ps t0 = true)
    (hC : C 0 undef w.drew) (hstep : OwesAllSE P l.toArray Q C ps (RV rv) a0 t0 0 l)
    (hQ : ∀ a w u, C ps.length u w → lastIs l.toArray ps ps.length a u → a.defers = a0.defers → a.tmps.size = a0.tmps.size → (∀ t, freeTmp l.toArray t = true → a.tmps.getD t undef = a0.tmps.getD t undef) → (∀ (i : Nat) o, l[i]? = some o → RV rv i (slotOf o.dst a) w) → Q .normal a w) :
    (Code.region id l.toArray true).wp P Q a0 w := by
  have hmono : ∀ i v w w', (fun _ _ => True : World → World → Prop) w w' → RV rv i v w → RV rv i v w' := fun i v w w' _ h => h
  have hso := SoftOk.of hok
  refine wp_region_any hm (wpAny_softA (C := fun listed a w => ∃ j u, PhaseS l.toArray ps C j u listed a w ∧ (j < ps.length → a.tmps.getD t0 undef = a0.tmps.getD t0 undef)) (R := RV rv) (G := fun _ _ => True) hso hmono (fun i o ho listed a w hsz hun hdeps hc hsize hsee K hK => ?_)
    (fun listed a w hall hc h => ?_) l.toArray.size (Array.replicate l.toArray.size false) a0 w.drew ?_ ?_ ⟨by simp, rfl, rfl, fun _ _ => rfl, fun i o ho hl => ?_⟩)
  · have hil : i < listed.size := by rw [hsz]; exact (Array.getElem?_eq_some_iff.1 ho).1
    have hf : listed.getD i false = false := by simp [hil] at hun ⊢; exact hun
    have hw := owesAllSE_at l 0 i o hstep (by simpa using ho)
    rw [Nat.zero_add] at hw
    unfold OwesSE at hw
    obtain ⟨j, u, hp, he⟩ := hc
    have hdl := fun d hd => deps_listed ho hdeps d hd
    cases hi : idx ps i with
    | some j0 =>
      rw [hi] at hw
      simp only at hw
      have hj0 := idx_some hi
      have h1 := hp.at_ j0 i hj0
      rw [hf] at h1
      have hle : j ≤ j0 := by simpa using h1.symm
      have hge : j0 ≤ j := by
        cases j0 with
        | zero => omega
        | succ k =>
          have hlt : k < ps.length := by have := (List.getElem?_eq_some_iff.1 hj0).1; omega
          have h2 : ps[k]? = some ps[k] := by simp [hlt]
          have h3 := hdl _ (chainB_at hch k ps[k] i h2 hj0)
          rw [hp.at_ k _ h2] at h3
          have := of_decide_eq_true h3
          omega
      have hje : j = j0 := by omega
      subst hje
      obtain ⟨hw1, hw2⟩ := hw a w u hp.c hp.last hsee
      rw [if_pos hw1]
      refine hw2 K fun v w' hR hC' => hK v w' hR ⟨j + 1, v, ⟨(List.getElem?_eq_some_iff.1 hj0).1, hC', ?_, fun k p hk => ?_, fun k p hk hkj d hd => ?_⟩, fun hjl => ?_⟩ trivial
      · show (match (ps[j]?).bind fun p => (l.toArray[p]?).bind (·.dst) with | some t => (a.put o.dst v).tmps.getD t undef = v | none => True)
        rw [hj0]
        simp only [Option.bind_some, ho]
        cases hdst : o.dst with
        | none => trivial
        | some t =>
          have h9 := slot_put_same (a := a) (d := o.dst) (v := v) (fun t' ht' => by rw [hsize]; exact hso.inn i o t' ho ht')
          rw [hdst] at h9
          simpa [slotOf] using h9
      · by_cases hpi : i = p
        · subst hpi
          rw [getD_set_same hil, nodup_at hnd hk hj0]
          simp
        · rw [getD_set_ne hpi, hp.at_ k p hk]
          have hkj : k ≠ j := fun e => hpi (by rw [e, hj0] at hk; exact Option.some.inj hk)
          simp only [decide_eq_decide]
          omega
      · by_cases hkj' : k = j
        · subst hkj'
          rw [hj0] at hk
          cases hk
          exact listed_more hil (hdl d hd)
        · exact listed_more hil (hp.dep k p hk (by omega) d hd)
      · rw [← he (by omega)]
        have h9 := slot_put_other (a := a) (d := o.dst) (e := some t0) (v := v) (fun t' ht' e => by
          injection e with e
          subst e
          have h8 := onlyB_at hon ho ht'
          have := nodup_at hnd hj0 h8
          omega)
        exact h9
    | none =>
      rw [hi] at hw
      simp only at hw
      have hni := idx_none hi
      have hb : ∀ k p, ps[k]? = some p → depOn l.toArray p i = true → j ≤ k := fun k p hk hd => by
        by_cases hkj : k < j
        · have := hp.dep k p hk hkj i hd
          rw [hf] at this
          cases this
        · omega
      obtain ⟨hw1, hw2⟩ := hw a w j u hp.c hb he hsee
      rw [if_pos hw1]
      refine wp_of_val (hw2.mono fun v w' hk => hK v w' hk.1 ?_ trivial)
      obtain ⟨_, rfl⟩ := hk
      refine ⟨j, u, ⟨hp.le, hp.c, ?_, fun k p hk => ?_, fun k p hk hkj d hd => listed_more hil (hp.dep k p hk hkj d hd)⟩, fun hjl => ?_⟩
      · cases j with
        | zero => trivial
        | succ j =>
          have h5 := hp.last
          unfold lastIs at h5 ⊢
          simp only at h5 ⊢
          cases hpj : ps[j]? with
          | none => trivial
          | some p =>
            rw [hpj] at h5
            simp only [Option.bind_some] at h5 ⊢
            cases hpo : l.toArray[p]? with
            | none => trivial
            | some op =>
              rw [hpo] at h5
              simp only [Option.bind_some] at h5 ⊢
              cases hpt : op.dst with
              | none => trivial
              | some t =>
                rw [hpt] at h5
                simp only at h5 ⊢
                have h9 := slot_put_other (a := a) (d := o.dst) (e := some t) (v := v) (fun t' ht' e => hni j (by rw [hpj, hso.one i p o op t' ho hpo ht' (by rw [hpt]; exact e)]))
                exact (show (a.put o.dst v).tmps.getD t undef = a.tmps.getD t undef from h9).trans h5
      · have hpi : i ≠ p := fun e => hni k (by rw [hk, e])
        rw [getD_set_ne hpi, hp.at_ k p hk]
      · rw [← he hjl]
        have h9 := slot_put_other (a := a) (d := o.dst) (e := some t0) (v := v) (fun t' ht' e => by
          injection e with e
          subst e
          exact hni _ (onlyB_at hon ho ht'))
        exact h9
  · obtain ⟨j, u, hp, he⟩ := hc
    have hje : j = ps.length := by
      by_cases hlt : j < ps.length
      · have h2 : ps[j]? = some ps[j] := by simp [hlt]
        have h3 := hp.at_ j _ h2
        rw [hall ps[j] (by simpa using hps _ (List.getElem_mem hlt))] at h3
        simp at h3
      · have := hp.le; omega
    subst hje
    refine hQ a w u hp.c hp.last h.defers h.size (fun t ht => h.outer t fun j oj' hj _ hd => ?_) fun i o ho => h.inner i o (by simpa using ho) (by have := (List.getElem?_eq_some_iff.1 ho).1; simp [this])
    unfold freeTmp at ht
    rw [List.all_eq_true] at ht
    have := ht oj' (Array.mem_toList_iff.2 (Array.mem_of_getElem? hj))
    simp [hd] at this
  · unfold open_; exact Nat.le_trans List.countP_le_length (by simp)
  · refine ⟨0, undef, ⟨Nat.zero_le _, hC, trivial, fun k p hk => ?_, fun k p _ hk => by omega⟩, fun _ => rfl⟩
    by_cases hp : p < l.length <;> simp [hp]
  · exfalso
    have hi := (Array.getElem?_eq_some_iff.1 ho).1
    rw [List.size_toArray] at hi
    simp [hi] at hl
end
end Go.Proofs.YtmijploffdoenaaDoor
