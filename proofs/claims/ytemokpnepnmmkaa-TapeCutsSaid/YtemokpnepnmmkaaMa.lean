/- Words for memory that the walks of this seat share: bytes as cells, a slice that reads as a list, an append that grows. No premises. -/
import Derived.WalkKit
import Derived.WalkLawsBesides
import Derived.Maps.AppendAt
import Derived.Lib.AppendStr
import Derived.Lib.Hide
import Derived.Deep.Draws
import Derived.Outline
import Derived.Laws.IdiomStrings
import Derived.Laws.BytesArg
import Derived.Tactics
import Derived.Test.YtemokpnepnmmkaaProg
import Derived.Lib.SmallJoins
namespace Go.Proofs.Ytemokpnepnmmkaa
open Go.RowKit
theorem ret_int {k : IntKind} {a b : Int} (h : a = b) : Ending.returned (.int k a) = .returned (.int k b) := by rw [h]
theorem int_eq {k : IntKind} {a b : Int} (h : a = b) : Value.int k a = .int k b := by rw [h]
/-- Behind a call that turns nothing that was there: each cell, and each mark, is as it was. -/
theorem bcell {W w1 : World} (hb : Below W.heap.size W w1) : (∀ b o, b < W.heap.size → w1.cell? ⟨b, o, none⟩ = W.cell? ⟨b, o, none⟩) ∧ (∀ b o, b < W.heap.size → w1.frozen? ⟨b, o, none⟩ = W.frozen? ⟨b, o, none⟩) :=
  ⟨fun b o h => hb.cell (p := ⟨b, o, none⟩) h, fun b o h => hb.frozen (p := ⟨b, o, none⟩) h⟩
/-- A number of 64 bits as a cell. -/
def nv (x : Nat) : Value := .int .u64 (x : Int)
/-- A byte as a cell. -/
def bv (c : UInt8) : Value := .int .u8 (c.toNat : Int)
theorem bv_one (l : List UInt8) : ∀ u ∈ l.map bv, u.oneCell' = true := by
  intro u hu
  obtain ⟨c, _, rfl⟩ := List.mem_map.1 hu
  rfl
theorem block_add (a : Addr) (n : Nat) : (a.add n).block = a.block := by unfold Addr.add; split <;> rfl
theorem add_add (a : Addr) (i j : Nat) : (a.add i).add j = a.add (i + j) := by
  unfold Addr.add
  by_cases hi : i = 0 <;> by_cases hj : j = 0 <;> simp [hi, hj, Nat.add_assoc]
theorem add_lit0 (g j : Nat) : (⟨g, 0, none⟩ : Addr).add j = ⟨g, j, none⟩ := by unfold Addr.add; split <;> simp_all

/-- A slice of elements of one cell that reads as xs, nil let in; its cells lie below block B. -/
def Rd (w : World) (B : Nat) (A : Option Addr) (n : Nat) (xs : List Value) : Prop :=
  xs.length = n ∧ (0 < n → ∃ ad, A = some ad ∧ ad.block < B ∧ ∀ (j : Nat) (u : Value), xs[j]? = some u → w.cell? (ad.add j) = some u)
section
variable {w w' : World} {B B' n : Nat} {A : Option Addr} {xs : List Value}
theorem Rd.nil_ : Rd w B A 0 [] := ⟨rfl, fun h => absurd h (by omega)⟩
theorem Rd.at_ {k : Nat} (h : Rd w B A n xs) (hk : k < n) : ∃ ad u, A = some ad ∧ ad.block < B ∧ xs[k]? = some u ∧ w.cell? (ad.add k) = some u := by
  obtain ⟨ad, e, hb, hc⟩ := h.2 (by omega)
  have hl : k < xs.length := by have := h.1; omega
  exact ⟨ad, xs[k], e, hb, List.getElem?_eq_getElem hl, hc k _ (List.getElem?_eq_getElem hl)⟩
theorem Rd.keep (h : Rd w B A n xs) (hk : ∀ p : Addr, p.block < B → w'.cell? p = w.cell? p) : Rd w' B A n xs :=
  ⟨h.1, fun hn => by
    obtain ⟨ad, e, hb, hc⟩ := h.2 hn
    exact ⟨ad, e, hb, fun j u hu => (hk _ (by rw [block_add]; exact hb)).trans (hc j u hu)⟩⟩
theorem Rd.below (h : Rd w B A n xs) (hb : Below B w w') : Rd w' B A n xs := h.keep fun _ hp => hb.cell hp
theorem Rd.more (h : Rd w B A n xs) (hB : B ≤ B') : Rd w B' A n xs :=
  ⟨h.1, fun hn => by
    obtain ⟨ad, e, hb, hc⟩ := h.2 hn
    exact ⟨ad, e, by omega, hc⟩⟩
theorem Rd.cut (h : Rd w B A n xs) {k cap : Nat} (hk : k ≤ n) (hc : n ≤ cap) :
    Rd w B (if cap = k then A else A.map (·.add k)) (n - k) (xs.drop k) := by
  refine ⟨by rw [List.length_drop, h.1], fun hn => ?_⟩
  obtain ⟨ad, rfl, hb, hcell⟩ := h.2 (by omega)
  rw [if_neg (by omega)]
  refine ⟨ad.add k, rfl, by rw [block_add]; exact hb, fun j u hu => ?_⟩
  rw [add_add]
  exact hcell _ u (by rw [← hu, List.getElem?_drop])
theorem Rd.take_ (h : Rd w B A n xs) {k : Nat} (hk : k ≤ n) : Rd w B A k (xs.take k) := by
  refine ⟨by rw [List.length_take, h.1]; omega, fun hn => ?_⟩
  obtain ⟨ad, rfl, hb, hcell⟩ := h.2 (by omega)
  refine ⟨ad, rfl, hb, fun j u hu => hcell j u ?_⟩
  rw [List.getElem?_take] at hu
  split at hu
  · exact hu
  · cases hu
theorem Rd.lit (w : World) (e : TypeId) (cs : List Value) : Rd (w.alloc (.cells cs.toArray e)) (w.heap.size + 1) (some ⟨w.heap.size, 0, none⟩) cs.length cs :=
  ⟨rfl, fun _ => ⟨_, rfl, Nat.lt_succ_self _, fun j u hu => by
    rw [add_lit0, cell_of_row _ _ j cs.toArray e (0, 0) (heap_alloc_new w _)]
    simpa using hu⟩⟩
theorem Rd.of_own {base : Nat} {e : TypeId} {c : Nat} (h : w.ownsRow base e 1 (.slice A n c) n xs) : Rd w w.heap.size A n xs := by
  refine ⟨by simpa using h.1, fun hn => ?_⟩
  rcases h.2 with ⟨_, h0⟩ | ⟨g, cap, cur, hv, _, hh, _⟩
  · omega
  · injection hv with hA
    subst hA
    refine ⟨_, rfl, (Array.getElem?_eq_some_iff.1 hh).1, h.cells (g := g) rfl⟩
/-- The element at k. -/
theorem Rd.at_map {α : Type} {f : α → Value} {l : List α} {k : Nat} (h : Rd w B A n (l.map f)) (hk : k < n) : ∃ (ad : Addr) (hl : k < l.length), A = some ad ∧ ad.block < B ∧ w.cell? (ad.add k) = some (f l[k]) := by
  obtain ⟨ad, u, e, hb, hx, hc⟩ := h.at_ hk
  have hl : k < l.length := by have := h.1; simp at this; omega
  rw [List.getElem?_map, List.getElem?_eq_getElem hl] at hx
  simp at hx
  subst hx
  exact ⟨ad, hl, e, hb, hc⟩
theorem Rd.len_map {α : Type} {f : α → Value} {l : List α} (h : Rd w B A n (l.map f)) : l.length = n := by have := h.1; simpa using this
/-- The byte at k of a slice of bytes. -/
theorem Rd.byte {bs : List UInt8} {k : Nat} (h : Rd w B A n (bs.map bv)) (hk : k < n) : ∃ (ad : Addr) (hl : k < bs.length), A = some ad ∧ ad.block < B ∧ w.cell? (ad.add k) = some (bv bs[k]) := by
  obtain ⟨ad, u, e, hb, hx, hc⟩ := h.at_ hk
  have hl : k < bs.length := by have := h.1; simp at this; omega
  rw [List.getElem?_map, List.getElem?_eq_getElem hl] at hx
  simp at hx
  subst hx
  exact ⟨ad, hl, e, hb, hc⟩
theorem Rd.len {bs : List UInt8} (h : Rd w B A n (bs.map bv)) : bs.length = n := by have := h.1; simpa using this
end
/-- A text of bytes. -/
def mkS (l : List UInt8) : ByteArray := ⟨l.toArray⟩
theorem mkS_size (l : List UInt8) : (mkS l).size = l.length := by simp [mkS, ByteArray.size]
theorem mkS_list (l : List UInt8) : (mkS l).data.toList = l := by simp [mkS]
theorem mkS_of (s : ByteArray) : mkS s.data.toList = s := by simp [mkS]
theorem mkS_add (a b : List UInt8) : mkS a ++ mkS b = mkS (a ++ b) := ByteArray.mk_append_mk a b
/-- string(b) of bytes that read as bs. -/
theorem run_str_of {P : Program} {w : World} {B n : Nat} {A : Option Addr} {bs : List UInt8} (h : Rd w B A n (bs.map bv)) (src dst e : TypeId) (hs : P.underlying src = some (.slice e)) (he : P.underlying e = some (.int .u8)) (hd : P.underlying dst = some .string) (cap : Nat) :
    (convert src dst (.slice A n cap)).run P w = .ok (.string (mkS bs)) w := by
  have hl := h.len
  subst hl
  rcases A with _ | ad
  · have h0 : bs = [] := by
      rcases Nat.eq_zero_or_pos bs.length with h0 | h0
      · exact List.eq_nil_of_length_eq_zero h0
      · obtain ⟨ad, h, _⟩ := h.2 h0
        cases h
    subst h0
    exact run_convert_bytes_nil w src e hs he _ cap dst hd
  · refine run_convert_bytes_back w src dst e ad cap bs hs he hd fun j hj => ?_
    obtain ⟨ad', h1, _, h3⟩ := h.2 (by omega)
    injection h1 with h1
    subst h1
    exact h3 j _ (by rw [List.getElem?_map, List.getElem?_eq_getElem hj]; rfl)
/-- Where a slice of the call's own lies behind an append: where it lay, or in a new block. -/
def Moved (w : World) (v v' : Value) : Prop := v'.ownBlock = v.ownBlock ∨ ∃ k, v'.ownBlock = some k ∧ w.heap.size ≤ k
/-- v, that the call owns, has become v', that owns xs; nothing else that was there has turned. -/
structure Grew (w w' : World) (base : Nat) (e : TypeId) (v v' : Value) (xs : List Value) : Prop where
  own : w'.ownsRow base e 1 v' xs.length xs
  grown : w.grownBy w' v.ownBlock
  moved : Moved w v v'
section
variable {w w1 w2 : World} {base : Nat} {e : TypeId} {v v1 v2 : Value} {xs ys zs : List Value}
theorem Grew.refl (h : w.ownsRow base e 1 v xs.length xs) : Grew w w base e v v xs := ⟨h, World.grownBy.refl w _, .inl rfl⟩
theorem Grew.nil (w : World) (base : Nat) (e : TypeId) : Grew w w base e (.slice none 0 0) (.slice none 0 0) [] := Grew.refl (World.ownsRow_nil w base e 1)
theorem Grew.trans (h : Grew w w1 base e v v1 ys) (k : Grew w1 w2 base e v1 v2 zs) : Grew w w2 base e v v2 zs := by
  refine ⟨k.own, ⟨k.grown.os.trans h.grown.os, k.grown.tape.trans h.grown.tape, k.grown.output.trans h.grown.output, Nat.le_trans h.grown.size k.grown.size, fun i hi hne => ?_⟩, ?_⟩
  · refine (k.grown.block i (Nat.lt_of_lt_of_le hi h.grown.size) ?_).trans (h.grown.block i hi hne)
    rcases h.moved with e1 | ⟨j, e1, hj⟩
    · rw [e1]; exact hne
    · rw [e1]; intro e2; injection e2 with e2; omega
  · rcases k.moved with e1 | ⟨j, e1, hj⟩
    · rw [Moved, e1]; exact h.moved
    · exact .inr ⟨j, e1, Nat.le_trans h.grown.size hj⟩
theorem Grew.below (h : Grew w w1 base e v v1 ys) (hown : w.ownsRow base e 1 v xs.length xs) (hb : base ≤ w.heap.size) : Below base w w1 :=
  (Below.refl base w).grown h.grown hb fun k hk => (hown.lt k hk).1
theorem Grew.belowNil {c : Nat} (h : Grew w w1 base e (.slice none 0 c) v1 ys) : Below w.heap.size w w1 :=
  (Below.refl _ w).grown h.grown (Nat.le_refl _) fun k hk => by simp [Value.ownBlock] at hk
theorem Grew.alloc (h : Grew w w1 base e v v1 ys) (o : Obj) : Grew w (w1.alloc o) base e v v1 ys :=
  h.trans ⟨h.own.alloc o, World.grownBy_alloc _ _ _, .inl rfl⟩
end
/-- A cell that was there reads as it did. -/
theorem cell_keeps {w w' : World} {p : Addr} {v : Value} (hb : Below w.heap.size w w') (h : w.cell? p = some v) : w'.cell? p = some v := (hb.cell (World.block_lt_of_cell? w p h)).trans h
/-- What the call owns stays owned where nothing that was there turns. -/
theorem own_below {w w' : World} {base size n : Nat} {e : TypeId} {v : Value} {xs : List Value} (h : w.ownsRow base e size v n xs) (hb : Below w.heap.size w w') : w'.ownsRow base e size v n xs :=
  h.kept (row := none) ⟨hb.os, hb.tape, hb.output, hb.size, fun k hk _ => hb.block k hk⟩ (by cases hv : v.ownBlock <;> simp)
theorem Grew.then_ {w w1 w2 : World} {base : Nat} {e : TypeId} {v v1 : Value} {ys : List Value} (h : Grew w w1 base e v v1 ys) (hb : Below w1.heap.size w1 w2) : Grew w w2 base e v v1 ys :=
  h.trans ⟨own_below h.own hb, ⟨hb.os, hb.tape, hb.output, hb.size, fun k hk _ => hb.block k hk⟩, .inl rfl⟩
theorem below_of_grown {w w' : World} {row : Option Nat} {B : Nat} (hg : w.grownBy w' row) (hB : B ≤ w.heap.size) (hr : ∀ k, row = some k → B ≤ k) : Below B w w' := (Below.refl B w).grown hg hB hr
section
variable {P : Program} {ops : Array Oper} {rest : List Oper} {o : Oper} {a : Act} {Q : Exit → Act → World → Prop}
/-- append(v, xs...), v the call's own, xs nil or not. -/
theorem run_appN (w : World) (base : Nat) (t ty e : TypeId) (i : TypeInfo) (z : Value) (bytes : Nat) (ht : P.underlying t = some (.slice e)) (hi : P.info? e = some i) (hz : i.zero = some z)
    (hsize : i.size = 1) (hby : i.bytes = bytes) (hzs : z.cells.size = 1) (v : Value) (xs : List Value) (hown : w.ownsRow base e 1 v xs.length xs)
    (B : Nat) (A : Option Addr) (m c : Nat) (news : List Value) (hr : Rd w B A m news) (h1 : ∀ u ∈ news, u.oneCell' = true)
    (hbytes : (xs.length + m) * bytes ≤ 140737488355328) (hlen : xs.length + m ≤ 140737488355328) (hbase : base ≤ w.heap.size) :
    ∃ v' w', (Builtin.append_ #[t, t] ty #[v, .slice A m c]).run P w = .ok v' w' ∧ Grew w w' base e v v' (xs ++ news) := by
  have hl : (xs ++ news).length = xs.length + m := by rw [List.length_append, hr.1]
  rcases A with _ | ad
  · have hm : m = 0 := by
      rcases Nat.eq_zero_or_pos m with h0 | h0
      · exact h0
      · obtain ⟨ad, h, _⟩ := hr.2 h0
        cases h
    subst hm
    have hn : news = [] := List.eq_nil_of_length_eq_zero hr.1
    subst hn
    refine ⟨v, w, ?_, by simpa using Grew.refl hown⟩
    rcases hown.2 with ⟨rfl, _⟩ | ⟨g, cap, cur, rfl, _, _, hnc, _⟩
    · simp [Builtin.append_, run_underlying ht, sizeOf, typeInfo, hi, Builtin.lenOf, Builtin.firstCells]
    · simp [Builtin.append_, run_underlying ht, sizeOf, typeInfo, hi, Builtin.lenOf, Builtin.firstCells, hnc, storeCells]
  · have hcells : ∀ j u, news[j]? = some u → w.cell? (ad.add j) = some u := by
      intro j u hu
      rcases Nat.eq_zero_or_pos m with h0 | h0
      · subst h0
        have hn : news = [] := List.eq_nil_of_length_eq_zero hr.1
        subst hn
        simp at hu
      · obtain ⟨ad', h, _, hc⟩ := hr.2 h0
        injection h with h
        subst h
        exact hc j u hu
    obtain ⟨v', w', hrun, h2, h3, _, h5⟩ := run_append_own_at (P := P) w base t ty e i z 1 bytes ht hi hz hsize hby hzs (by omega) v xs.length xs hown ad m c news (by rw [hr.1]; omega) hcells h1 (by unfold maxLen; omega) hbytes hbase
    refine ⟨v', w', hrun, by rw [hl]; exact h2, h3, ?_⟩
    rcases h5 with h5 | h5
    · exact .inl h5
    · exact .inr ⟨_, h5, Nat.le_refl _⟩
theorem wpList_appN (w : World) (hgd : o.guard = none) (s x : Operand) (t : TypeId)
    (ho : o.op = .call { callee := .builtin .append, args := #[s, x], argTypes := #[t, t] })
    (base : Nat) (e : TypeId) (i : TypeInfo) (z : Value) (bytes : Nat) (ht : P.underlying t = some (.slice e)) (hi : P.info? e = some i) (hz : i.zero = some z)
    (hsize : i.size = 1) (hby : i.bytes = bytes) (hzs : z.cells.size = 1)
    (v : Value) (xs : List Value) (hs : a.eval s = v) (hown : w.ownsRow base e 1 v xs.length xs)
    (B : Nat) (A : Option Addr) (m c : Nat) (news : List Value) (hx : a.eval x = .slice A m c) (hr : Rd w B A m news) (h1 : ∀ u ∈ news, u.oneCell' = true)
    (hbytes : (xs.length + m) * bytes ≤ 140737488355328) (hlen : xs.length + m ≤ 140737488355328) (hbase : base ≤ w.heap.size)
    (h : ∀ v' w', Grew w w' base e v v' (xs ++ news) → wpList P ops Q rest (a.put o.dst v') w') : wpList P ops Q (o :: rest) a w := by
  refine wpList_plain hgd fun K hK => ?_
  obtain ⟨v', w', hrun, hg⟩ := run_appN (P := P) w base t o.type e i z bytes ht hi hz hsize hby hzs v xs hown B A m c news hr h1 hbytes hlen hbase
  unfold Oper.wp execOp
  simp only [ho, resolve, invoke, builtin, Sem.run_bind, Sem.run_pure, Result.andThen_ok, List.map_toArray, List.map_cons, List.map_nil, hs, hx, hrun]
  exact hK _ _ (h v' w' hg)
/-- append(v, u), v the call's own: u stands in a new block of its own. -/
theorem wpList_app1 (w : World) (u : Value) (hgd : o.guard = none) (s x : Operand) (t : TypeId)
    (ho : o.op = .call { callee := .builtin .append, args := #[s, x], argTypes := #[t, t] })
    (base : Nat) (e : TypeId) (i : TypeInfo) (z : Value) (bytes : Nat) (ht : P.underlying t = some (.slice e)) (hi : P.info? e = some i) (hz : i.zero = some z)
    (hsize : i.size = 1) (hby : i.bytes = bytes) (hzs : z.cells.size = 1) (h1 : u.oneCell' = true)
    (v : Value) (xs : List Value) (hs : a.eval s = v) (hown : w.ownsRow base e 1 v xs.length xs) (hx : a.eval x = .slice (some ⟨w.heap.size, 0, none⟩) 1 1)
    (hbytes : (xs.length + 1) * bytes ≤ 140737488355328) (hlen : xs.length + 1 ≤ 140737488355328) (hbase : base ≤ w.heap.size)
    (h : ∀ v' w', Grew w w' base e v v' (xs ++ [u]) → wpList P ops Q rest (a.put o.dst v') w') : wpList P ops Q (o :: rest) a (w.alloc (.cells #[u] e)) :=
  wpList_appN (w.alloc (.cells #[u] e)) hgd s x t ho base e i z bytes ht hi hz hsize hby hzs v xs hs (hown.alloc _) (w.heap.size + 1) (some ⟨w.heap.size, 0, none⟩) 1 1 [u] hx
    ⟨rfl, fun _ => ⟨_, rfl, Nat.lt_succ_self _, fun j y hy => by
      match j, hy with
      | 0, hy => simp at hy; subst hy; simp [Addr.add]⟩⟩ (by intro y hy; simp at hy; subst hy; exact h1) hbytes hlen (by simp; omega)
    fun v' w' hg => h v' w' (((Grew.refl hown).alloc _).trans hg)
theorem strCells_eq (s : ByteArray) : Lib.strCells s = s.data.toList.map bv := rfl
theorem run_appS (w : World) (base : Nat) (t u ty e : TypeId) (i : TypeInfo) (ht : P.underlying t = some (.slice e)) (hu : P.underlying u = some .string) (hi : P.info? e = some i) (hz : i.zero = some (.int .u8 0))
    (hsize : i.size = 1) (hby : i.bytes = 1) (v : Value) (xs : List Value) (hown : w.ownsRow base e 1 v xs.length xs) (s : ByteArray)
    (hlen : xs.length + s.size ≤ 140737488355328) (hbase : base ≤ w.heap.size) :
    ∃ v' w', (Builtin.append_ #[t, u] ty #[v, .string s]).run P w = .ok v' w' ∧ Grew w w' base e v v' (xs ++ s.data.toList.map bv) := by
  have hl : (xs ++ s.data.toList.map bv).length = xs.length + s.size := by rw [← strCells_eq, List.length_append, Lib.strCells_length]
  rcases hown.2 with ⟨rfl, h0⟩ | ⟨g, cap, cur, rfl, hbg, hg, hnc, hcm, hcs, htake⟩
  · have hx : xs = [] := List.eq_nil_of_length_eq_zero h0
    subst hx
    obtain ⟨v', w', hr, h2, h3, _⟩ := Lib.run_append_own_string (P := P) w w.heap.size t u ty e i ht hu hi hz hsize hby (.slice none 0 0) 0 [] (World.ownsRow_nil w _ e 1) s (by unfold maxLen; simp at hlen; omega) (by simpa using hlen) (Nat.le_refl _)
    obtain ⟨v2, w2, hr2, h22, _, _⟩ := Lib.run_append_own_string (P := P) w base t u ty e i ht hu hi hz hsize hby (.slice none 0 0) 0 [] (World.ownsRow_nil w _ e 1) s (by unfold maxLen; simp at hlen; omega) (by simpa using hlen) hbase
    have he := hr.symm.trans hr2
    injection he with e1 e2
    subst e1 e2
    rw [strCells_eq] at h22
    refine ⟨v', w', hr, by rw [hl]; simpa using h22, h3, ?_⟩
    rcases hv : v'.ownBlock with _ | k
    · exact .inl hv
    · exact .inr ⟨k, hv, (h2.lt k hv).1⟩
  · obtain ⟨v', w', hr, h2, h3, _⟩ := Lib.run_append_own_string (P := P) w base t u ty e i ht hu hi hz hsize hby _ _ xs hown s (by unfold maxLen; omega) hlen hbase
    refine ⟨v', w', hr, by rw [hl, ← strCells_eq]; exact h2, h3, ?_⟩
    by_cases hroom : xs.length + s.size ≤ cap
    · have hr2 := Lib.run_append_room_string (P := P) w t u ty e i ht hu hi hsize g xs.length cap cur hg s hroom (by omega)
      have he := hr.symm.trans hr2
      injection he with e1 _
      exact .inl (by rw [e1]; rfl)
    · have holds : ∀ j u, xs[j]? = some u → w.cell? ((⟨g, 0, none⟩ : Addr).add j) = some u := hown.cells (g := g) rfl
      have hr2 := Lib.run_append_grow_string (P := P) w t u ty e i (.int .u8 0) ht hu hi hz ⟨g, 0, none⟩ xs.length cap xs (by rw [hsize]; simp) holds s (by omega) (by omega) (by rw [hby]; exact growslice_fits (by omega) (by omega))
      have he := hr.symm.trans hr2
      injection he with e1 _
      exact .inr ⟨w.heap.size, by rw [e1]; rfl, Nat.le_refl _⟩
/-- append(v, s...), v the call's own bytes, s a string. -/
theorem wpList_appS (w : World) (hgd : o.guard = none) (so xo : Operand) (t u : TypeId)
    (ho : o.op = .call { callee := .builtin .append, args := #[so, xo], argTypes := #[t, u] })
    (base : Nat) (e : TypeId) (i : TypeInfo) (ht : P.underlying t = some (.slice e)) (hu : P.underlying u = some .string) (hi : P.info? e = some i) (hz : i.zero = some (.int .u8 0))
    (hsize : i.size = 1) (hby : i.bytes = 1)
    (v : Value) (xs : List Value) (hs : a.eval so = v) (hown : w.ownsRow base e 1 v xs.length xs) (s : ByteArray) (hx : a.eval xo = .string s)
    (hlen : xs.length + s.size ≤ 140737488355328) (hbase : base ≤ w.heap.size)
    (h : ∀ v' w', Grew w w' base e v v' (xs ++ s.data.toList.map bv) → wpList P ops Q rest (a.put o.dst v') w') : wpList P ops Q (o :: rest) a w := by
  refine wpList_plain hgd fun K hK => ?_
  obtain ⟨v', w', hrun, hg⟩ := run_appS (P := P) w base t u o.type e i ht hu hi hz hsize hby v xs hown s hlen hbase
  unfold Oper.wp execOp
  simp only [ho, resolve, invoke, builtin, Sem.run_bind, Sem.run_pure, Result.andThen_ok, List.map_toArray, List.map_cons, List.map_nil, hs, hx, hrun]
  exact hK _ _ (h v' w' hg)
end
end Go.Proofs.Ytemokpnepnmmkaa
/- Numbers as bytes, as plain mathematics: a number's bytes, what bytes begin with, what a reader tells. No premises. -/
namespace Go.Proofs.Ytemokpnepnmmkaa
/-- A number's bytes. -/
def numL (x : Nat) : List UInt8 := if x < 128 then [UInt8.ofNat x] else UInt8.ofNat (x % 128 + 128) :: numL (x / 128)
termination_by x
decreasing_by omega
/-- How many bytes at the beginning go on, so many at most. -/
def headsN : Nat → List UInt8 → Nat
  | 0, _ => 0
  | _ + 1, [] => 0
  | n + 1, c :: r => if 128 ≤ c.toNat then headsN n r + 1 else 0
/-- How many bytes at the beginning go on, ten at most. -/
def heads (b : List UInt8) : Nat := headsN 10 b
/-- The number of a row of sevens of bits. -/
def val : List UInt8 → Nat
  | [] => 0
  | c :: r => c.toNat % 128 + 128 * val r
/-- What bytes begin with: the number, how many bytes, the error. -/
def takeM (b : List UInt8) : Nat × Nat × Nat :=
  if heads b = 10 then (0, 0, 11) else if heads b = b.length then (0, 0, 10)
  else if (0 < heads b ∧ (b.getD (heads b) 0).toNat = 0) ∨ (heads b = 9 ∧ 1 < (b.getD (heads b) 0).toNat) then (0, 0, 11)
  else (val (b.take (heads b + 1)), heads b + 1, 0)

theorem numL_lt {x : Nat} (h : x < 128) : numL x = [UInt8.ofNat x] := by rw [numL, if_pos h]
theorem numL_ge {x : Nat} (h : 128 ≤ x) : numL x = UInt8.ofNat (x % 128 + 128) :: numL (x / 128) := by rw [numL, if_neg (by omega)]
theorem numL_ne (x : Nat) : 1 ≤ (numL x).length := by
  rw [numL]; split <;> simp
theorem numL_le : ∀ (k x : Nat), x < 128 ^ k → 0 < k → (numL x).length ≤ k := by
  intro k
  induction k with
  | zero => intro x _ h; omega
  | succ k ih =>
    intro x hx _
    by_cases h : x < 128
    · rw [numL_lt h]; simp
    · rw [numL_ge (by omega)]
      have : (numL (x / 128)).length ≤ k := by
        apply ih
        · rw [Nat.pow_succ] at hx; omega
        · rcases Nat.eq_zero_or_pos k with rfl | hk
          · simp at hx; omega
          · exact hk
      simp; omega
theorem numL_ten {x : Nat} (h : x < 18446744073709551616) : (numL x).length ≤ 10 := numL_le 10 x (by omega) (by omega)

theorem headsN_le : ∀ (n : Nat) (b : List UInt8), headsN n b ≤ n ∧ headsN n b ≤ b.length := by
  intro n
  induction n with
  | zero => intro b; simp [headsN]
  | succ n ih =>
    intro b
    cases b with
    | nil => simp [headsN]
    | cons c r => have := ih r; simp only [headsN, List.length_cons]; split <;> omega
theorem heads_le (b : List UInt8) : heads b ≤ 10 ∧ heads b ≤ b.length := headsN_le 10 b
theorem headsN_at : ∀ (n : Nat) (b : List UInt8) (k : Nat) (hk : k < b.length), k < n → k ≤ headsN n b →
    (128 ≤ b[k].toNat → k + 1 ≤ headsN n b) ∧ (b[k].toNat < 128 → headsN n b = k) := by
  intro n
  induction n with
  | zero => intro b k _ h; omega
  | succ n ih =>
    intro b k hk hn hle
    cases b with
    | nil => simp at hk
    | cons c r =>
      simp only [headsN] at hle ⊢
      cases k with
      | zero => simp only [List.getElem_cons_zero]; constructor <;> intro h <;> split <;> omega
      | succ k =>
        simp only [List.getElem_cons_succ]
        by_cases hc : 128 ≤ c.toNat
        · simp only [hc, if_true] at hle ⊢
          have := ih r k (by simpa using hk) (by omega) (by omega)
          exact ⟨fun h => by have := this.1 h; omega, fun h => by have := this.2 h; omega⟩
        · simp [hc] at hle
theorem heads_at (b : List UInt8) (k : Nat) (hk : k < b.length) (h10 : k < 10) (hle : k ≤ heads b) :
    (128 ≤ b[k].toNat → k + 1 ≤ heads b) ∧ (b[k].toNat < 128 → heads b = k) := headsN_at 10 b k hk h10 hle
theorem headsN_append : ∀ (n : Nat) (a b : List UInt8), headsN n a < a.length ∨ headsN n a = n → headsN n (a ++ b) = headsN n a := by
  intro n
  induction n with
  | zero => intro a b _; simp [headsN]
  | succ n ih =>
    intro a b h
    cases a with
    | nil => simp [headsN] at h
    | cons c r =>
      simp only [headsN, List.cons_append, List.length_cons] at h ⊢
      by_cases hc : 128 ≤ c.toNat
      · simp only [hc, if_true] at h ⊢
        rw [ih r b (by omega)]
      · simp [hc]
theorem head_at (b : List UInt8) (k : Nat) (hk : k < heads b) : ∃ h : k < b.length, 128 ≤ b[k].toNat := by
  have hl := heads_le b
  refine ⟨by omega, ?_⟩
  by_cases h : 128 ≤ b[k].toNat
  · exact h
  · have := (heads_at b k (by omega) (by omega) (by omega)).2 (by omega); omega

theorem val_append (a b : List UInt8) : val (a ++ b) = val a + 128 ^ a.length * val b := by
  induction a with
  | nil => simp [val]
  | cons c a ih => simp only [List.cons_append, val, ih, List.length_cons, Nat.pow_succ]; rw [Nat.mul_add, ← Nat.mul_assoc, Nat.mul_comm 128 (128 ^ a.length), Nat.add_assoc]
theorem val_lt (a : List UInt8) : val a < 128 ^ a.length := by
  induction a with
  | nil => simp [val]
  | cons c a ih => simp only [val, List.length_cons, Nat.pow_succ]; omega
theorem val_snoc (b : List UInt8) (k : Nat) (h : k < b.length) : val (b.take (k + 1)) = val (b.take k) + 128 ^ k * (b[k].toNat % 128) := by
  rw [List.take_succ_eq_append_getElem h, val_append]
  simp [val, Nat.min_eq_left (Nat.le_of_lt h)]
theorem val_cons_drop (b : List UInt8) (i m : Nat) (h : i < b.length) : val ((b.drop i).take (m + 1)) = b[i].toNat % 128 + 128 * val ((b.drop (i + 1)).take m) := by
  rw [List.drop_eq_getElem_cons h, List.take_succ_cons]; rfl

theorem byte_of {n : Nat} (h : n < 256) : (UInt8.ofNat n).toNat = n := by simp; omega
theorem val_numL (x : Nat) : val (numL x) = x := by
  induction x using Nat.strongRecOn with
  | _ x ih =>
    by_cases h : x < 128
    · rw [numL_lt h]; simp only [val]; rw [byte_of (by omega)]; omega
    · rw [numL_ge (by omega)]; simp only [val]; rw [ih (x / 128) (by omega), byte_of (by omega)]; omega
/-- All bytes of a number but the last one go on. -/
theorem headsN_numL : ∀ (n x : Nat), (numL x).length ≤ n → headsN n (numL x) = (numL x).length - 1 := by
  intro n
  induction n with
  | zero => intro x h; have := numL_ne x; omega
  | succ n ih =>
    intro x h
    by_cases hx : x < 128
    · rw [numL_lt hx]; simp only [headsN]; rw [byte_of (by omega)]; simp; omega
    · rw [numL_ge (by omega)] at h ⊢
      have hn := numL_ne (x / 128)
      simp only [headsN, List.length_cons] at h ⊢
      rw [byte_of (by omega), if_pos (by omega), ih _ (by omega)]; omega
theorem numL_last : ∀ (x : Nat), ((numL x).getD ((numL x).length - 1) 0).toNat < 128 ∧ (1 < (numL x).length → ((numL x).getD ((numL x).length - 1) 0).toNat ≠ 0) := by
  intro x
  induction x using Nat.strongRecOn with
  | _ x ih =>
    by_cases h : x < 128
    · rw [numL_lt h]; simp; omega
    · rw [numL_ge (by omega)]
      have hn := numL_ne (x / 128)
      have e : (UInt8.ofNat (x % 128 + 128) :: numL (x / 128)).length - 1 = ((numL (x / 128)).length - 1) + 1 := by simp; omega
      rw [e, List.getD_cons_succ]
      have := ih (x / 128) (by omega)
      refine ⟨this.1, fun _ => ?_⟩
      by_cases h1 : 1 < (numL (x / 128)).length
      · exact this.2 h1
      · have hl : (numL (x / 128)).length = 1 := by omega
        by_cases h2 : x / 128 < 128
        · rw [numL_lt h2]; simp only [List.length_singleton]; rw [List.getD_cons_zero, byte_of (by omega)]; omega
        · rw [numL_ge (by omega)] at hl; have := numL_ne (x / 128 / 128); simp only [List.length_cons] at hl; omega
theorem getD_append_left (a b : List UInt8) (k : Nat) (h : k < a.length) : (a ++ b).getD k 0 = a.getD k 0 := by
  simp [List.getD, List.getElem?_append_left h]
theorem numL_tenth {x : Nat} (h : x < 18446744073709551616) (h10 : (numL x).length = 10) : ((numL x).getD 9 0).toNat ≤ 1 := by
  have hv := val_numL x
  have hs := val_snoc (numL x) 9 (by omega)
  rw [List.take_of_length_le (by omega), hv] at hs
  have hl := (numL_last x).1
  rw [h10, show 10 - 1 = 9 from rfl] at hl
  have e : (numL x).getD 9 0 = (numL x)[9]'(by omega) := by simp [List.getD, List.getElem?_eq_getElem (show 9 < (numL x).length by omega)]
  rw [e] at hl ⊢
  omega
/-- What was put is taken, whatever stands behind. -/
theorem takeM_numL {x : Nat} (h : x < 18446744073709551616) (r : List UInt8) : takeM (numL x ++ r) = (x, (numL x).length, 0) := by
  have h10 := numL_ten h
  have h1 := numL_ne x
  have hh : heads (numL x ++ r) = (numL x).length - 1 := by
    have e := headsN_numL 10 x h10
    unfold heads
    rw [headsN_append _ _ _ (by omega), e]
  have hl := numL_last x
  unfold takeM
  rw [hh, getD_append_left _ _ _ (by omega), if_neg (by omega), if_neg (by simp; omega), if_neg, List.take_append_of_le_length (by omega), List.take_of_length_le (by omega), val_numL,
    show (numL x).length - 1 + 1 = (numL x).length by omega]
  rintro (⟨a, b⟩ | ⟨a, b⟩)
  · exact hl.2 (by omega) b
  · have := numL_tenth h (by omega)
    rw [a] at b; omega
/-- Bytes that go on, but for the last one, which isn't 0 unless it is alone, are those of their number. -/
theorem numL_val : ∀ (b : List UInt8), b ≠ [] → headsN b.length b = b.length - 1 → (1 < b.length → (b.getD (b.length - 1) 0).toNat ≠ 0) → numL (val b) = b := by
  intro b
  induction b with
  | nil => intro h; exact absurd rfl h
  | cons c r ih =>
    intro _ hh hz
    simp only [headsN, List.length_cons] at hh
    have hc := c.toNat_lt
    cases r with
    | nil =>
      simp [headsN] at hh
      simp only [val]
      rw [show c.toNat % 128 + 128 * 0 = c.toNat by omega, numL_lt (by omega)]; simp
    | cons d r =>
      simp only [List.length_cons] at hh hz ih
      by_cases hc' : 128 ≤ c.toNat
      · rw [if_pos hc'] at hh
        have hz' := hz (by omega)
        rw [show r.length + 1 + 1 - 1 = r.length + 1 by omega, List.getD_cons_succ] at hz'
        have h1 := ih (by simp) (by omega) (fun _ => by rw [show r.length + 1 - 1 = r.length by omega]; exact hz')
        have hv : 128 ≤ val (c :: d :: r) := by
          rcases Nat.lt_or_ge 0 (val (d :: r)) with hp | hp
          · simp only [val] at hp ⊢; omega
          · exfalso
            have : val (d :: r) = 0 := by omega
            rw [this, numL_lt (by omega)] at h1
            cases r with
            | nil => simp only [List.length_nil, List.getD_cons_zero] at hz'; simp at h1; rw [← h1] at hz'; simp at hz'
            | cons => simp at h1
        rw [numL_ge hv]
        have e1 : val (c :: d :: r) / 128 = val (d :: r) := by rw [val]; omega
        have e2 : val (c :: d :: r) % 128 = c.toNat % 128 := by rw [val]; omega
        rw [e1, e2, h1, show c.toNat % 128 + 128 = c.toNat by omega]; simp
      · rw [if_neg hc'] at hh; omega
theorem headsN_take : ∀ (n m : Nat) (b : List UInt8), headsN n b < m → headsN m (b.take m) = headsN n b ∨ n < m := by
  intro n
  induction n with
  | zero => intro m b h; omega
  | succ n ih =>
    intro m b h
    cases m with
    | zero => omega
    | succ m =>
      cases b with
      | nil => left; simp [headsN]
      | cons c r =>
        simp only [headsN, List.take_succ_cons] at h ⊢
        by_cases hc : 128 ≤ c.toNat
        · simp only [hc, if_true] at h ⊢
          rcases ih m r (by omega) with e | e
          · left; rw [e]
          · right; omega
        · left; simp [hc]
theorem takeM_cases (b : List UInt8) : ((takeM b).2.2 = 0 ∧ (takeM b).2.1 = heads b + 1 ∧ heads b < b.length ∧ heads b < 10 ∧ (takeM b).1 = val (b.take (heads b + 1)) ∧ (takeM b).1 < 18446744073709551616 ∧
      (0 < heads b → (b.getD (heads b) 0).toNat ≠ 0) ∧ (heads b = 9 → (b.getD (heads b) 0).toNat ≤ 1)) ∨
    (((takeM b).2.2 = 10 ∨ (takeM b).2.2 = 11) ∧ (takeM b).1 = 0 ∧ (takeM b).2.1 = 0) := by
  have hl := heads_le b
  unfold takeM
  split
  · right; simp
  · split
    · right; simp
    · split
      · right; simp
      · rename_i h1 h2 h3
        left
        refine ⟨rfl, rfl, by omega, by omega, rfl, ?_, fun h => fun hh => h3 (.inl ⟨h, hh⟩), fun h => Nat.le_of_not_lt fun hh => h3 (.inr ⟨h, hh⟩)⟩
        show val (b.take (heads b + 1)) < _
        rw [val_snoc b (heads b) (by omega)]
        have hv := val_lt (b.take (heads b))
        rw [List.length_take, Nat.min_eq_left (by omega)] at hv
        by_cases h9 : heads b = 9
        · have : (b[heads b]'(by omega)).toNat ≤ 1 := by
            have := Nat.le_of_not_lt fun hh => h3 (.inr ⟨h9, hh⟩)
            simpa [List.getD, List.getElem?_eq_getElem (show heads b < b.length by omega)] using this
          have e : 128 ^ heads b = 9223372036854775808 := by rw [h9]
          rw [e] at hv ⊢
          have : 9223372036854775808 * ((b[heads b]'(by omega)).toNat % 128) ≤ 9223372036854775808 * 1 := Nat.mul_le_mul_left _ (by omega)
          omega
        · have h8 : 128 ^ (heads b) ≤ 128 ^ 8 := Nat.pow_le_pow_right (by omega) (by omega)
          have h7 : 128 ^ heads b * ((b[heads b]'(by omega)).toNat % 128) ≤ 128 ^ heads b * 127 := Nat.mul_le_mul_left _ (by omega)
          omega
/-- Bytes that are taken are those that their number is put as. -/
theorem numL_takeM {b : List UInt8} (h : (takeM b).2.2 = 0) : numL (takeM b).1 = b.take (takeM b).2.1 := by
  rcases takeM_cases b with ⟨_, h2, h3, h4, h5, _, h7, _⟩ | ⟨h1, _⟩
  · rw [h5, h2]
    have hlen : (b.take (heads b + 1)).length = heads b + 1 := by simp; omega
    apply numL_val
    · intro e; rw [e] at hlen; simp at hlen
    · rw [hlen]
      rcases headsN_take 10 (heads b + 1) b (by unfold heads; omega) with e | e
      · rw [e]; unfold heads; omega
      · omega
    · intro h1
      rw [hlen, show heads b + 1 - 1 = heads b by omega] at *
      have := h7 (by omega)
      simpa [List.getD, List.getElem?_take] using this
  · omega
/-- Bytes that are cut within a number's are short. -/
theorem take_short {x m : Nat} (hx : x < 18446744073709551616) (h : m < (numL x).length) : takeM ((numL x).take m) = (0, 0, 10) := by
  have h10 := numL_ten hx
  have e := headsN_numL 10 x h10
  have hm : ((numL x).take m).length = m := by rw [List.length_take]; omega
  have hh : heads ((numL x).take m) = m := by
    apply Nat.le_antisymm
    · have := (heads_le ((numL x).take m)).2; omega
    · suffices ∀ k, k ≤ m → k ≤ heads ((numL x).take m) from this m (Nat.le_refl _)
      intro k
      induction k with
      | zero => intro _; omega
      | succ k ih =>
        intro hk
        obtain ⟨hl, hge⟩ := head_at (numL x) k (by unfold heads; omega)
        have hk' : k < ((numL x).take m).length := by omega
        exact (heads_at _ k hk' (by omega) (ih (by omega))).1 (by rw [List.getElem_take]; exact hge)
  unfold takeM
  rw [hh, hm, if_neg (by omega), if_pos rfl]
end Go.Proofs.Ytemokpnepnmmkaa
/- What is read of bytes: numbers, texts, rows of texts: as plain mathematics. No premises. -/
namespace Go.Proofs.Ytemokpnepnmmkaa
/-- The bytes of numbers. -/
def putL (l : List Nat) : List UInt8 := l.flatMap numL
/-- The bytes of a text: how many, and these. -/
def textL (s : ByteArray) : List UInt8 := numL s.size ++ s.data.toList
def textsL (l : List ByteArray) : List UInt8 := l.flatMap textL
/-- What Num tells, and what it leaves. -/
def numR (bs : List UInt8) (e : Nat) : Nat × List UInt8 × Nat := if e ≠ 0 then (0, bs, e) else ((takeM bs).1, bs.drop (takeM bs).2.1, (takeM bs).2.2)
/-- What Text tells, and what it leaves. -/
def textR (bs : List UInt8) (e : Nat) : List UInt8 × List UInt8 × Nat :=
  let r := numR bs e
  if r.2.2 ≠ 0 then ([], r.2.1, r.2.2) else if r.2.1.length < r.1 then ([], r.2.1, 10) else (r.2.1.take r.1, r.2.1.drop r.1, 0)
theorem num_all {x : Nat} (hx : x < 18446744073709551616) (r : List UInt8) : numR (numL x ++ r) 0 = (x, r, 0) := by
  have h := takeM_numL hx r
  simp [numR, h]
theorem text_all {s : ByteArray} (hs : s.size < 18446744073709551616) (r : List UInt8) : textR (textL s ++ r) 0 = (s.data.toList, r, 0) := by
  have h : numR (textL s ++ r) 0 = (s.size, s.data.toList ++ r, 0) := by
    rw [textL, List.append_assoc]; exact num_all hs _
  have hl : s.data.toList.length = s.size := rfl
  simp only [textR, h]
  simp only [ne_eq, not_true_eq_false, if_false, List.length_append, hl]
  rw [if_neg (by omega)]
  rw [← hl, List.take_left, List.drop_left]
theorem num_cut {x m : Nat} (hx : x < 18446744073709551616) (r : List UInt8) (h : m < (numL x ++ r).length) :
    (∃ b, numR ((numL x ++ r).take m) 0 = (0, b, 10)) ∨ (∃ k, k < r.length ∧ numR ((numL x ++ r).take m) 0 = (x, r.take k, 0)) := by
  rcases Nat.lt_or_ge m (numL x).length with hm | hm
  · left
    have e : (numL x ++ r).take m = (numL x).take m := List.take_append_of_le_length (by omega)
    rw [e]
    exact ⟨_, by simp only [numR, take_short hx hm]; rfl⟩
  · right
    have e : (numL x ++ r).take m = numL x ++ r.take (m - (numL x).length) := by
      rw [List.take_append, List.take_of_length_le hm]
    rw [List.length_append] at h
    exact ⟨m - (numL x).length, by omega, by rw [e]; exact num_all hx _⟩
theorem text_cut {s : ByteArray} {m : Nat} (hs : s.size < 18446744073709551616) (r : List UInt8) (h : m < (textL s ++ r).length) :
    (∃ t b, textR ((textL s ++ r).take m) 0 = (t, b, 10)) ∨ (∃ t k, k < r.length ∧ textR ((textL s ++ r).take m) 0 = (t, r.take k, 0)) := by
  have hl : s.data.toList.length = s.size := rfl
  have e : textL s ++ r = numL s.size ++ (s.data.toList ++ r) := by rw [textL, List.append_assoc]
  rw [e] at h ⊢
  rcases num_cut hs (s.data.toList ++ r) h with ⟨b, hb⟩ | ⟨k, hk, hb⟩
  · left
    exact ⟨[], b, by simp [textR, hb]⟩
  · rcases Nat.lt_or_ge k s.size with hks | hks
    · left
      refine ⟨[], (s.data.toList ++ r).take k, ?_⟩
      simp only [textR, hb]
      rw [if_neg (by simp), if_pos (by rw [List.length_take]; omega)]
    · right
      rw [List.length_append, hl] at hk
      refine ⟨s.data.toList, k - s.size, by omega, ?_⟩
      have e2 : (s.data.toList ++ r).take k = s.data.toList ++ r.take (k - s.size) := by
        rw [List.take_append, List.take_of_length_le (by omega), hl]
      simp only [textR, hb]
      rw [e2, if_neg (by simp), if_neg (by rw [List.length_append]; omega), ← hl, List.take_left, List.drop_left]
theorem num_stop (b : List UInt8) : numR b 10 = (0, b, 10) := rfl
theorem text_stop (b : List UInt8) : textR b 10 = ([], b, 10) := rfl
/-- The bytes of a text, told as a list. -/
def textB (t : List UInt8) : List UInt8 := numL t.length ++ t
theorem textL_B (s : ByteArray) : textL s = textB s.data.toList := rfl
def textsB (l : List (List UInt8)) : List UInt8 := l.flatMap textB
theorem textsB_cons (t : List UInt8) (l : List (List UInt8)) : textsB (t :: l) = textB t ++ textsB l := by simp [textsB]
theorem triple {α β : Type} {x : α × β × Nat} (h : x.2.2 = 0) : x = (x.1, x.2.1, 0) := by
  obtain ⟨a, b, c⟩ := x
  simp at h
  rw [h]
/-- A number that was read stood there. -/
theorem num_eats {bs rest : List UInt8} {x : Nat} (h : numR bs 0 = (x, rest, 0)) : bs = numL x ++ rest ∧ x < 18446744073709551616 := by
  simp only [numR, ne_eq, not_true_eq_false, if_false, Prod.mk.injEq] at h
  obtain ⟨h1, h2, h3⟩ := h
  have h4 := numL_takeM h3
  rw [h1] at h4
  refine ⟨by rw [h4, ← h2, List.take_append_drop], ?_⟩
  rcases takeM_cases bs with h5 | h5
  · rw [← h1]; exact h5.2.2.2.2.2.1
  · omega
/-- A text that was read stood there. -/
theorem text_eats {bs rest t : List UInt8} (h : textR bs 0 = (t, rest, 0)) : bs = textB t ++ rest ∧ t.length < 18446744073709551616 := by
  obtain ⟨x, b1, e1⟩ : ∃ x, ∃ b1, numR bs 0 = x ∧ b1 = x.2.1 := ⟨_, _, rfl, rfl⟩
  obtain ⟨e1, rfl⟩ := e1
  simp only [textR, e1] at h
  by_cases h0 : x.2.2 = 0
  · rw [if_neg (by simpa using h0)] at h
    by_cases hl : x.2.1.length < x.1
    · rw [if_pos hl] at h
      simp only [Prod.mk.injEq] at h
      omega
    · rw [if_neg hl] at h
      simp only [Prod.mk.injEq] at h
      obtain ⟨h1, h2, _⟩ := h
      have hx : numR bs 0 = (x.1, x.2.1, 0) := by rw [e1, ← h0]
      obtain ⟨h3, h4⟩ := num_eats hx
      have hlt : t.length = x.1 := by rw [← h1, List.length_take]; omega
      refine ⟨?_, by omega⟩
      rw [h3, textB, hlt, List.append_assoc, ← h1, ← h2, List.take_append_drop]
  · rw [if_pos (by simpa using h0)] at h
    simp only [Prod.mk.injEq] at h
    exact absurd h.2.2 h0
theorem text_all' {t : List UInt8} (h : t.length < 18446744073709551616) (r : List UInt8) : textR (textB t ++ r) 0 = (t, r, 0) := by
  have e : numR (textB t ++ r) 0 = (t.length, t ++ r, 0) := by rw [textB, List.append_assoc]; exact num_all h _
  simp only [textR, e]
  rw [if_neg (by simp), if_neg (by rw [List.length_append]; omega), List.take_left, List.drop_left]
theorem num_err (b : List UInt8) {e : Nat} (h : e ≠ 0) : numR b e = (0, b, e) := by simp [numR, h]
theorem text_err (b : List UInt8) {e : Nat} (h : e ≠ 0) : textR b e = ([], b, e) := by simp [textR, numR, h]
/-- What so many texts, one behind the other, tell, and leave. -/
def rowR : Nat → List UInt8 → Nat → List (List UInt8) × List UInt8 × Nat
  | 0, b, e => ([], b, e)
  | k + 1, b, e => ((textR b e).1 :: (rowR k (textR b e).2.1 (textR b e).2.2).1, (rowR k (textR b e).2.1 (textR b e).2.2).2.1, (rowR k (textR b e).2.1 (textR b e).2.2).2.2)
theorem rowR_snoc : ∀ (k : Nat) (b : List UInt8) (e : Nat), rowR (k + 1) b e = ((rowR k b e).1 ++ [(textR (rowR k b e).2.1 (rowR k b e).2.2).1], (textR (rowR k b e).2.1 (rowR k b e).2.2).2.1, (textR (rowR k b e).2.1 (rowR k b e).2.2).2.2)
  | 0, _, _ => rfl
  | k + 1, b, e => by
    have ih := rowR_snoc k (textR b e).2.1 (textR b e).2.2
    rw [rowR, ih]
    rfl
theorem rowR_len : ∀ (k : Nat) (b : List UInt8) (e : Nat), (rowR k b e).1.length = k
  | 0, _, _ => rfl
  | k + 1, b, e => by rw [rowR]; simp [rowR_len k]
theorem row_err : ∀ (k : Nat) (b : List UInt8) {e : Nat}, e ≠ 0 → rowR k b e = (List.replicate k [], b, e)
  | 0, _, _, _ => rfl
  | k + 1, b, e, h => by rw [rowR, text_err b h]; dsimp only; rw [row_err k b h]; rfl
/-- An error of a row is that of its first text that isn't whole: none ahead of it. -/
theorem row_eats : ∀ (k : Nat) {bs rest : List UInt8} {l : List (List UInt8)}, rowR k bs 0 = (l, rest, 0) → bs = textsB l ++ rest ∧ (∀ t ∈ l, t.length < 18446744073709551616) ∧ l.length = k
  | 0, bs, rest, l, h => by
    simp only [rowR, Prod.mk.injEq] at h
    obtain ⟨rfl, rfl, _⟩ := h
    simp [textsB]
  | k + 1, bs, rest, l, h => by
    rw [rowR] at h
    simp only [Prod.mk.injEq] at h
    obtain ⟨h1, h2, h3⟩ := h
    by_cases h0 : (textR bs 0).2.2 = 0
    · have ht := triple h0
      obtain ⟨h4, h5⟩ := text_eats ht
      rw [h0] at h1 h2 h3
      have hq := triple h3
      rw [h2] at hq
      obtain ⟨h6, h7, h8⟩ := row_eats k hq
      subst h1
      refine ⟨?_, ?_, by simp [h8]⟩
      · rw [textsB_cons, List.append_assoc, ← h6]; exact h4
      · intro t ht
        rcases List.mem_cons.1 ht with rfl | ht
        · exact h5
        · exact h7 t ht
    · rw [row_err k _ h0] at h3
      exact absurd h3 h0
theorem row_all : ∀ (l : List (List UInt8)) (r : List UInt8), (∀ t ∈ l, t.length < 18446744073709551616) → rowR l.length (textsB l ++ r) 0 = (l, r, 0)
  | [], r, _ => by simp [rowR, textsB]
  | t :: l, r, h => by
    rw [List.length_cons, rowR, textsB_cons, List.append_assoc, text_all' (h t (List.mem_cons_self ..))]
    dsimp only
    rw [row_all l r fun x hx => h x (List.mem_cons_of_mem _ hx)]
/-- Cut within a text, or behind it. -/
theorem text_cut' {t : List UInt8} {m : Nat} (ht : t.length < 18446744073709551616) (r : List UInt8) (h : m < (textB t ++ r).length) :
    (∃ u b, textR ((textB t ++ r).take m) 0 = (u, b, 10)) ∨ (∃ k, k < r.length ∧ (textB t ++ r).take m = textB t ++ r.take k) := by
  by_cases hm : m < (textB t).length
  · left
    rw [List.take_append_of_le_length (by omega)]
    have hB : (textB t).length = (numL t.length).length + t.length := by simp [textB]
    by_cases h7 : m < (numL t.length).length
    · have h8 : numR ((textB t).take m) 0 = (0, (textB t).take m, 10) := by
        rw [textB, List.take_append_of_le_length (by omega)]
        simp only [numR, take_short ht h7]; rfl
      exact ⟨[], _, by simp only [textR, h8]; rfl⟩
    · have h8 : numR ((textB t).take m) 0 = (t.length, t.take (m - (numL t.length).length), 0) := by
        rw [textB, List.take_append, List.take_of_length_le (by omega)]
        exact num_all ht _
      refine ⟨[], t.take (m - (numL t.length).length), ?_⟩
      simp only [textR, h8]
      rw [if_neg (by simp), if_pos (by rw [List.length_take]; omega)]
  · right
    refine ⟨m - (textB t).length, by rw [List.length_append] at h; omega, ?_⟩
    rw [List.take_append, List.take_of_length_le (by omega)]
theorem num_cut' {x m : Nat} (hx : x < 18446744073709551616) (r : List UInt8) (h : m < (numL x ++ r).length) :
    (∃ b, numR ((numL x ++ r).take m) 0 = (0, b, 10)) ∨ (∃ k, k < r.length ∧ (numL x ++ r).take m = numL x ++ r.take k) := by
  by_cases hm : m < (numL x).length
  · left
    rw [List.take_append_of_le_length (by omega)]
    exact ⟨_, by simp only [numR, take_short hx hm]; rfl⟩
  · right
    refine ⟨m - (numL x).length, by rw [List.length_append] at h; omega, ?_⟩
    rw [List.take_append, List.take_of_length_le (by omega)]
theorem row_cut : ∀ (l : List (List UInt8)) (r : List UInt8) (m : Nat), (∀ t ∈ l, t.length < 18446744073709551616) → m < (textsB l ++ r).length →
    (∃ u b, rowR l.length ((textsB l ++ r).take m) 0 = (u, b, 10)) ∨ (∃ k, k < r.length ∧ (textsB l ++ r).take m = textsB l ++ r.take k)
  | [], r, m, _, h => .inr ⟨m, by simpa [textsB] using h, by simp [textsB]⟩
  | t :: l, r, m, hl, h => by
    rw [textsB_cons, List.append_assoc] at h ⊢
    rcases text_cut' (hl t (List.mem_cons_self ..)) (textsB l ++ r) h with ⟨u, b, hu⟩ | ⟨k, hk, e⟩
    · left
      rw [List.length_cons, rowR, hu]
      dsimp only
      rw [row_err _ _ (by omega)]
      exact ⟨_, _, rfl⟩
    · rcases row_cut l r k (fun x hx => hl x (List.mem_cons_of_mem _ hx)) hk with ⟨u, b, hu⟩ | ⟨k', hk', e'⟩
      · left
        rw [e, List.length_cons, rowR, text_all' (hl t (List.mem_cons_self ..))]
        dsimp only
        rw [hu]
        exact ⟨_, _, rfl⟩
      · right
        exact ⟨k', hk', by rw [e, e', List.append_assoc]⟩
end Go.Proofs.Ytemokpnepnmmkaa
/- Small words over the program that the walks of every layer share: what a byte's type holds, a slice of the call's own, a text of one byte. No premises. -/
namespace Go.Proofs.Ytemokpnepnmmkaa
open Go.RowKit
/-- []byte of a constant: the row gets a mark behind its last cell. -/
theorem conv_const (W : World) (C : Array Value) (n c g : Nat) (h : g = W.heap.size) : (convert 28 28 (.slice (some ⟨g, 0, none⟩) n c)).run Try.prog (W.alloc (.cells C 5)) = .ok (.slice (some ⟨g, 0, none⟩) n c) (W.alloc (.cells C 5 (C.size, C.size + 1))) :=
  Joins.run_convert_bytes_const_at W 28 5 C n c g h Try.underlying28 Try.underlying5
theorem Rd.litF (w : World) (e : TypeId) (fr : Nat × Nat) (cs : List Value) : Rd (w.alloc (.cells cs.toArray e fr)) (w.heap.size + 1) (some ⟨w.heap.size, 0, none⟩) cs.length cs :=
  ⟨rfl, fun _ => ⟨_, rfl, Nat.lt_succ_self _, fun j u hu => by
    rw [add_lit0, cell_of_row _ _ j cs.toArray e fr (heap_alloc_new w _)]
    simpa using hu⟩⟩
theorem info_u8 : (Try.prog.info? 5).map (fun i => (i.zero, i.size, i.bytes)) = some (some (.int .u8 0), 1, 1) := by kernel_rfl
theorem size_toList (s : ByteArray) : s.data.toList.length = s.size := rfl
theorem sget (s : ByteArray) (k : Nat) (h : k < s.size) : s.data.toList[k]'h = s[k] := by
  rw [Array.getElem_toList]; rfl
theorem own_slice {w : World} {base n : Nat} {e : TypeId} {v : Value} {xs : List Value} (h : w.ownsRow base e 1 v n xs) :
    ∃ A c, v = .slice A n c ∧ n ≤ c ∧ Rd w w.heap.size A n xs ∧ (∀ ad, A = some ad → base ≤ ad.block ∧ ad.block < w.heap.size) := by
  rcases h.2 with ⟨rfl, rfl⟩ | ⟨g, cap, cur, rfl, hb, hh, hnc, _⟩
  · exact ⟨none, 0, rfl, Nat.le_refl _, by have := h.1; simp at this; subst this; exact Rd.nil_, fun ad h => by cases h⟩
  · exact ⟨_, _, rfl, hnc, Rd.of_own h, fun ad he => by injection he with he; subst he; exact ⟨hb, (Array.getElem?_eq_some_iff.1 hh).1⟩⟩
theorem own_map {α : Type} {f : α → Value} {w : World} {base : Nat} {e : TypeId} {v : Value} {xs : List α} (h : w.ownsRow base e 1 v (xs.map f).length (xs.map f)) :
    ∃ A c, v = .slice A xs.length c ∧ xs.length ≤ c ∧ Rd w w.heap.size A xs.length (xs.map f) ∧ (∀ ad, A = some ad → base ≤ ad.block ∧ ad.block < w.heap.size) := by
  rw [List.length_map] at h
  exact own_slice h
theorem str1 (W : World) (n : Nat) (h : n < 256) (cap : Nat) : (convert 28 9 (.slice (some ⟨W.heap.size, 0, none⟩) 1 cap)).run Try.prog (W.alloc (.cells #[.int .u8 (n : Int)] 5)) = .ok (.string (mkS [UInt8.ofNat n])) (W.alloc (.cells #[.int .u8 (n : Int)] 5)) := by
  refine run_str_of (bs := [UInt8.ofNat n]) (B := W.heap.size + 1) ⟨rfl, fun _ => ⟨_, rfl, Nat.lt_succ_self _, fun j y hy => ?_⟩⟩ _ _ 5 Try.underlying28 Try.underlying5 Try.underlying9 cap
  match j, hy with
  | 0, hy => simp only [List.map_cons, List.map_nil, List.getElem?_cons_zero, Option.some.injEq, bv, show (UInt8.ofNat n).toNat = n by simp; omega] at hy; subst hy; simp [Addr.add]
/-- A slice of slices of bytes that reads as ls; what it leads to lies below block B. -/
def RdL (w : World) (B : Nat) (A : Option Addr) (n : Nat) (ls : List (List UInt8)) : Prop :=
  ls.length = n ∧ ∀ (j : Nat) (h : j < ls.length), ∃ ad A' n' c', A = some ad ∧ ad.block < B ∧ w.cell? (ad.add j) = some (.slice A' n' c') ∧ Rd w B A' n' (ls[j].map bv) ∧ n' ≤ maxLen
theorem RdL.one {w : World} {B : Nat} {A : Option Addr} {n c : Nat} {l : List UInt8} (h : Rd w B A n (l.map bv)) (hB : B ≤ w.heap.size) (h1 : n ≤ maxLen) (e : TypeId) :
    RdL (w.alloc (.cells #[.slice A n c] e)) (w.heap.size + 1) (some ⟨w.heap.size, 0, none⟩) 1 [l] := by
  refine ⟨rfl, fun j hj => ?_⟩
  have hj0 : j = 0 := by simpa using hj
  subst hj0
  refine ⟨_, A, n, c, rfl, Nat.lt_succ_self _, ?_, (h.below ((Below.refl B w).alloc hB _)).more (by omega), h1⟩
  obtain ⟨ad, e1, _, e3⟩ := (Rd.lit w e [.slice A n c]).2 (by simp)
  injection e1 with e1
  subst e1
  exact e3 0 _ rfl
theorem RdL.keep {w w' : World} {B : Nat} {A : Option Addr} {n : Nat} {ls : List (List UInt8)} (h : RdL w B A n ls) (hb : Below B w w') : RdL w' B A n ls := by
  refine ⟨h.1, fun j hj => ?_⟩
  obtain ⟨ad, A', n', c', rfl, h1, h2, h3, h4⟩ := h.2 j hj
  exact ⟨ad, A', n', c', rfl, h1, (hb.cell (by rw [block_add]; exact h1)).trans h2, h3.below hb, h4⟩
theorem RdL.two {w : World} {B B' : Nat} {A A' : Option Addr} {n n' c c' : Nat} {l l' : List UInt8} (h : Rd w B A n (l.map bv)) (h' : Rd w B' A' n' (l'.map bv)) (hB : B ≤ w.heap.size) (hB' : B' ≤ w.heap.size) (h1 : n ≤ maxLen) (h1' : n' ≤ maxLen) (e : TypeId) :
    RdL (w.alloc (.cells #[.slice A n c, .slice A' n' c'] e)) (w.heap.size + 1) (some ⟨w.heap.size, 0, none⟩) 2 [l, l'] := by
  obtain ⟨ad, e1, _, e3⟩ := (Rd.lit w e [.slice A n c, .slice A' n' c']).2 (by simp)
  injection e1 with e1
  subst e1
  refine ⟨rfl, fun j hj => ?_⟩
  have hc : j = 0 ∨ j = 1 := by simp at hj; omega
  rcases hc with rfl | rfl
  · exact ⟨_, A, n, c, rfl, Nat.lt_succ_self _, e3 0 _ rfl, (h.below ((Below.refl B w).alloc hB _)).more (by omega), h1⟩
  · exact ⟨_, A', n', c', rfl, Nat.lt_succ_self _, e3 1 _ rfl, (h'.below ((Below.refl B' w).alloc hB' _)).more (by omega), h1'⟩
end Go.Proofs.Ytemokpnepnmmkaa
