/- The document's read: numbers ahead, a text, a row, perhaps a number behind. -/
import Derived.Test.YtbgojfgapbcanaaDoorEvX
import Derived.Test.YtbgojfgapbcanaaDoorRefRead
namespace Go.Proofs.YtbgojfgapbcanaaDoor
open Go.RowKit
theorem info_u64 : (Tryd.prog.info? 56).map (fun i => (i.zero, i.size, i.bytes)) = some (some (.int .u64 0), 1, 8) := by kernel_rfl
/-- So many numbers, one behind the other. -/
def numsR : Nat → List UInt8 → Nat → List Nat × List UInt8 × Nat
  | 0, b, e => ([], b, e)
  | k + 1, b, e => ((numsR k b e).1 ++ [(numR (numsR k b e).2.1 (numsR k b e).2.2).1], (numR (numsR k b e).2.1 (numsR k b e).2.2).2.1, (numR (numsR k b e).2.1 (numsR k b e).2.2).2.2)
theorem numR_rest (b : List UInt8) (e : Nat) : (numR b e).2.1.length ≤ b.length := by
  unfold numR; split
  · exact Nat.le_refl _
  · simp
theorem textR_rest (b : List UInt8) (e : Nat) : (textR b e).2.1.length ≤ b.length := by
  have h := numR_rest b e
  unfold textR
  dsimp only
  split
  · exact h
  · split
    · exact h
    · simp; omega
theorem numsR_rest : ∀ (k : Nat) (b : List UInt8) (e : Nat), (numsR k b e).2.1.length ≤ b.length
  | 0, _, _ => Nat.le_refl _
  | k + 1, b, e => Nat.le_trans (numR_rest _ _) (numsR_rest k b e)
theorem numsR_len : ∀ (k : Nat) (b : List UInt8) (e : Nat), (numsR k b e).1.length = k
  | 0, _, _ => rfl
  | k + 1, b, e => by rw [numsR, List.length_append, numsR_len k b e]; rfl
theorem rowR_rest : ∀ (k : Nat) (b : List UInt8) (e : Nat), (rowR k b e).2.1.length ≤ b.length
  | 0, _, _ => Nat.le_refl _
  | k + 1, b, e => by rw [rowR_snoc]; exact Nat.le_trans (textR_rest _ _) (rowR_rest k b e)
def readM (bs : List UInt8) (ahead : Nat) (behind : Bool) : List Nat × List UInt8 × List (List UInt8) × Bool × List UInt8 × Nat :=
  let q := numsR ahead bs 0
  let d := textR q.2.1 q.2.2
  let r := numR d.2.1 d.2.2
  if 4096 < r.1 then (q.1, d.1, [], true, r.2.1, r.2.2) else
  let p := rowR r.1 r.2.1 r.2.2
  if behind then (q.1 ++ [(numR p.2.1 p.2.2).1], d.1, p.1, false, (numR p.2.1 p.2.2).2.1, (numR p.2.1 p.2.2).2.2) else (q.1, d.1, p.1, false, p.2.1, p.2.2)
abbrev L6 (b : List UInt8) (e : Nat) (A : Option Addr) (n c : Nat) (t : List UInt8) (A2 : Option Addr) (n2 c2 : Nat) (long : Bool) : Array Value := #[.string (mkS b), .int .i64 (e : Int), .slice A n c, .string (mkS t), .slice A2 n2 c2, .bool long]
abbrev Z6 : Array Value := #[.string ⟨#[]⟩, .int .i64 0, .slice none 0 0, .string ⟨#[]⟩, .slice none 0 0, .bool false]
abbrev Lr (w W : World) (cs : Array Value) : Prop := Laid 75 Z6 w W cs
/-- The struct that read fills, and its own rows. -/
structure Rec (w W : World) (b : List UInt8) (e : Nat) (A : Option Addr) (nums : List Nat) (c : Nat) (t : List UInt8) (A2 : Option Addr) (row : List (List UInt8)) (c2 : Nat) (long : Bool) : Prop where
  laid : Lr w W (L6 b e A nums.length c t A2 row.length c2 long)
  ownN : W.ownsRow (w.heap.size + 2) 56 1 (.slice A nums.length c) (nums.map nv).length (nums.map nv)
  ownR : W.ownsRow (w.heap.size + 2) 9 1 (.slice A2 row.length c2) (row.map sv).length (row.map sv)
  ap : ∀ k, (Value.slice A nums.length c).ownBlock = some k → (Value.slice A2 row.length c2).ownBlock ≠ some k
section
variable {w W W' : World} {b : List UInt8} {e : Nat} {A : Option Addr} {nums : List Nat} {c : Nat} {t : List UInt8} {A2 : Option Addr} {row : List (List UInt8)} {c2 : Nat} {long : Bool}
theorem Rec.later (h : Rec w W b e A nums c t A2 row c2 long) (hl : Later W W') : Rec w W' b e A nums c t A2 row c2 long :=
  ⟨h.laid.keep hl (by have := h.laid.size; omega), own_below h.ownN hl, own_below h.ownR hl, h.ap⟩
theorem own_set {base n size : Nat} {ty : TypeId} {v : Value} {xs : List Value} (h : W.ownsRow base ty size v n xs) {b i : Nat} (hb : b < base) (u : Value) : (W.setCell ⟨b, i, none⟩ u).ownsRow base ty size v n xs :=
  own_grown h (set_only W b i u) hb
/-- The reader's state is written. -/
theorem Rec.setR (h : Rec w W b e A nums c t A2 row c2 long) (b' : List UInt8) (e' : Nat) : Rec w ((W.setCell ⟨w.heap.size + 1, 0, none⟩ (.string (mkS b'))).setCell ⟨w.heap.size + 1, 1, none⟩ (.int .i64 (e' : Int))) b' e' A nums c t A2 row c2 long :=
  ⟨(h.laid.set 0 _ rfl).set 1 _ rfl, own_set (own_set h.ownN (by omega) _) (by omega) _, own_set (own_set h.ownR (by omega) _) (by omega) _, h.ap⟩
theorem Rec.setT (h : Rec w W b e A nums c t A2 row c2 long) (t' : List UInt8) : Rec w (W.setCell ⟨w.heap.size + 1, 3, none⟩ (.string (mkS t'))) b e A nums c t' A2 row c2 long :=
  ⟨h.laid.set 3 _ rfl, own_set h.ownN (by omega) _, own_set h.ownR (by omega) _, h.ap⟩
theorem Rec.setL (h : Rec w W b e A nums c t A2 row c2 long) (l : Bool) : Rec w (W.setCell ⟨w.heap.size + 1, 5, none⟩ (.bool l)) b e A nums c t A2 row c2 l :=
  ⟨h.laid.set 5 _ rfl, own_set h.ownN (by omega) _, own_set h.ownR (by omega) _, h.ap⟩
theorem Rec.facts (h : Rec w W b e A nums c t A2 row c2 long) : (W.cell? ⟨w.heap.size + 1, 0, none⟩ = some (.string (mkS b)) ∧ W.cell? ⟨w.heap.size + 1, 1, none⟩ = some (.int .i64 (e : Int)) ∧ W.cell? ⟨w.heap.size + 1, 2, none⟩ = some (.slice A nums.length c) ∧ W.cell? ⟨w.heap.size + 1, 3, none⟩ = some (.string (mkS t)) ∧ W.cell? ⟨w.heap.size + 1, 4, none⟩ = some (.slice A2 row.length c2) ∧ W.cell? ⟨w.heap.size + 1, 5, none⟩ = some (.bool long)) ∧ (∀ i, W.frozen? ⟨w.heap.size + 1, i, none⟩ = false) ∧ w.heap.size + 1 < W.heap.size :=
  ⟨⟨h.laid.cell 0, h.laid.cell 1, h.laid.cell 2, h.laid.cell 3, h.laid.cell 4, h.laid.cell 5⟩, h.laid.frozen, h.laid.size⟩
theorem Rec.facts0 (h : Rec w W b e A nums c t A2 row c2 long) : (W.cell? ⟨w.heap.size, 0, none⟩ = some (.string ⟨#[]⟩) ∧ W.cell? ⟨w.heap.size, 1, none⟩ = some (.int .i64 0) ∧ W.cell? ⟨w.heap.size, 2, none⟩ = some (.slice none 0 0) ∧ W.cell? ⟨w.heap.size, 3, none⟩ = some (.string ⟨#[]⟩) ∧ W.cell? ⟨w.heap.size, 4, none⟩ = some (.slice none 0 0) ∧ W.cell? ⟨w.heap.size, 5, none⟩ = some (.bool false)) ∧ (∀ i, W.frozen? ⟨w.heap.size, i, none⟩ = false) :=
  ⟨⟨h.laid.cell0 0, h.laid.cell0 1, h.laid.cell0 2, h.laid.cell0 3, h.laid.cell0 4, h.laid.cell0 5⟩, h.laid.frozen0⟩
/-- The numbers have grown: their slice is written. -/
theorem Rec.pushN (h : Rec w W b e A nums c t A2 row c2 long) {x : Nat} {nums1 : List Nat} (hn1 : nums1 = nums ++ [x]) {v' : Value} (hg : Grew W W' (w.heap.size + 2) 56 (.slice A nums.length c) v' (nums.map nv ++ [nv x])) :
    ∃ A' c', v' = .slice A' nums1.length c' ∧ Rec w (W'.setCell ⟨w.heap.size + 1, 2, none⟩ (.slice A' nums1.length c')) b e A' nums1 c' t A2 row c2 long ∧ W.heap.size ≤ W'.heap.size ∧ Lr w W' (L6 b e A nums.length c t A2 row.length c2 long) := by
  subst hn1
  have ho := hg.own
  have e1 : nums.map nv ++ [nv x] = (nums ++ [x]).map nv := by simp
  rw [e1] at ho
  obtain ⟨A', c', rfl, h1, h2, h3⟩ := own_map ho
  have hb := hg.below h.ownN (by have := h.laid.size; omega)
  have hlaid : Lr w W' (L6 b e A nums.length c t A2 row.length c2 long) := h.laid.keep hb (Nat.le_refl _)
  have hmv : ∀ k, (Value.slice A' (nums ++ [x]).length c').ownBlock = some k → (Value.slice A2 row.length c2).ownBlock ≠ some k := fun k hk e2 => by
    rcases hg.moved with h5 | ⟨k', h5, h6⟩
    · exact h.ap k (by rw [← h5]; exact hk) e2
    · rw [h5] at hk
      injection hk with hk
      have := (h.ownR.lt k e2).2
      omega
  refine ⟨A', c', rfl, ⟨hlaid.set 2 _ rfl, own_set ho (by omega) _, own_set ?_ (by omega) _, hmv⟩, hg.grown.size, hlaid⟩
  exact h.ownR.kept hg.grown (by
    rcases hv : (Value.slice A2 row.length c2).ownBlock with _ | k
    · exact .inl rfl
    · exact .inr fun e1 => h.ap k e1.symm hv)
/-- The row has grown: its slice is written. -/
theorem Rec.pushR (h : Rec w W b e A nums c t A2 row c2 long) {x : List UInt8} {row1 : List (List UInt8)} (hn1 : row1 = row ++ [x]) {v' : Value} (hg : Grew W W' (w.heap.size + 2) 9 (.slice A2 row.length c2) v' (row.map sv ++ [sv x])) :
    ∃ A' c', v' = .slice A' row1.length c' ∧ Rec w (W'.setCell ⟨w.heap.size + 1, 4, none⟩ (.slice A' row1.length c')) b e A nums c t A' row1 c' long ∧ W.heap.size ≤ W'.heap.size ∧ Lr w W' (L6 b e A nums.length c t A2 row.length c2 long) := by
  subst hn1
  have ho := hg.own
  have e1 : row.map sv ++ [sv x] = (row ++ [x]).map sv := by simp
  rw [e1] at ho
  obtain ⟨A', c', rfl, h1, h2, h3⟩ := own_map ho
  have hb := hg.below h.ownR (by have := h.laid.size; omega)
  have hlaid : Lr w W' (L6 b e A nums.length c t A2 row.length c2 long) := h.laid.keep hb (Nat.le_refl _)
  have hmv : ∀ k, (Value.slice A nums.length c).ownBlock = some k → (Value.slice A' (row ++ [x]).length c').ownBlock ≠ some k := fun k e2 hk => by
    rcases hg.moved with h5 | ⟨k', h5, h6⟩
    · exact h.ap k e2 (by rw [← h5]; exact hk)
    · rw [h5] at hk
      injection hk with hk
      have := (h.ownN.lt k e2).2
      omega
  refine ⟨A', c', rfl, ⟨hlaid.set 4 _ rfl, own_set ?_ (by omega) _, own_set ho (by omega) _, hmv⟩, hg.grown.size, hlaid⟩
  exact h.ownN.kept hg.grown (by
    rcases hv : (Value.slice A nums.length c).ownBlock with _ | k
    · exact .inl rfl
    · exact .inr fun e1 => h.ap k hv e1.symm)
end
end Go.Proofs.YtbgojfgapbcanaaDoor
