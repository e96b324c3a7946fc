/- The document's read: numbers ahead, a text, a row, perhaps a number behind. -/
import Derived.Test.YtemokpnepnmmkaaMn
import Derived.Test.YtemokpnepnmmkaaMd
import Derived.Deep.RegionHeld
namespace Go.Proofs.Ytemokpnepnmmkaa
open Go.RowKit
theorem info_u64 : (Try.prog.info? 62).map (fun i => (i.zero, i.size, i.bytes)) = some (some (.int .u64 0), 1, 8) := by kernel_rfl
/-- So many numbers, one behind the other. -/
def numsR : Nat → List UInt8 → Nat → List Nat × List UInt8 × Nat
  | 0, b, e => ([], b, e)
  | k + 1, b, e => ((numsR k b e).1 ++ [(numR (numsR k b e).2.1 (numsR k b e).2.2).1], (numR (numsR k b e).2.1 (numsR k b e).2.2).2.1, (numR (numsR k b e).2.1 (numsR k b e).2.2).2.2)
theorem numR_rest (b : List UInt8) (e : Nat) : (numR b e).2.1.length ≤ b.length := by
  unfold numR; split
  · exact Nat.le_refl _
  · simp
theorem textR_rest (b : List UInt8) (e : Nat) : (textR b e).2.1.length ≤ b.length := by
  have h := numR_rest b e
  unfold textR
  dsimp only
  split
  · exact h
  · split
    · exact h
    · simp; omega
theorem numsR_rest : ∀ (k : Nat) (b : List UInt8) (e : Nat), (numsR k b e).2.1.length ≤ b.length
  | 0, _, _ => Nat.le_refl _
  | k + 1, b, e => Nat.le_trans (numR_rest _ _) (numsR_rest k b e)
theorem numsR_len : ∀ (k : Nat) (b : List UInt8) (e : Nat), (numsR k b e).1.length = k
  | 0, _, _ => rfl
  | k + 1, b, e => by rw [numsR, List.length_append, numsR_len k b e]; rfl
theorem rowR_rest : ∀ (k : Nat) (b : List UInt8) (e : Nat), (rowR k b e).2.1.length ≤ b.length
  | 0, _, _ => Nat.le_refl _
  | k + 1, b, e => by rw [rowR_snoc]; exact Nat.le_trans (textR_rest _ _) (rowR_rest k b e)
def readM (bs : List UInt8) (ahead : Nat) (behind : Bool) : List Nat × List UInt8 × List (List UInt8) × Bool × List UInt8 × Nat :=
  let q := numsR ahead bs 0
  let d := textR q.2.1 q.2.2
  let r := numR d.2.1 d.2.2
  if 4096 < r.1 then (q.1, d.1, [], true, r.2.1, r.2.2) else
  let p := rowR r.1 r.2.1 r.2.2
  if behind then (q.1 ++ [(numR p.2.1 p.2.2).1], d.1, p.1, false, (numR p.2.1 p.2.2).2.1, (numR p.2.1 p.2.2).2.2) else (q.1, d.1, p.1, false, p.2.1, p.2.2)
abbrev L6 (b : List UInt8) (e : Nat) (A : Option Addr) (n c : Nat) (t : List UInt8) (A2 : Option Addr) (n2 c2 : Nat) (long : Bool) : Array Value := #[.string (mkS b), .int .i64 (e : Int), .slice A n c, .string (mkS t), .slice A2 n2 c2, .bool long]
abbrev Z6 : Array Value := #[.string ⟨#[]⟩, .int .i64 0, .slice none 0 0, .string ⟨#[]⟩, .slice none 0 0, .bool false]
abbrev Lr (w W : World) (cs : Array Value) : Prop := Laid 98 Z6 w W cs
/-- The struct that read fills, and its own rows. -/
structure Rec (w W : World) (b : List UInt8) (e : Nat) (A : Option Addr) (nums : List Nat) (c : Nat) (t : List UInt8) (A2 : Option Addr) (row : List (List UInt8)) (c2 : Nat) (long : Bool) : Prop where
  laid : Lr w W (L6 b e A nums.length c t A2 row.length c2 long)
  ownN : W.ownsRow (w.heap.size + 2) 62 1 (.slice A nums.length c) (nums.map nv).length (nums.map nv)
  ownR : W.ownsRow (w.heap.size + 2) 9 1 (.slice A2 row.length c2) (row.map sv).length (row.map sv)
  ap : ∀ k, (Value.slice A nums.length c).ownBlock = some k → (Value.slice A2 row.length c2).ownBlock ≠ some k
section
variable {w W W' : World} {b : List UInt8} {e : Nat} {A : Option Addr} {nums : List Nat} {c : Nat} {t : List UInt8} {A2 : Option Addr} {row : List (List UInt8)} {c2 : Nat} {long : Bool}
theorem Rec.later (h : Rec w W b e A nums c t A2 row c2 long) (hl : Later W W') : Rec w W' b e A nums c t A2 row c2 long :=
  ⟨h.laid.keep hl (by have := h.laid.size; omega), own_below h.ownN hl, own_below h.ownR hl, h.ap⟩
theorem own_set {base n size : Nat} {ty : TypeId} {v : Value} {xs : List Value} (h : W.ownsRow base ty size v n xs) {b i : Nat} (hb : b < base) (u : Value) : (W.setCell ⟨b, i, none⟩ u).ownsRow base ty size v n xs :=
  own_grown h (set_only W b i u) hb
/-- The reader's state is written. -/
theorem Rec.setR (h : Rec w W b e A nums c t A2 row c2 long) (b' : List UInt8) (e' : Nat) : Rec w ((W.setCell ⟨w.heap.size + 1, 0, none⟩ (.string (mkS b'))).setCell ⟨w.heap.size + 1, 1, none⟩ (.int .i64 (e' : Int))) b' e' A nums c t A2 row c2 long :=
  ⟨(h.laid.set 0 _ rfl).set 1 _ rfl, own_set (own_set h.ownN (by omega) _) (by omega) _, own_set (own_set h.ownR (by omega) _) (by omega) _, h.ap⟩
theorem Rec.setT (h : Rec w W b e A nums c t A2 row c2 long) (t' : List UInt8) : Rec w (W.setCell ⟨w.heap.size + 1, 3, none⟩ (.string (mkS t'))) b e A nums c t' A2 row c2 long :=
  ⟨h.laid.set 3 _ rfl, own_set h.ownN (by omega) _, own_set h.ownR (by omega) _, h.ap⟩
theorem Rec.setL (h : Rec w W b e A nums c t A2 row c2 long) (l : Bool) : Rec w (W.setCell ⟨w.heap.size + 1, 5, none⟩ (.bool l)) b e A nums c t A2 row c2 l :=
  ⟨h.laid.set 5 _ rfl, own_set h.ownN (by omega) _, own_set h.ownR (by omega) _, h.ap⟩
theorem Rec.facts (h : Rec w W b e A nums c t A2 row c2 long) : (W.cell? ⟨w.heap.size + 1, 0, none⟩ = some (.string (mkS b)) ∧ W.cell? ⟨w.heap.size + 1, 1, none⟩ = some (.int .i64 (e : Int)) ∧ W.cell? ⟨w.heap.size + 1, 2, none⟩ = some (.slice A nums.length c) ∧ W.cell? ⟨w.heap.size + 1, 3, none⟩ = some (.string (mkS t)) ∧ W.cell? ⟨w.heap.size + 1, 4, none⟩ = some (.slice A2 row.length c2) ∧ W.cell? ⟨w.heap.size + 1, 5, none⟩ = some (.bool long)) ∧ (∀ i, W.frozen? ⟨w.heap.size + 1, i, none⟩ = false) ∧ w.heap.size + 1 < W.heap.size :=
  ⟨⟨h.laid.cell 0, h.laid.cell 1, h.laid.cell 2, h.laid.cell 3, h.laid.cell 4, h.laid.cell 5⟩, h.laid.frozen, h.laid.size⟩
theorem Rec.facts0 (h : Rec w W b e A nums c t A2 row c2 long) : (W.cell? ⟨w.heap.size, 0, none⟩ = some (.string ⟨#[]⟩) ∧ W.cell? ⟨w.heap.size, 1, none⟩ = some (.int .i64 0) ∧ W.cell? ⟨w.heap.size, 2, none⟩ = some (.slice none 0 0) ∧ W.cell? ⟨w.heap.size, 3, none⟩ = some (.string ⟨#[]⟩) ∧ W.cell? ⟨w.heap.size, 4, none⟩ = some (.slice none 0 0) ∧ W.cell? ⟨w.heap.size, 5, none⟩ = some (.bool false)) ∧ (∀ i, W.frozen? ⟨w.heap.size, i, none⟩ = false) :=
  ⟨⟨h.laid.cell0 0, h.laid.cell0 1, h.laid.cell0 2, h.laid.cell0 3, h.laid.cell0 4, h.laid.cell0 5⟩, h.laid.frozen0⟩
/-- The numbers have grown: their slice is written. -/
theorem Rec.pushN (h : Rec w W b e A nums c t A2 row c2 long) {x : Nat} {nums1 : List Nat} (hn1 : nums1 = nums ++ [x]) {v' : Value} (hg : Grew W W' (w.heap.size + 2) 62 (.slice A nums.length c) v' (nums.map nv ++ [nv x])) :
    ∃ A' c', v' = .slice A' nums1.length c' ∧ Rec w (W'.setCell ⟨w.heap.size + 1, 2, none⟩ (.slice A' nums1.length c')) b e A' nums1 c' t A2 row c2 long ∧ W.heap.size ≤ W'.heap.size ∧ Lr w W' (L6 b e A nums.length c t A2 row.length c2 long) := by
  subst hn1
  have ho := hg.own
  have e1 : nums.map nv ++ [nv x] = (nums ++ [x]).map nv := by simp
  rw [e1] at ho
  obtain ⟨A', c', rfl, h1, h2, h3⟩ := own_map ho
  have hb := hg.below h.ownN (by have := h.laid.size; omega)
  have hlaid : Lr w W' (L6 b e A nums.length c t A2 row.length c2 long) := h.laid.keep hb (Nat.le_refl _)
  have hmv : ∀ k, (Value.slice A' (nums ++ [x]).length c').ownBlock = some k → (Value.slice A2 row.length c2).ownBlock ≠ some k := fun k hk e2 => by
    rcases hg.moved with h5 | ⟨k', h5, h6⟩
    · exact h.ap k (by rw [← h5]; exact hk) e2
    · rw [h5] at hk
      injection hk with hk
      have := (h.ownR.lt k e2).2
      omega
  refine ⟨A', c', rfl, ⟨hlaid.set 2 _ rfl, own_set ho (by omega) _, own_set ?_ (by omega) _, hmv⟩, hg.grown.size, hlaid⟩
  exact h.ownR.kept hg.grown (by
    rcases hv : (Value.slice A2 row.length c2).ownBlock with _ | k
    · exact .inl rfl
    · exact .inr fun e1 => h.ap k e1.symm hv)
/-- The row has grown: its slice is written. -/
theorem Rec.pushR (h : Rec w W b e A nums c t A2 row c2 long) {x : List UInt8} {row1 : List (List UInt8)} (hn1 : row1 = row ++ [x]) {v' : Value} (hg : Grew W W' (w.heap.size + 2) 9 (.slice A2 row.length c2) v' (row.map sv ++ [sv x])) :
    ∃ A' c', v' = .slice A' row1.length c' ∧ Rec w (W'.setCell ⟨w.heap.size + 1, 4, none⟩ (.slice A' row1.length c')) b e A nums c t A' row1 c' long ∧ W.heap.size ≤ W'.heap.size ∧ Lr w W' (L6 b e A nums.length c t A2 row.length c2 long) := by
  subst hn1
  have ho := hg.own
  have e1 : row.map sv ++ [sv x] = (row ++ [x]).map sv := by simp
  rw [e1] at ho
  obtain ⟨A', c', rfl, h1, h2, h3⟩ := own_map ho
  have hb := hg.below h.ownR (by have := h.laid.size; omega)
  have hlaid : Lr w W' (L6 b e A nums.length c t A2 row.length c2 long) := h.laid.keep hb (Nat.le_refl _)
  have hmv : ∀ k, (Value.slice A nums.length c).ownBlock = some k → (Value.slice A' (row ++ [x]).length c').ownBlock ≠ some k := fun k e2 hk => by
    rcases hg.moved with h5 | ⟨k', h5, h6⟩
    · exact h.ap k e2 (by rw [← h5]; exact hk)
    · rw [h5] at hk
      injection hk with hk
      have := (h.ownN.lt k e2).2
      omega
  refine ⟨A', c', rfl, ⟨hlaid.set 4 _ rfl, own_set ?_ (by omega) _, own_set ho (by omega) _, hmv⟩, hg.grown.size, hlaid⟩
  exact h.ownN.kept hg.grown (by
    rcases hv : (Value.slice A nums.length c).ownBlock with _ | k
    · exact .inl rfl
    · exact .inr fun e1 => h.ap k hv e1.symm)
end
end Go.Proofs.Ytemokpnepnmmkaa
/- The document's read, walked. -/
namespace Go.Proofs.Ytemokpnepnmmkaa
open Go.RowKit
theorem rd_num (w : World) (x : Nat) (o : Obj) (p0 p1 : Addr) (u0 u1 : Value) : Rd ((((w.setCell p0 u0).setCell p1 u1).alloc o).alloc (.cells #[.int .u64 (x : Int)] 62)) (w.heap.size + 2) (some ⟨w.heap.size + 1, 0, none⟩) 1 [.int .u64 (x : Int)] := by
  have h := Rd.lit (((w.setCell p0 u0).setCell p1 u1).alloc o) 62 [.int .u64 (x : Int)]
  simpa using h
theorem rd_txt (w : World) (x : List UInt8) (o : Obj) (p0 p1 : Addr) (u0 u1 : Value) : Rd ((((w.setCell p0 u0).setCell p1 u1).alloc o).alloc (.cells #[.string (mkS x)] 9)) (w.heap.size + 2) (some ⟨w.heap.size + 1, 0, none⟩) 1 [.string (mkS x)] := by
  have h := Rd.lit (((w.setCell p0 u0).setCell p1 u1).alloc o) 9 [.string (mkS x)]
  simpa using h
theorem two_later' (w : World) (o o2 : Obj) : Later w ((w.alloc o).alloc o2) := Later.trans (Later.alloc w o) (Later.alloc _ o2)
theorem one_num (x : Nat) : ∀ u ∈ [Value.int .u64 (x : Int)], u.oneCell' = true := by simp [Value.oneCell']
theorem one_txt (x : List UInt8) : ∀ u ∈ [Value.string (mkS x)], u.oneCell' = true := by simp [Value.oneCell']
theorem Keeps.set {S : Nat → Prop} (W : World) {b : Nat} (h : S b) (i : Nat) (u : Value) : Keeps S W (W.setCell ⟨b, i, none⟩ u) :=
  ⟨by simp, fun j _ hj => Below.heap_setCell _ _ _ _ (fun e => hj (by rw [e]; exact h))⟩
def Two (a : Nat) : Nat → Prop := fun i => i = a ∨ i = a + 1
theorem two_l (a : Nat) : Two a a := .inl rfl
theorem two_r (a : Nat) : Two a (a + 1) := .inr rfl
theorem keeps_fill (a : Nat) (W : World) (u0 u1 u2 u3 u4 u5 : Value) : Keeps (Two a) W ((((((W.setCell ⟨a, 0, none⟩ u0).setCell ⟨a, 1, none⟩ u1).setCell ⟨a, 2, none⟩ u2).setCell ⟨a, 3, none⟩ u3).setCell ⟨a, 4, none⟩ u4).setCell ⟨a, 5, none⟩ u5) :=
  Keeps.trans (Keeps.set _ (two_l a) 0 u0) (Keeps.trans (Keeps.set _ (two_l a) 1 u1) (Keeps.trans (Keeps.set _ (two_l a) 2 u2) (Keeps.trans (Keeps.set _ (two_l a) 3 u3) (Keeps.trans (Keeps.set _ (two_l a) 4 u4) (Keeps.set _ (two_l a) 5 u5)))))
theorem below_fill {w W : World} (h : Below w.heap.size w W) (u0 u1 u2 u3 u4 u5 : Value) : Below w.heap.size w ((((((W.setCell ⟨w.heap.size, 0, none⟩ u0).setCell ⟨w.heap.size, 1, none⟩ u1).setCell ⟨w.heap.size, 2, none⟩ u2).setCell ⟨w.heap.size, 3, none⟩ u3).setCell ⟨w.heap.size, 4, none⟩ u4).setCell ⟨w.heap.size, 5, none⟩ u5) :=
  (((((h.setCell (by simp) u0).setCell (by simp) u1).setCell (by simp) u2).setCell (by simp) u3).setCell (by simp) u4).setCell (by simp) u5
theorem rec_rdN {w W : World} {b : List UInt8} {e : Nat} {A : Option Addr} {nums : List Nat} {c : Nat} {t : List UInt8} {A2 : Option Addr} {row : List (List UInt8)} {c2 : Nat} {long : Bool} (h : Rec w W b e A nums c t A2 row c2 long) {W' : World} (hk : Keeps (Two w.heap.size) W W') : Rd W' W'.heap.size A nums.length (nums.map nv) ∧ nums.length ≤ c := by
  obtain ⟨A', c', hv, h1, h2, h3⟩ := own_map h.ownN
  injection hv with h4 h5 h6
  subst h4
  subst h6
  exact ⟨hk.rd h2 (fun ad e1 h7 => by have := (h3 ad e1).1; rcases h7 with h7 | h7 <;> omega), h1⟩
theorem rec_rdR {w W : World} {b : List UInt8} {e : Nat} {A : Option Addr} {nums : List Nat} {c : Nat} {t : List UInt8} {A2 : Option Addr} {row : List (List UInt8)} {c2 : Nat} {long : Bool} (h : Rec w W b e A nums c t A2 row c2 long) {W' : World} (hk : Keeps (Two w.heap.size) W W') : Rd W' W'.heap.size A2 row.length (row.map sv) ∧ row.length ≤ c2 ∧ (∀ ad, A2 = some ad → w.heap.size ≤ ad.block) := by
  obtain ⟨A', c', hv, h1, h2, h3⟩ := own_map h.ownR
  injection hv with h4 h5 h6
  subst h4
  subst h6
  exact ⟨hk.rd h2 (fun ad e1 h7 => by have := (h3 ad e1).1; rcases h7 with h7 | h7 <;> omega), h1, fun ad e1 => by have := (h3 ad e1).1; omega⟩
theorem Rec0.facts0 {w W : World} {cs : Array Value} (h : Lr w W cs) : (W.cell? ⟨w.heap.size, 0, none⟩ = some (.string ⟨#[]⟩) ∧ W.cell? ⟨w.heap.size, 1, none⟩ = some (.int .i64 0) ∧ W.cell? ⟨w.heap.size, 2, none⟩ = some (.slice none 0 0) ∧ W.cell? ⟨w.heap.size, 3, none⟩ = some (.string ⟨#[]⟩) ∧ W.cell? ⟨w.heap.size, 4, none⟩ = some (.slice none 0 0) ∧ W.cell? ⟨w.heap.size, 5, none⟩ = some (.bool false)) ∧ (∀ i, W.frozen? ⟨w.heap.size, i, none⟩ = false) :=
  ⟨⟨h.cell0 0, h.cell0 1, h.cell0 2, h.cell0 3, h.cell0 4, h.cell0 5⟩, h.frozen0⟩
abbrev RV (b : List UInt8) (e : Nat) : Array Value := #[.string (mkS b), .int .i64 (e : Int)]
set_option maxRecDepth 100000 in
set_option maxHeartbeats 2000000 in
theorem read_v (w : World) (bs : List UInt8) (hn : bs.length ≤ 140737488351232) (ahead : Nat) (ha : ahead ≤ 4) (behind : Bool) :
    Calls Try.prog 51 #[.string (mkS bs), .int .i64 (ahead : Int), .bool behind] w fun r w' => ∃ (A : Option Addr) (c : Nat) (nums : List Nat) (t : List UInt8) (A2 : Option Addr) (c2 : Nat) (row : List (List UInt8)) (b : List UInt8) (e : Nat) (long : Bool),
      r = .returned (.agg (L6 b e A nums.length c t A2 row.length c2 long)) ∧ readM bs ahead behind = (nums, t, row, long, b, e) ∧ Rd w' w'.heap.size A nums.length (nums.map nv) ∧ nums.length ≤ c ∧ Rd w' w'.heap.size A2 row.length (row.map sv) ∧ row.length ≤ c2 ∧ Later w w' ∧ (∀ ad, A2 = some ad → w.heap.size ≤ ad.block) := by
  obtain ⟨in0, hin, hnz0, hnz1, hnz2⟩ := info_parts info_u64
  obtain ⟨is0, his, hsz0, hsz1, hsz2⟩ := info_parts info_str
  have HIN := Lib.hid (And.intro hin (And.intro hnz0 (And.intro hnz1 hnz2)))
  have HIS := Lib.hid (And.intro his (And.intro hsz0 (And.intro hsz1 hsz2)))
  have hB2 := Lib.hid (two_below w (.cells Z6 98) (.cells (L6 bs 0 none 0 0 [] none 0 0 false) 98))
  have hL2 : Hid (∀ W, Below (w.heap.size + 2) ((w.alloc (.cells Z6 98)).alloc (.cells (L6 bs 0 none 0 0 [] none 0 0 false) 98)) W → Rec w W bs 0 none [] 0 [] none [] 0 false) := fun W hW => by
    refine ⟨Laid.keep ⟨?_, ?_, hB2.out⟩ hW (Nat.le_refl _), World.ownsRow_nil _ _ _ _, World.ownsRow_nil _ _ _ _, fun k hk => by cases hk⟩
    · rw [((Below.refl (w.heap.size + 1) (w.alloc (.cells Z6 98))).alloc (by simp) _).block _ (by omega)]
      exact heap_alloc_new w _
    · have := heap_alloc_new (w.alloc (.cells Z6 98)) (.cells (L6 bs 0 none 0 0 [] none 0 0 false) 98)
      rwa [World.size_alloc] at this
  clear hin hnz0 hnz1 hnz2 his hsz0 hsz1 hsz2
  go_enter Try.func51, Try.ntmps51
  go_wp2
  go_loopw [8] (fun i wr => ∃ (k : Nat) (b' : List UInt8) (e' : Nat) (A : Option Addr) (nums : List Nat) (c : Nat), k ≤ ahead ∧ i = .int .i64 (k : Int) ∧ numsR k bs 0 = (nums, b', e') ∧ Rec w wr b' e' A nums c [] none [] 0 false) (fun i _ => ahead - (intOf i).toNat)
  case atStart => exact ⟨0, bs, 0, none, [], 0, by omega, rfl, rfl, hL2.out _ (Below.refl _ _)⟩
  case round =>
    obtain ⟨k, b', e', A, nums, c, hk, rfl, hnums, hrec⟩ := hrel
    have HREC := Lib.hid hrec
    have HNUMS := Lib.hid hnums
    obtain ⟨⟨q0, q1, q2, q3, q4, q5⟩, qf, qz⟩ := hrec.facts
    have hb' : b'.length ≤ 140737488351232 := by have := numsR_rest k bs 0; rw [hnums] at this; dsimp only at this; omega
    have hnl : nums.length = k := by have := numsR_len k bs 0; rw [hnums] at this; exact this
    clear hrec hnums
    by_cases hlt : k < ahead
    · obtain ⟨x, b2, e2, hx⟩ : ∃ x b2 e2, numR b' e' = (x, b2, e2) := ⟨_, _, _, rfl⟩
      have hnx := next_v b' e' wr hb'
      unfold rv at hnx
      rw [hx] at hnx
      dsimp only at hnx
      obtain ⟨nums1, hn1⟩ : ∃ nums1, nums1 = nums ++ [x] := ⟨_, rfl⟩
      have HN1 := Lib.hid hn1
      have HX := Lib.hid hx
      have HNX := Lib.hid hnx
      have HNL := Lib.hid hnl
      have HB' := Lib.hid hb'
      clear hn1 hx hnx hnl hb'
      obtain ⟨hin, hnz0, hnz1, hnz2⟩ := HIN.out
      go_wp2_with (first
        | (go_at_call 68; (with_reducible refine HNX.out.mono ?_); rintro r w2 ⟨rfl, hb2⟩; have R2 := Lib.hid (HREC.out.later hb2); clear q0 q1 q2 q3 q4 q5 qf qz; obtain ⟨⟨q0, q1, q2, q3, q4, q5⟩, qf, qz⟩ := R2.out.facts; have R4 := Lib.hid (fun o o2 => (R2.out.setR b2 e2).later (two_later' _ o o2)); have RM := Lib.hid (rd_num w2 x); clear hb2)
        | (at_builtin; refine wpList_appN _ rfl (.tmp 37) (.tmp 39) _ rfl (w.heap.size + 2) 62 in0 (.int .u64 0) 8 Try.underlying96 hin hnz0 hnz1 hnz2 rfl (.slice A nums.length c) (nums.map nv) rfl (R4.out _ _).ownN (w2.heap.size + 2) (some ⟨w2.heap.size + 1, 0, none⟩) 1 1 [.int .u64 (x : Int)] rfl (RM.out _ _ _ _ _) (one_num x) ?hby ?hle ?hba ?_; (case hby => have := HNL.out; simp only [List.length_map]; omega); (case hle => have := HNL.out; simp only [List.length_map]; omega); (case hba => simp; omega); intro v4 w4 hg4; obtain ⟨A4, c4, rfl, r4, hs4, l4⟩ := (R4.out _ _).pushN HN1.out hg4; have REC4 := Lib.hid r4; clear q0 q1 q2 q3 q4 q5 qf qz; have q2 := l4.cell 2; have qf := l4.frozen; have qz := l4.size; clear r4 l4 hg4 hs4))
      go_roundw
      case rel => exact ⟨k + 1, b2, e2, A4, nums1, c4, by omega, by go_num, by rw [numsR, HNUMS.out]; dsimp only; rw [HX.out, HN1.out], REC4.out⟩
      case measure => simp [intOf]; omega
    · have hka : k = ahead := by omega
      subst hka
      obtain ⟨t, b2, e2, ht⟩ : ∃ t b2 e2, textR b' e' = (t, b2, e2) := ⟨_, _, _, rfl⟩
      obtain ⟨N, b3, e3, hN⟩ : ∃ N b3 e3, numR b2 e2 = (N, b3, e3) := ⟨_, _, _, rfl⟩
      have hb2 : b2.length ≤ 140737488351232 := by have := textR_rest b' e'; rw [ht] at this; dsimp only at this; omega
      have hb3 : b3.length ≤ 140737488351232 := by have := numR_rest b2 e2; rw [hN] at this; dsimp only at this; omega
      have hwx := word_v b' e' wr hb'
      have hnx := fun W => next_v b2 e2 W hb2
      unfold rv at hwx hnx
      rw [ht] at hwx
      rw [hN] at hnx
      dsimp only at hwx hnx
      have HM : Hid (∀ row b5 e5, N ≤ 4096 → rowR N b3 e3 = (row, b5, e5) → readM bs k behind = if behind then (nums ++ [(numR b5 e5).1], t, row, false, (numR b5 e5).2.1, (numR b5 e5).2.2) else (nums, t, row, false, b5, e5)) := fun row b5 e5 h1 h2 => by
        unfold readM
        dsimp only
        rw [HNUMS.out]
        dsimp only
        rw [ht]
        dsimp only
        rw [hN]
        dsimp only
        rw [if_neg (by omega), h2]
      have HML : Hid (4096 < N → readM bs k behind = (nums, t, [], true, b3, e3)) := fun h1 => by
        unfold readM
        dsimp only
        rw [HNUMS.out]
        dsimp only
        rw [ht]
        dsimp only
        rw [hN]
        dsimp only
        rw [if_pos h1]
      have hN64 : N < 18446744073709551616 := by have := numR_lt b2 e2; rw [hN] at this; exact this
      have HWX := Lib.hid hwx
      have HNX := Lib.hid hnx
      have HB3 := Lib.hid hb3
      have HNL := Lib.hid hnl
      clear hwx hnx ht hN hb2 hb3 hb' hnl hk hlt
      have pre : True := trivial
      by_cases hbig : 4096 < N
      · have hbi : (4096 : Int) < (N : Int) := by omega
        have hml := Lib.hid (HML.out hbig)
        clear HIN HIS hB2 hL2 HM HML HB3 HNL hN64 HNUMS hn ha pre
        go_wp2_with (first
          | (go_at_call 69; (with_reducible refine HWX.out.mono ?_); rintro r w2 ⟨rfl, hb2⟩; have R2 := Lib.hid (HREC.out.later hb2); clear q0 q1 q2 q3 q4 q5 qf qz; obtain ⟨⟨q0, q1, q2, q3, q4, q5⟩, qf, qz⟩ := R2.out.facts; have RT := Lib.hid (fun o => (R2.out.setT t).later (Later.alloc _ o)); clear hb2)
          | (go_at_call 68; (with_reducible refine (HNX.out _).mono ?_); rintro r w3 ⟨rfl, hb3⟩; have RL := Lib.hid ((RT.out _).later hb3); clear q0 q1 q2 q3 q4 q5 qf qz; obtain ⟨⟨q0, q1, q2, q3, q4, q5⟩, qf, qz⟩ := RL.out.facts; obtain ⟨⟨p0, p1, p2, p3, p4, p5⟩, pf⟩ := RL.out.facts0; have qz0 := Nat.lt_of_succ_lt qz; clear hb3))
        refine bodyPost_ret (v := .agg #[.string (mkS b3), .int .i64 (e3 : Int), .slice A nums.length c, .string (mkS t), .slice none 0 0, .bool true]) (by simp [results, Try.results51, go_sem, p0, p1, p2, p3, p4, p5, qz0]) rfl
          ⟨A, c, nums, t, none, 0, [], b3, e3, true, rfl, hml.out, (rec_rdN RL.out (W' := _) ?_).1, (rec_rdN RL.out (Keeps.of (Later.refl _))).2, (rec_rdR RL.out (W' := _) ?_).1, (rec_rdR RL.out (Keeps.of (Later.refl _))).2.1, ?_, (rec_rdR RL.out (Keeps.of (Later.refl _))).2.2⟩
        · exact Keeps.trans (Keeps.set w3 (two_r _) 0 _) (Keeps.trans (Keeps.set _ (two_r _) 1 _) (Keeps.trans (Keeps.set _ (two_r _) 5 _) (Keeps.trans (keeps_fill _ _ _ _ _ _ _ _) (Keeps.of (Later.alloc _ _)))))
        · exact Keeps.trans (Keeps.set w3 (two_r _) 0 _) (Keeps.trans (Keeps.set _ (two_r _) 1 _) (Keeps.trans (Keeps.set _ (two_r _) 5 _) (Keeps.trans (keeps_fill _ _ _ _ _ _ _ _) (Keeps.of (Later.alloc _ _)))))
        · show Below _ _ _
          exact Below.trans (below_fill (Below.setCell (Below.setCell (Below.setCell RL.out.laid.bel (Nat.le_succ _) _) (Nat.le_succ _) _) (Nat.le_succ _) _) _ _ _ _ _ _) (Below.mono (Later.alloc _ _) (by have := RL.out.laid.size; simp; omega))
      · have hN4 : N ≤ 4096 := by omega
        have PK := Lib.hid (And.intro HIN.out (And.intro HIS.out (And.intro HM.out (And.intro HB3.out (And.intro HNL.out ha)))))
        clear HIN HIS hB2 hL2 HM HML HB3 HNL hN64 HNUMS hn ha pre
        have hni : ¬ (4096 : Int) < (N : Int) := by omega
        have hwN : IntKind.i64.wrap (N : Int) = (N : Int) := by rw [IntKind.wrap_i64]; omega
        go_wp2_with (first
          | (go_at_call 69; (with_reducible refine HWX.out.mono ?_); rintro r w2 ⟨rfl, hb2⟩; have R2 := Lib.hid (HREC.out.later hb2); clear q0 q1 q2 q3 q4 q5 qf qz; obtain ⟨⟨q0, q1, q2, q3, q4, q5⟩, qf, qz⟩ := R2.out.facts; have RT := Lib.hid (fun o => (R2.out.setT t).later (Later.alloc _ o)); clear hb2)
          | (go_at_call 68; (with_reducible refine (HNX.out _).mono ?_); rintro r w3 ⟨rfl, hb3⟩; have R3 := Lib.hid ((RT.out _).later hb3); clear q0 q1 q2 q3 q4 q5 qf qz; obtain ⟨⟨q0, q1, q2, q3, q4, q5⟩, qf, qz⟩ := R3.out.facts; clear hb3))
        have R4 := Lib.hid (fun o => (R3.out.setR b3 e3).later (Later.alloc _ o))
        clear q0 q1 q2 q3 q4 q5 qf qz
        go_loopw [15] (fun i wz => ∃ (j : Nat) (b5 : List UInt8) (e5 : Nat) (A2 : Option Addr) (row : List (List UInt8)) (c2 : Nat), j ≤ N ∧ i = .int .i64 (j : Int) ∧ rowR j b3 e3 = (row, b5, e5) ∧ Rec w wz b5 e5 A nums c t A2 row c2 false) (fun i _ => N - (intOf i).toNat)
        case atStart => exact ⟨0, b3, e3, none, [], 0, by omega, rfl, rfl, R4.out _⟩
        case round =>
          obtain ⟨j, b5, e5, A2, row, c2, hj, rfl, hrow, hrec⟩ := hrel
          have HR5 := Lib.hid hrec
          have HROW := Lib.hid hrow
          obtain ⟨⟨q0, q1, q2, q3, q4, q5⟩, qf, qz⟩ := hrec.facts
          obtain ⟨⟨p0, p1, p2, p3, p4, p5⟩, pf⟩ := hrec.facts0
          have qz0 := Nat.lt_of_succ_lt qz
          have hb5 := Lib.hid (show b5.length ≤ 140737488351232 by have := rowR_rest j b3 e3; rw [hrow] at this; dsimp only at this; have := PK.out.2.2.2.1; omega)
          have hrl := Lib.hid (show row.length = j by have := rowR_len j b3 e3; rw [hrow] at this; exact this)
          clear hrec hrow
          by_cases hlt : j < N
          · obtain ⟨x, b6, e6, hx⟩ : ∃ x b e, textR b5 e5 = (x, b, e) := ⟨_, _, _, rfl⟩
            have hwx := word_v b5 e5 wr hb5.out
            unfold rv at hwx
            rw [hx] at hwx
            dsimp only at hwx
            obtain ⟨row1, hn1⟩ : ∃ row1, row1 = row ++ [x] := ⟨_, rfl⟩
            have hstep : rowR (j + 1) b3 e3 = (row1, b6, e6) := by rw [rowR_snoc, HROW.out]; dsimp only; rw [hx, hn1]
            have HST := Lib.hid hstep
            have HN1 := Lib.hid hn1
            have HW2 := Lib.hid hwx
            clear hwx hx hn1 hstep p0 p1 p2 p3 p4 p5 pf
            obtain ⟨his, hsz0, hsz1, hsz2⟩ := PK.out.2.1
            go_wp2_with (first
              | (go_at_call 69; (with_reducible refine HW2.out.mono ?_); rintro r w2' ⟨rfl, hb2⟩; have R2' := Lib.hid (HR5.out.later hb2); clear q0 q1 q2 q3 q4 q5 qf qz; obtain ⟨⟨q0, q1, q2, q3, q4, q5⟩, qf, qz⟩ := R2'.out.facts; have R4' := Lib.hid (fun o o2 => (R2'.out.setR b6 e6).later (two_later' _ o o2)); have RM := Lib.hid (rd_txt w2' x); clear hb2)
              | (at_builtin; refine wpList_appN _ rfl (.tmp 76) (.tmp 78) _ rfl (w.heap.size + 2) 9 is0 (.string ⟨#[]⟩) 16 Try.underlying32 his hsz0 hsz1 hsz2 rfl (.slice A2 row.length c2) (row.map sv) rfl (R4'.out _ _).ownR (w2'.heap.size + 2) (some ⟨w2'.heap.size + 1, 0, none⟩) 1 1 [.string (mkS x)] rfl (RM.out _ _ _ _ _) (one_txt x) ?hby ?hle ?hba ?_; (case hby => have := hrl.out; simp only [List.length_map]; omega); (case hle => have := hrl.out; simp only [List.length_map]; omega); (case hba => simp; omega); intro v4 w4 hg4; obtain ⟨A4, c4, rfl, r4, hs4, l4⟩ := (R4'.out _ _).pushR HN1.out hg4; have REC4 := Lib.hid r4; clear q0 q1 q2 q3 q4 q5 qf qz; have q4 := l4.cell 4; have qf := l4.frozen; have qz := l4.size; clear r4 l4 hg4 hs4))
            go_roundw
            case rel => exact ⟨j + 1, b6, e6, A4, row1, c4, by omega, by go_num, HST.out, REC4.out⟩
            case measure => simp [intOf]; omega
          · have hjN : j = N := by omega
            subst hjN
            have hmm := PK.out.2.2.1 row b5 e5 hN4 HROW.out
            have HMM := Lib.hid hmm
            clear hmm hj hlt
            cases behind
            · go_wp2
              refine bodyPost_ret (v := .agg #[.string (mkS b5), .int .i64 (e5 : Int), .slice A nums.length c, .string (mkS t), .slice A2 row.length c2, .bool false]) (by simp [results, Try.results51, go_sem, p0, p1, p2, p3, p4, p5]) rfl
                ⟨A, c, nums, t, A2, c2, row, b5, e5, false, rfl, HMM.out, (rec_rdN HR5.out (W' := _) ?_).1, (rec_rdN HR5.out (Keeps.of (Later.refl _))).2, (rec_rdR HR5.out (W' := _) ?_).1, (rec_rdR HR5.out (Keeps.of (Later.refl _))).2.1, ?_, (rec_rdR HR5.out (Keeps.of (Later.refl _))).2.2⟩
              · exact keeps_fill _ _ _ _ _ _ _ _
              · exact keeps_fill _ _ _ _ _ _ _ _
              · show Below _ _ _
                exact below_fill HR5.out.laid.bel _ _ _ _ _ _
            · obtain ⟨x, b6, e6, hx⟩ : ∃ x b e, numR b5 e5 = (x, b, e) := ⟨_, _, _, rfl⟩
              have hnx := next_v b5 e5 wr hb5.out
              unfold rv at hnx
              rw [hx] at hnx
              dsimp only at hnx
              have hmm := HMM.out
              rw [hx] at hmm
              obtain ⟨nums1, hn1⟩ : ∃ nums1, nums1 = nums ++ [x] := ⟨_, rfl⟩
              rw [if_pos rfl, ← hn1] at hmm
              have HM2 := Lib.hid hmm
              have HN1 := Lib.hid hn1
              have HW2 := Lib.hid hnx
              clear hnx hx hn1 hmm HMM
              obtain ⟨hin, hnz0, hnz1, hnz2⟩ := PK.out.1
              go_wp2_with (first
                | (go_at_call 68; (with_reducible refine HW2.out.mono ?_); rintro r w2' ⟨rfl, hb2⟩; have R2' := Lib.hid (HR5.out.later hb2); clear q0 q1 q2 q3 q4 q5 qf qz; obtain ⟨⟨q0, q1, q2, q3, q4, q5⟩, qf, qz⟩ := R2'.out.facts; have R4' := Lib.hid (fun o o2 => (R2'.out.setR b6 e6).later (two_later' _ o o2)); have RM := Lib.hid (rd_num w2' x); clear hb2)
                | (at_builtin; refine wpList_appN _ rfl (.tmp 91) (.tmp 93) _ rfl (w.heap.size + 2) 62 in0 (.int .u64 0) 8 Try.underlying96 hin hnz0 hnz1 hnz2 rfl (.slice A nums.length c) (nums.map nv) rfl (R4'.out _ _).ownN (w2'.heap.size + 2) (some ⟨w2'.heap.size + 1, 0, none⟩) 1 1 [.int .u64 (x : Int)] rfl (RM.out _ _ _ _ _) (one_num x) ?hby ?hle ?hba ?_; (case hby => have := PK.out.2.2.2.2.1; have := PK.out.2.2.2.2.2; simp only [List.length_map]; omega); (case hle => have := PK.out.2.2.2.2.1; have := PK.out.2.2.2.2.2; simp only [List.length_map]; omega); (case hba => simp; omega); intro v4 w4 hg4; obtain ⟨A4, c4, rfl, r4, hs4, l4⟩ := (R4'.out _ _).pushN HN1.out hg4; have REC4 := Lib.hid r4; clear q0 q1 q2 q3 q4 q5 qf qz p0 p1 p2 p3 p4 p5 pf qz0; obtain ⟨⟨p0, p1, p2, p3, p4, p5⟩, pf⟩ := Rec0.facts0 l4; have q0 := l4.cell 0; have q1 := l4.cell 1; have q2 := l4.cell 2; have q3 := l4.cell 3; have q4 := l4.cell 4; have q5 := l4.cell 5; have qf := l4.frozen; have qz := l4.size; have qz0 := Nat.lt_of_succ_lt qz; clear r4 l4 hg4 hs4))
              refine bodyPost_ret (v := .agg #[.string (mkS b6), .int .i64 (e6 : Int), .slice A4 nums1.length c4, .string (mkS t), .slice A2 row.length c2, .bool false]) (by simp [results, Try.results51, go_sem, p0, p1, p2, p3, p4, p5]) rfl
                ⟨A4, c4, nums1, t, A2, c2, row, b6, e6, false, rfl, HM2.out, (rec_rdN REC4.out (W' := _) ?_).1, (rec_rdN REC4.out (Keeps.of (Later.refl _))).2, (rec_rdR REC4.out (W' := _) ?_).1, (rec_rdR REC4.out (Keeps.of (Later.refl _))).2.1, ?_, (rec_rdR REC4.out (Keeps.of (Later.refl _))).2.2⟩
              · exact keeps_fill _ _ _ _ _ _ _ _
              · exact keeps_fill _ _ _ _ _ _ _ _
              · show Below _ _ _
                exact below_fill REC4.out.laid.bel _ _ _ _ _ _
end Go.Proofs.Ytemokpnepnmmkaa
/- The document's zag and fault. -/
namespace Go.Proofs.Ytemokpnepnmmkaa
open Go.RowKit
theorem zag4_v (x : Nat) (w : World) (h1 : x < 18446744073709551616) :
    Calls Try.prog 52 #[.int .u64 (x : Int)] w fun e w' => e = .returned (.int .i64 (zagZ x)) ∧ w = w' := by
  have hd : IntKind.u64.wrap ((x : Int) / 2) = ((x / 2 : Nat) : Int) := by rw [IntKind.wrap_u64]; omega
  obtain ⟨y, hy⟩ : ∃ y, y = x / 2 := ⟨_, rfl⟩
  have hy2 : (y : Int) ≤ 9223372036854775807 := by omega
  rw [← hy] at hd
  by_cases h : x % 2 = 1
  · have hm : ((x : Int) % 2 == 0) = false := by simp; omega
    have HX := Lib.hid h
    have HY := Lib.hid hy
    clear h1 h hy
    go_enter Try.func52, Try.ntmps52
    go_wp2
    go_ret
    refine ⟨ret_int ?_, rfl⟩
    rw [zagZ, if_pos HX.out, ← HY.out]
  · have hm : ((x : Int) % 2 == 0) = true := by simp; omega
    have HX := Lib.hid h
    have HY := Lib.hid hy
    clear h1 h hy
    go_enter Try.func52, Try.ntmps52
    go_wp2
    go_ret
    refine ⟨ret_int ?_, rfl⟩
    rw [zagZ, if_neg HX.out, ← HY.out]
def faultOf (b : List UInt8) (e : Nat) (long right : Bool) : Int := if e ≠ 0 then (e : Int) else if long = true ∨ right = false then 11 else if b = [] then 0 else 14
theorem mkS_full {b : List UInt8} (h : b ≠ []) : (mkS b).toList.isEmpty = false := by
  rw [ByteArray.toList_eq, mkS_list]
  cases b with
  | nil => exact absurd rfl h
  | cons x l => rfl
set_option maxHeartbeats 400000 in
theorem fault_v (b : List UInt8) (e : Nat) (A : Option Addr) (n c : Nat) (t : List UInt8) (A2 : Option Addr) (n2 c2 : Nat) (long right : Bool) (w : World) :
    Calls Try.prog 53 #[.agg (L6 b e A n c t A2 n2 c2 long), .bool right] w fun r w' => r = .returned (.int .i64 (faultOf b e long right)) ∧ Later w w' := by
  have hb := Lib.hid (Later.alloc w (.cells (L6 b e A n c t A2 n2 c2 long) 98))
  by_cases he : e = 0
  case neg =>
    have hv : faultOf b e long right = (e : Int) := if_pos he
    have hne : ((e : Int) != 0) = true := by simp; omega
    rw [hv]
    clear hv he
    go_enter Try.func53, Try.ntmps53
    go_wp2
    go_ret
    exact ⟨rfl, hb.out⟩
  subst he
  cases long
  case true =>
    have hv : faultOf b 0 true right = 11 := by unfold faultOf; simp
    rw [hv]
    clear hv
    go_enter Try.func53, Try.ntmps53
    go_wp2
    go_ret
    exact ⟨rfl, hb.out⟩
  cases right
  case false =>
    have hv : faultOf b 0 false false = 11 := by unfold faultOf; simp
    rw [hv]
    clear hv
    go_enter Try.func53, Try.ntmps53
    go_wp2
    go_ret
    exact ⟨rfl, hb.out⟩
  by_cases hbb : b = []
  · subst hbb
    have hv : faultOf [] 0 false true = 0 := by unfold faultOf; simp
    rw [hv]
    have hm : (mkS []).toList = [] := by rw [ByteArray.toList_eq, mkS_list]
    clear hv
    go_enter Try.func53, Try.ntmps53
    go_wp2
    go_ret
    exact ⟨rfl, hb.out⟩
  · have hv : faultOf b 0 false true = 14 := by unfold faultOf; simp [hbb]
    rw [hv]
    have hm := mkS_full hbb
    clear hv hbb
    go_enter Try.func53, Try.ntmps53
    go_wp2
    go_ret
    exact ⟨rfl, hb.out⟩
end Go.Proofs.Ytemokpnepnmmkaa
/- The document's Asked, walked. -/
namespace Go.Proofs.Ytemokpnepnmmkaa
open Go.RowKit
theorem len3 {l : List Nat} (h : l.length = 3) : ∃ a b c, l = [a, b, c] := by
  match l, h with
  | [a, b, c], _ => exact ⟨a, b, c, rfl⟩
theorem len5 {l : List Nat} (h : l.length = 5) : ∃ a b c d e, l = [a, b, c, d, e] := by
  match l, h with
  | [a, b, c, d, e], _ => exact ⟨a, b, c, d, e, rfl⟩
/-- What Asked's steps come to, as the document has them. -/
theorem askedM_read {bs b : List UInt8} {t : List UInt8} {row : List (List UInt8)} {nums : List Nat} {long : Bool} {e kk : Nat} {er : Int} (h : readM bs 3 false = (nums, t, row, long, b, e)) :
    ∃ x0 x1 x2, nums = [x0, x1, x2] ∧ (x0 < 18446744073709551616 ∧ x1 < 18446744073709551616 ∧ x2 < 18446744073709551616) ∧ ((kk = if x0 < 12 then x0 else 0) → er = faultOf b e long (decide (0 < kk)) →
      (er ≠ 0 → askedM bs = (noAsked, er.toNat) ∧ 0 ≤ er) ∧ (er = 0 → askedM bs = ((kk, zagZ x1, zagZ x2, t, row), 0))) := by
  obtain ⟨x0, b0, e0, h0⟩ : ∃ x b e, numR bs 0 = (x, b, e) := ⟨_, _, _, rfl⟩
  obtain ⟨x1, b1, e1, h1⟩ : ∃ x b e, numR b0 e0 = (x, b, e) := ⟨_, _, _, rfl⟩
  obtain ⟨x2, b2, e2, h2⟩ : ∃ x b e, numR b1 e1 = (x, b, e) := ⟨_, _, _, rfl⟩
  obtain ⟨t', b3, e3, h3⟩ : ∃ x b e, textR b2 e2 = (x, b, e) := ⟨_, _, _, rfl⟩
  obtain ⟨N, b4, e4, h4⟩ : ∃ x b e, numR b3 e3 = (x, b, e) := ⟨_, _, _, rfl⟩
  have hn3 : numsR 3 bs 0 = ([x0, x1, x2], b2, e2) := by
    simp only [numsR, h0, h1, h2, List.nil_append, List.cons_append]
  have hz4 := num_zero_of (bs := b3) (e := e3)
  have l0 := numR_lt bs 0
  have l1 := numR_lt b0 e0
  have l2 := numR_lt b1 e1
  rw [h0] at l0
  rw [h1] at l1
  rw [h2] at l2
  rw [h4] at hz4
  dsimp only at hz4 l0 l1 l2
  have hA : askedM bs = (if 4096 < N then (noAsked, 11) else
      let q := rowR N b4 e4
      if q.2.2 ≠ 0 then (noAsked, q.2.2) else if ¬ (1 ≤ x0 ∧ x0 ≤ 11) then (noAsked, 11) else if q.2.1 ≠ [] then (noAsked, 14) else ((x0, zagZ x1, zagZ x2, t', q.1), 0)) := by
    unfold askedM
    rw [h0]
    dsimp only
    rw [h1]
    dsimp only
    rw [h2]
    dsimp only
    rw [h3]
    dsimp only
    rw [h4]
  unfold readM at h
  dsimp only at h
  rw [hn3] at h
  dsimp only at h
  rw [h3] at h
  dsimp only at h
  rw [h4] at h
  dsimp only at h
  by_cases hbig : 4096 < N
  · rw [if_pos hbig] at h
    simp only [Prod.mk.injEq] at h
    obtain ⟨rfl, rfl, rfl, rfl, rfl, rfl⟩ := h
    refine ⟨x0, x1, x2, rfl, ⟨l0, l1, l2⟩, fun hk her => ?_⟩
    have he4 : e4 = 0 := by
      by_cases h9 : e4 = 0
      · exact h9
      · have := hz4 h9; omega
    have : er = 11 := by rw [her]; unfold faultOf; simp [he4]
    subst this
    rw [hA, if_pos hbig]
    exact ⟨fun _ => ⟨rfl, by omega⟩, fun h => by omega⟩
  · rw [if_neg hbig] at h
    simp only [Bool.false_eq_true, if_false, Prod.mk.injEq] at h
    obtain ⟨rfl, rfl, hr1, rfl, hr2, hr3⟩ := h
    refine ⟨x0, x1, x2, rfl, ⟨l0, l1, l2⟩, fun hk her => ?_⟩
    rw [hA, if_neg hbig]
    dsimp only
    rw [hr1, hr2, hr3]
    by_cases he : e = 0
    · subst he
      rw [if_neg (by simp)]
      by_cases hx : 1 ≤ x0 ∧ x0 ≤ 11
      · have hkx : kk = x0 := by rw [hk, if_pos (by omega)]
        subst hkx
        rw [if_neg (by simpa using hx)]
        have hd : decide (0 < kk) = true := decide_eq_true (by omega)
        rw [hd] at her
        by_cases hb : b = []
        · have : er = 0 := by rw [her]; unfold faultOf; simp [hb]
          subst this
          rw [if_neg (by simpa using hb)]
          exact ⟨fun h => absurd rfl h, fun _ => rfl⟩
        · have : er = 14 := by rw [her]; unfold faultOf; simp [hb]
          subst this
          rw [if_pos hb]
          exact ⟨fun _ => ⟨rfl, by omega⟩, fun h => by omega⟩
      · have hkx : kk = 0 := by
          rw [hk]
          split <;> omega
        subst hkx
        have : er = 11 := by rw [her]; unfold faultOf; simp
        subst this
        rw [if_pos hx]
        exact ⟨fun _ => ⟨rfl, by omega⟩, fun h => by omega⟩
    · have : er = (e : Int) := by rw [her]; exact if_pos he
      subst this
      rw [if_pos he]
      exact ⟨fun _ => ⟨by simp, by omega⟩, fun h => by omega⟩
end Go.Proofs.Ytemokpnepnmmkaa
/- The document's Asked, walked. -/
namespace Go.Proofs.Ytemokpnepnmmkaa
open Go.RowKit
theorem readK {bs b : List UInt8} {t : List UInt8} {row : List (List UInt8)} {nums : List Nat} {long behind : Bool} {e ahead : Nat} (h : readM bs ahead behind = (nums, t, row, long, b, e)) (w : World) (hn : bs.length ≤ 140737488351232) (ha : ahead ≤ 4) (i : Int) (hi : i = (ahead : Int)) (q : Nat) (hq : nums.length = q) :
    Calls Try.prog 51 #[.string (mkS bs), .int .i64 i, .bool behind] w fun r w' => ∃ (A : Option Addr) (c : Nat) (A2 : Option Addr) (c2 : Nat),
      r = .returned (.agg (L6 b e A q c t A2 row.length c2 long)) ∧ Rd w' w'.heap.size A q (nums.map nv) ∧ q ≤ c ∧ Rd w' w'.heap.size A2 row.length (row.map sv) ∧ row.length ≤ c2 ∧ Later w w' ∧ (∀ ad, A2 = some ad → w.heap.size ≤ ad.block) := by
  subst hi
  subst hq
  refine (read_v w bs hn ahead ha behind).mono ?_
  rintro r w' ⟨A, c, nums', t', A2, c2, row', b', e', long', rfl, h1, h2, h3, h4, h5, h6, h7⟩
  rw [h] at h1
  simp only [Prod.mk.injEq] at h1
  obtain ⟨rfl, rfl, rfl, rfl, rfl, rfl⟩ := h1
  exact ⟨A, c, A2, c2, rfl, h2, h3, h4, h5, h6, h7⟩
theorem l6cells (w : World) (b : List UInt8) (e : Nat) (A : Option Addr) (n c : Nat) (t : List UInt8) (A2 : Option Addr) (n2 c2 : Nat) (long : Bool) {W : World} (hb : Later (w.alloc (.cells (L6 b e A n c t A2 n2 c2 long) 98)) W) :
    (W.cell? ⟨w.heap.size, 0, none⟩ = some (.string (mkS b)) ∧ W.cell? ⟨w.heap.size, 1, none⟩ = some (.int .i64 (e : Int)) ∧ W.cell? ⟨w.heap.size, 2, none⟩ = some (.slice A n c) ∧ W.cell? ⟨w.heap.size, 3, none⟩ = some (.string (mkS t)) ∧ W.cell? ⟨w.heap.size, 4, none⟩ = some (.slice A2 n2 c2) ∧ W.cell? ⟨w.heap.size, 5, none⟩ = some (.bool long)) ∧ w.heap.size < W.heap.size := by
  obtain ⟨h, hz⟩ := one_cells w (L6 b e A n c t A2 n2 c2 long) 98 (w1 := W) (by have := hb; unfold Later at this; rwa [World.size_alloc] at this)
  exact ⟨⟨h 0, h 1, h 2, h 3, h 4, h 5⟩, hz⟩
end Go.Proofs.Ytemokpnepnmmkaa
/- The document's Told, as mathematics. -/
namespace Go.Proofs.Ytemokpnepnmmkaa
open Go.RowKit
def rightT (x0 x1 x4 q : Nat) : Bool := decide (0 < x0 ∧ x0 < 12 ∧ x1 < 256 ∧ q = 5 ∧ x4 < 65)
theorem toldM_read {bs b : List UInt8} {t : List UInt8} {row : List (List UInt8)} {nums : List Nat} {long : Bool} {e : Nat} (h : readM bs 4 true = (nums, t, row, long, b, e)) :
    ∃ x0 x1 x2 x3 x4 q, (x0 < 18446744073709551616 ∧ x1 < 18446744073709551616 ∧ x2 < 18446744073709551616 ∧ x3 < 18446744073709551616 ∧ x4 < 18446744073709551616) ∧ ((q = 4 ∧ nums = [x0, x1, x2, x3]) ∨ (q = 5 ∧ nums = [x0, x1, x2, x3, x4])) ∧ (∀ er, er = faultOf b e long (rightT x0 x1 x4 q) →
      (er ≠ 0 → toldM bs = (noTold, er.toNat) ∧ 0 ≤ er) ∧ (er = 0 → rightT x0 x1 x4 q = true ∧ toldM bs = ((x0, x1, zagZ x2, zagZ x3, t, row, x4), 0))) := by
  obtain ⟨x0, b0, e0, h0⟩ : ∃ x b e, numR bs 0 = (x, b, e) := ⟨_, _, _, rfl⟩
  obtain ⟨x1, b1, e1, h1⟩ : ∃ x b e, numR b0 e0 = (x, b, e) := ⟨_, _, _, rfl⟩
  obtain ⟨x2, b2, e2, h2⟩ : ∃ x b e, numR b1 e1 = (x, b, e) := ⟨_, _, _, rfl⟩
  obtain ⟨x3, b2', e2', h2'⟩ : ∃ x b e, numR b2 e2 = (x, b, e) := ⟨_, _, _, rfl⟩
  obtain ⟨t', b3, e3, h3⟩ : ∃ x b e, textR b2' e2' = (x, b, e) := ⟨_, _, _, rfl⟩
  obtain ⟨N, b4, e4, h4⟩ : ∃ x b e, numR b3 e3 = (x, b, e) := ⟨_, _, _, rfl⟩
  obtain ⟨q1, b5, e5, h5⟩ : ∃ x b e, rowR N b4 e4 = (x, b, e) := ⟨_, _, _, rfl⟩
  obtain ⟨x4, b6, e6, h6⟩ : ∃ x b e, numR b5 e5 = (x, b, e) := ⟨_, _, _, rfl⟩
  have hn3 : numsR 4 bs 0 = ([x0, x1, x2, x3], b2', e2') := by
    simp only [numsR, h0, h1, h2, h2', List.nil_append, List.cons_append]
  have hz4 := num_zero_of (bs := b3) (e := e3)
  have l0 := numR_lt bs 0
  have l1 := numR_lt b0 e0
  have l2 := numR_lt b1 e1
  have l3 := numR_lt b2 e2
  have l4 := numR_lt b5 e5
  rw [h0] at l0
  rw [h1] at l1
  rw [h2] at l2
  rw [h2'] at l3
  rw [h6] at l4
  rw [h4] at hz4
  dsimp only at hz4 l0 l1 l2 l3 l4
  have hA : toldM bs = (if 4096 < N then (noTold, 11) else
      if e6 ≠ 0 then (noTold, e6) else if ¬ ((1 ≤ x0 ∧ x0 ≤ 11) ∧ x1 ≤ 255 ∧ x4 ≤ 64) then (noTold, 11) else if b6 ≠ [] then (noTold, 14) else ((x0, x1, zagZ x2, zagZ x3, t', q1, x4), 0)) := by
    unfold toldM
    rw [h0]
    dsimp only
    rw [h1]
    dsimp only
    rw [h2]
    dsimp only
    rw [h2']
    dsimp only
    rw [h3]
    dsimp only
    rw [h4]
    dsimp only
    rw [h5]
    dsimp only
    rw [h6]
  unfold readM at h
  dsimp only at h
  rw [hn3] at h
  dsimp only at h
  rw [h3] at h
  dsimp only at h
  rw [h4] at h
  dsimp only at h
  by_cases hbig : 4096 < N
  · rw [if_pos hbig] at h
    simp only [Prod.mk.injEq] at h
    obtain ⟨rfl, rfl, rfl, rfl, rfl, rfl⟩ := h
    refine ⟨x0, x1, x2, x3, 0, 4, ⟨l0, l1, l2, l3, by omega⟩, .inl ⟨rfl, rfl⟩, fun er her => ?_⟩
    have he4 : e4 = 0 := by
      by_cases h9 : e4 = 0
      · exact h9
      · have := hz4 h9; omega
    have : er = 11 := by rw [her]; unfold faultOf; simp [he4]
    subst this
    rw [hA, if_pos hbig]
    exact ⟨fun _ => ⟨rfl, by omega⟩, fun h => by omega⟩
  · rw [if_neg hbig, h5] at h
    dsimp only at h
    rw [h6] at h
    simp only [if_true, Prod.mk.injEq] at h
    obtain ⟨rfl, rfl, rfl, rfl, rfl, rfl⟩ := h
    refine ⟨x0, x1, x2, x3, x4, 5, ⟨l0, l1, l2, l3, l4⟩, .inr ⟨rfl, rfl⟩, fun er her => ?_⟩
    rw [hA, if_neg hbig]
    by_cases he : e6 = 0
    · subst he
      rw [if_neg (by simp)]
      by_cases hx : (1 ≤ x0 ∧ x0 ≤ 11) ∧ x1 ≤ 255 ∧ x4 ≤ 64
      · have hd : rightT x0 x1 x4 5 = true := decide_eq_true (by omega)
        rw [if_neg (fun hc => hc hx)]
        rw [hd] at her
        by_cases hb : b6 = []
        · have : er = 0 := by rw [her]; unfold faultOf; simp [hb]
          subst this
          rw [if_neg (by simpa using hb)]
          exact ⟨fun h => absurd rfl h, fun _ => ⟨hd, rfl⟩⟩
        · have : er = 14 := by rw [her]; unfold faultOf; simp [hb]
          subst this
          rw [if_pos hb]
          exact ⟨fun _ => ⟨rfl, by omega⟩, fun h => by omega⟩
      · have hd : rightT x0 x1 x4 5 = false := decide_eq_false (by omega)
        rw [hd] at her
        have : er = 11 := by rw [her]; unfold faultOf; simp
        subst this
        rw [if_pos hx]
        exact ⟨fun _ => ⟨rfl, by omega⟩, fun h => by omega⟩
    · have : er = (e6 : Int) := by rw [her]; exact if_pos he
      subst this
      rw [if_pos he]
      exact ⟨fun _ => ⟨by simp, by omega⟩, fun h => by omega⟩
end Go.Proofs.Ytemokpnepnmmkaa
