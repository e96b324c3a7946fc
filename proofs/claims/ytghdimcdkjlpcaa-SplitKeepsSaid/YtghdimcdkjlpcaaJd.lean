/- The reader's steps as mathematics; what lies in memory while fields are told. No premises. -/
import Derived.RangeFuncBox
import Derived.Test.YtghdimcdkjlpcaaJc
namespace Go.Proofs.Ytghdimcdkjlpcaa
open Go.RowKit Go.Maps
namespace Jo
open Bu
def endsB (k : Nat) (bg af : Bool) : Bool := if k = 0 ∨ k = 1 then false else if k = 4 then bg || !af else bg
def nowA (k : Nat) (z : Rw) (p : C2) : Rw := if k = 0 then z ++ [p] else z
def begA (k : Nat) (bg : Bool) : Bool := if k = 0 ∨ k = 1 then true else bg
def blkA (k : Nat) (bg af : Bool) : Bool := if k = 3 then bg || af else false
theorem kindN_lt (ifs : L) (p : C2) : kindN ifs p ≤ 4 := by unfold kindN; split <;> (try omega); split <;> (try omega); split <;> (try omega); split <;> omega
/-- A step, by what the cell is. -/
theorem step_by {ifs : L} {σ : Q} (h : Ok σ) (p : C2) : step ifs σ p = if endsB (kindN ifs p) σ.begun σ.blank = true then ⟨σ.out ++ [nowA (kindN ifs p) σ.now p], [], false, blkA (kindN ifs p) σ.begun σ.blank⟩ else ⟨σ.out, nowA (kindN ifs p) σ.now p, begA (kindN ifs p) σ.begun, blkA (kindN ifs p) σ.begun σ.blank⟩ := by
  obtain ⟨out, now, bg, af⟩ := σ
  unfold Ok at h
  simp only at h
  unfold step kindN
  by_cases e1 : p.2 = 101
  · have hs : sepB ifs p = false := by simp [sepB, e1]
    simp [e1, hs, endsB, nowA, begA, blkA]
  · by_cases e2 : p.2 = 98
    · have hs : sepB ifs p = false := by simp [sepB, e2]
      cases bg with
      | true => simp [e2, hs, endsB, nowA, blkA]
      | false => simp [e2, hs, endsB, nowA, begA, blkA, h rfl]
    · by_cases hs : sepB ifs p = true
      · by_cases hw : whiteB p.1 = true
        · cases bg with
          | true => simp [e1, e2, hs, hw, endsB, nowA, blkA]
          | false => simp [e1, e2, hs, hw, endsB, nowA, begA, blkA]
        · cases bg with
          | true => simp [e1, e2, hs, hw, endsB, nowA, blkA]
          | false =>
            cases af with
            | true => simp [e1, e2, hs, hw, endsB, nowA, begA, blkA, h rfl]
            | false => simp [e1, e2, hs, hw, endsB, nowA, blkA, h rfl]
      · simp [e1, e2, hs, endsB, nowA, begA, blkA]
theorem step_len {ifs : L} {σ : Q} (p : C2) : (step ifs σ p).now.length ≤ σ.now.length + 1 ∧ (step ifs σ p).out.length ≤ σ.out.length + 1 := by
  unfold step
  split
  · split
    · split <;> simp
    · constructor
      · simp
      · simp only; split <;> simp
  · split
    · constructor
      · simp
      · simp only; split <;> simp
    · constructor
      · simp only; split <;> simp
      · simp
theorem run_len (ifs : L) (z : Rw) : ∀ k, k ≤ z.length → (run ifs (z.take k)).now.length ≤ k ∧ (run ifs (z.take k)).out.length ≤ k := by
  intro k
  induction k with
  | zero => intro _; simp [run, init]
  | succ k ih =>
    intro hk
    rw [List.take_succ_eq_append_getElem (by omega), run_snoc]
    have h1 := ih (by omega)
    have h2 := step_len (ifs := ifs) (σ := run ifs (z.take k)) z[k]
    omega
theorem run_take {ifs : L} {z : Rw} {k : Nat} (h : k < z.length) : run ifs (z.take (k + 1)) = step ifs (run ifs (z.take k)) z[k] := by
  rw [List.take_succ_eq_append_getElem h, run_snoc]
theorem over_v {W : World} {g : Nat} {v : Value} {z : Rw} {bg af : Bool} (h : Rdr W g v z bg af) (p : C2) (k : Nat) (hk : k ≤ 4) (hz : z.length ≤ 1000000) : Calls Try.prog 29 #[.pointer (some ⟨g, 0, none⟩), .agg #[.int .u8 (p.1.toNat : Int), .int .u8 (p.2.toNat : Int)], .int .i64 (k : Int)] W (Over W g v (.bool (endsB k bg af)) (nowA k z p) (begA k bg) (blkA k bg af)) := by
  match k, hk with
  | 0, _ => exact over0 h p hz
  | 1, _ => exact over1 h p
  | 2, _ => exact over2 h p
  | 3, _ =>
    cases bg with
    | true => exact over3t h p
    | false => exact over3f h p
  | 4, _ =>
    cases bg with
    | true => exact over4t h p
    | false => cases af with
      | true => exact over4ft h p
      | false => exact over4ff h p
/-- Fields as cells. -/
def rows (l : List Rw) : List Value := l.flatMap fun f => [.string (mkS (ft f)), .string (mkS (fm f))]
theorem rows_len (l : List Rw) : (rows l).length = l.length * 2 := by
  unfold rows
  induction l with
  | nil => rfl
  | cons y l ih => rw [List.flatMap_cons, List.length_append, ih]; simp; omega
theorem rows_app (l : List Rw) (f : Rw) : rows (l ++ [f]) = rows l ++ [.string (mkS (ft f)), .string (mkS (fm f))] := by simp [rows]
/-- Split's own: its loop's record, the variable in block lb, whose row holds the fields. -/
structure OutSt (W0 : World) (r1 : Rng) (lb : Nat) (W : World) (vo : Value) (out : List Rw) : Prop where
  low : Later W0 W
  at1 : r1.At .ready none W
  lge : W0.heap.size ≤ lb
  dge : W0.heap.size ≤ r1.D
  box : W.heap[lb]? = some (.cells #[vo] 25 (0, 0))
  own : W.ownsRow W0.heap.size 23 2 vo out.length (rows out)
/-- All blocks but Split's own that turn in a round. -/
def ButO (r1 : Rng) (lb : Nat) (vo : Value) : Nat → Prop := fun k => k ≠ lb ∧ k ≠ r1.D + 1 ∧ vo.ownBlock ≠ some k
theorem others_of_fr {X : Nat → Prop} {w w' : World} (h : Fr X w w') (hx : ∀ k o, w.heap[k]? = some o → o.isCells = false → X k) : KeepsOthers w w' :=
  ⟨h.size, fun k o hk ho => h.cells hk (hx k o hk ho)⟩
section
variable {W0 W W' : World} {r1 r2 : Rng} {lb : Nat} {vo : Value} {out : List Rw}
theorem OutSt.fr {X : Nat → Prop} (h : OutSt W0 r1 lb W vo out) (hf : Fr X W W') (h0 : ∀ k, k < W0.heap.size → X k) (h1 : X lb) (h2 : X (r1.D + 1)) (h3 : X r1.D) (h4 : ∀ i, vo.ownBlock = some i → X i) : OutSt W0 r1 lb W' vo out :=
  ⟨later_fr h.low hf h0, ⟨hf.cells h.at1.1 h2, hf.cells h.at1.2 h3⟩, h.lge, h.dge, hf.cells h.box h1, hf.row h.own h4⟩
/-- The block for an inner loop's deferred calls is shut. -/
theorem OutSt.shut {D : Nat} {x : Option (List Deferred)} (h : OutSt W0 r1 lb W vo out) (hK : W.heap[D]? = some (.deferred x)) (hd : r1.D + 1 < D) : OutSt W0 r1 lb (W.putObj D (.deferred none)) vo out := by
  have hf : Fr (fun k => k ≠ D) W (W.putObj D (.deferred none)) := Fr.grown (grownBy_putObj' W D (.deferred none)) fun x e hx => by injection e with e; exact hx e.symm
  have ob : ∀ {k : Nat} {c : Array Value} {ty : TypeId}, W.heap[k]? = some (.cells c ty (0, 0)) → k ≠ D := fun hk e => by
    subst e
    rw [hk] at hK
    cases hK
  refine h.fr hf (fun k hk e => ?_) (ob h.box) (by omega) (by omega) (fun i e => ?_)
  · have := h.dge; omega
  · obtain ⟨cs, hc⟩ := own_type h.own e; exact ob hc
theorem OutSt.later (h : OutSt W0 r1 lb W vo out) (hl : Later W W') : OutSt W0 r1 lb W' vo out := h.fr (X := fun _ => True) (Fr.later hl) (fun _ _ => trivial) trivial trivial trivial fun _ _ => trivial
end
/-- What lies in memory while a row's fields are told. -/
structure Inn (W0 : World) (r1 r2 : Rng) (st : LoopState) (lb g yk fk bk : Nat) (t m ifs : L) (W : World) (vo v : Value) (σ : Q) : Prop where
  o : OutSt W0 r1 lb W vo σ.out
  at2 : r2.At st none W
  rd : Rdr W g v σ.now σ.begun σ.blank
  yb : W.heap[yk]? = some (.cells #[.func (.yield (r1.D + 1)) #[] #[]] 65 (0, 0))
  fb : W.heap[fk]? = some (.cells #[.string (mkS ifs)] 9 (0, 0))
  bx : RBox W bk t m
  nb : vo.ownBlock ≠ some bk
  vlow : ∀ k, v.ownBlock = some k → W0.heap.size ≤ k
  glow : W0.heap.size ≤ g
  dd : r1.D + 1 < r2.D
theorem ne_obj {W : World} {a b : Nat} {x y : Obj} (ha : W.heap[a]? = some x) (hb : W.heap[b]? = some y) (h : x ≠ y) : a ≠ b := fun e => by
  subst e
  rw [ha] at hb
  injection hb with hb
  exact h hb
theorem ne_own {w : World} {base size n : Nat} {e : TypeId} {v : Value} {xs : List Value} {b : Nat} {o : Obj} (h : w.ownsRow base e size v n xs) (hb : w.heap[b]? = some o) (ho : ∀ c f, o ≠ .cells c e f) : v.ownBlock ≠ some b := fun e1 => by
  obtain ⟨cs, hc⟩ := own_type h e1
  rw [hb] at hc
  injection hc with hc
  exact ho _ _ hc
section
variable {W0 W W' : World} {r1 r2 : Rng} {st st' : LoopState} {lb g yk fk bk : Nat} {t m ifs : L} {vo v v' vo' : Value} {σ : Q}
theorem Inn.later (h : Inn W0 r1 r2 st lb g yk fk bk t m ifs W vo v σ) (hl : Later W W') : Inn W0 r1 r2 st lb g yk fk bk t m ifs W' vo v σ :=
  ⟨h.o.later hl, ⟨later_cells hl h.at2.1, later_cells hl h.at2.2⟩, h.rd.keep (X := fun _ => True) (Fr.later hl) trivial (fun _ _ => trivial), later_cells hl h.yb, later_cells hl h.fb, later_cells hl h.bx, h.nb, h.vlow, h.glow, h.dd⟩
/-- The reader has turned. -/
theorem Inn.read {z : Rw} {bg af : Bool} (h : Inn W0 r1 r2 st lb g yk fk bk t m ifs W vo v σ) (hr : Rdr W' g v' z bg af) (hf : Fr (But g v) W W') (hm : Moved W v v') : Inn W0 r1 r2 st lb g yk fk bk t m ifs W' vo v' ⟨σ.out, z, bg, af⟩ := by
  have ob : ∀ {k : Nat} {o : Obj}, W.heap[k]? = some o → (∀ c f, o ≠ .cells c 51 f) → (∀ c f, o ≠ .cells c 67 f) → But g v k := fun hk h1 h2 => ⟨ne_obj hk h.rd.box (h2 _ _), ne_own h.rd.own hk h1⟩
  have x1 := ob h.o.at1.1 (fun c f => by simp) (fun c f => by simp)
  have x2 := ob h.o.at1.2 (fun c f => by simp) (fun c f => by simp)
  have x3 := ob h.at2.1 (fun c f => by simp) (fun c f => by simp)
  have x4 := ob h.at2.2 (fun c f => by simp) (fun c f => by simp)
  have x5 := ob h.o.box (fun c f => by simp) (fun c f => by simp)
  have x6 := ob h.yb (fun c f => by simp) (fun c f => by simp)
  have x7 := ob h.fb (fun c f => by simp) (fun c f => by simp)
  have x8 := ob h.bx (fun c f => by simp) (fun c f => by simp)
  have x9 : ∀ i, vo.ownBlock = some i → But g v i := fun i e => by
    obtain ⟨cs, hc⟩ := own_type h.o.own e
    exact ob hc (fun c f => by simp) (fun c f => by simp)
  refine ⟨h.o.fr hf (fun k hk => ⟨by have := h.glow; omega, fun e => by have := h.vlow k e; omega⟩) x5 x1 x2 x9, ⟨hf.cells h.at2.1 x3, hf.cells h.at2.2 x4⟩, hr, hf.cells h.yb x6, hf.cells h.fb x7, hf.cells h.bx x8, h.nb, fun k e => ?_, h.glow, h.dd⟩
  rcases hm with e1 | ⟨j, e1, hj⟩
  · exact h.vlow k (e1.symm.trans e)
  · rw [e] at e1
    injection e1 with e1
    have := h.o.low.size
    omega
/-- A field has been told. -/
theorem Inn.told {f : Rw} (h : Inn W0 r1 r2 st lb g yk fk bk t m ifs W vo v σ) (ho : OutSt W0 r1 lb W' vo' (σ.out ++ [f])) (hf : Fr (ButO r1 lb vo) W W') (hm : Moved W vo vo') : Inn W0 r1 r2 st lb g yk fk bk t m ifs W' vo' v ⟨σ.out ++ [f], σ.now, σ.begun, σ.blank⟩ := by
  have ob : ∀ {k : Nat} {o : Obj}, W.heap[k]? = some o → (∀ c f, o ≠ .cells c 23 f) → (∀ c f, o ≠ .cells c 25 f) → k ≠ r1.D + 1 → ButO r1 lb vo k := fun hk h1 h2 h3 => ⟨ne_obj hk h.o.box (h2 _ _), h3, ne_own h.o.own hk h1⟩
  have hd := h.dd
  have x3 := ob h.at2.1 (fun c f => by simp) (fun c f => by simp) (by omega)
  have x4 := ob h.at2.2 (fun c f => by simp) (fun c f => by simp) (by omega)
  have x5 := ob h.rd.box (fun c f => by simp) (fun c f => by simp) (ne_obj h.rd.box h.o.at1.1 (by simp))
  have x6 := ob h.yb (fun c f => by simp) (fun c f => by simp) (ne_obj h.yb h.o.at1.1 (by simp))
  have x7 := ob h.fb (fun c f => by simp) (fun c f => by simp) (ne_obj h.fb h.o.at1.1 (by simp))
  have x8 : ButO r1 lb vo bk := ⟨ne_obj h.bx h.o.box (by simp), ne_obj h.bx h.o.at1.1 (by simp), h.nb⟩
  have x9 : ∀ i, v.ownBlock = some i → ButO r1 lb vo i := fun i e => by
    obtain ⟨cs, hc⟩ := own_type h.rd.own e
    exact ob hc (fun c f => by simp) (fun c f => by simp) (ne_obj hc h.o.at1.1 (by simp))
  refine ⟨ho, ⟨hf.cells h.at2.1 x3, hf.cells h.at2.2 x4⟩, h.rd.keep hf x5 x9, hf.cells h.yb x6, hf.cells h.fb x7, hf.cells h.bx x8, ?_, h.vlow, h.glow, h.dd⟩
  exact moved_ne hm h.nb (lt_of_block h.bx)
/-- The inner record has turned. -/
theorem Inn.turn (h : Inn W0 r1 r2 st lb g yk fk bk t m ifs W vo v σ) (ht : r2.Turn W W') (h2 : r2.At st' none W') : Inn W0 r1 r2 st' lb g yk fk bk t m ifs W' vo v σ := by
  have hf : Fr (fun k => k ≠ r2.D + 1) W W' := Fr.grown ht.grown fun x e hx => by injection e with e; exact hx e.symm
  have hd := h.dd
  have ob : ∀ {k : Nat} {c : Array Value} {ty : TypeId}, W.heap[k]? = some (.cells c ty (0, 0)) → k ≠ r2.D + 1 := fun hk => ne_obj hk h.at2.1 (by simp)
  refine ⟨h.o.fr hf (fun k hk e => ?_) (ob h.o.box) (by omega) (by omega) (fun i e => ?_), h2, h.rd.keep hf (ob h.rd.box) (fun i e => ?_), hf.cells h.yb (ob h.yb), hf.cells h.fb (ob h.fb), hf.cells h.bx (ob h.bx), h.nb, h.vlow, h.glow, h.dd⟩
  · have := h.o.dge; omega
  · obtain ⟨cs, hc⟩ := own_type h.o.own e; exact ob hc
  · obtain ⟨cs, hc⟩ := own_type h.rd.own e; exact ob hc
end
end Jo
end Go.Proofs.Ytghdimcdkjlpcaa
