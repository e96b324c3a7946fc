/- PAIRS OF NUMBERS IN MEMORY: their cells, a slice of pairs that reads as a list, a row of pairs in a block of its own. No premises. -/
import Derived.Test.YtjijbgogdaafdaaDoorQa
import Derived.Test.YtjijbgogdaafdaaDoorNa
import Derived.Test.YtjijbgogdaafdaaDoorWm
import Derived.Deep.RegionLaw
import Derived.Laws.CopyRow
import Derived.Lib.AppendZerosOnto
import Derived.Lib.SliceRun
import Derived.Shelf.Spec.SlicesInsert
import Derived.Laws.MakeOwn
import Derived.Lib.SlFresh
namespace Go.Proofs.YtjijbgogdaafdaaDoor
open Go.RowKit Go.Maps
namespace Fd
def iv (x : Int) : Value := .int .i64 x
/-- The cells of pairs. -/
def prs (l : Ps) : List Value := l.flatMap fun p => [.int .i64 p.1, .int .i64 p.2]
theorem prs_len (l : Ps) : (prs l).length = l.length * 2 := by
  induction l with
  | nil => rfl
  | cons p l ih => unfold prs at ih ⊢; rw [List.flatMap_cons, List.length_append, ih, List.length_cons]; simp; omega
theorem prs_app (a b : Ps) : prs (a ++ b) = prs a ++ prs b := by unfold prs; exact List.flatMap_append
theorem prs_at : ∀ (l : Ps) (j : Nat) (h : j < l.length), (prs l)[j * 2]? = some (.int .i64 l[j].1) ∧ (prs l)[j * 2 + 1]? = some (.int .i64 l[j].2)
  | [], j, h => by simp at h
  | y :: l, 0, _ => by simp [prs]
  | y :: l, j + 1, h => by
    have := prs_at l j (by simpa using h)
    have e : prs (y :: l) = [.int .i64 y.1, .int .i64 y.2] ++ prs l := rfl
    rw [e, List.getElem?_append_right (by simp; omega), List.getElem?_append_right (by simp; omega)]
    simp only [List.length_cons, List.length_nil, List.getElem_cons_succ]
    rw [show (j + 1) * 2 - (0 + 1 + 1) = j * 2 by omega, show (j + 1) * 2 + 1 - (0 + 1 + 1) = j * 2 + 1 by omega]
    exact this
theorem prs_one_cell (l : Ps) : ∀ u ∈ prs l, u.oneCell' = true := by
  intro u hu
  obtain ⟨p, _, hp⟩ := List.mem_flatMap.1 hu
  simp at hp
  rcases hp with rfl | rfl <;> rfl
/-- A slice of pairs that reads as l; its block lies below B. -/
structure RdP (w : World) (B : Nat) (v : Value) (l : Ps) : Prop where
  le : ∃ A c, v = .slice A l.length c ∧ l.length ≤ c ∧ c ≤ 9223372036854775807 ∧ ∀ ad : Addr, A = some ad → ad.spot = none
  at_ : 0 < l.length → ∃ g o c, v = .slice (some ⟨g, o, none⟩) l.length c ∧ g < B ∧ ∀ (k : Nat) (h : k < l.length), w.cell? ⟨g, o + k * 2, none⟩ = some (.int .i64 l[k].1) ∧ w.cell? ⟨g, o + k * 2 + 1, none⟩ = some (.int .i64 l[k].2)
theorem RdP.nil (w : World) (B : Nat) : RdP w B (.slice none 0 0) [] := ⟨⟨none, 0, rfl, Nat.le_refl _, by omega, nofun⟩, fun h => absurd h (by simp)⟩
theorem RdP.keep {w w' : World} {B : Nat} {v : Value} {l : Ps} (h : RdP w B v l) (hk : ∀ p : Addr, p.block < B → w'.cell? p = w.cell? p) : RdP w' B v l :=
  ⟨h.le, fun h0 => by
    obtain ⟨g, o, c, e, hb, hc⟩ := h.at_ h0
    exact ⟨g, o, c, e, hb, fun k hk2 => ⟨(hk _ hb).trans (hc k hk2).1, (hk _ hb).trans (hc k hk2).2⟩⟩⟩
theorem RdP.more {w : World} {B B' : Nat} {v : Value} {l : Ps} (h : RdP w B v l) (hB : B ≤ B') : RdP w B' v l :=
  ⟨h.le, fun h0 => by
    obtain ⟨g, o, c, e, hb, hc⟩ := h.at_ h0
    exact ⟨g, o, c, e, Nat.lt_of_lt_of_le hb hB, hc⟩⟩
theorem RdP.later {w w' : World} {v : Value} {l : Ps} (h : RdP w w.heap.size v l) (hl : Later w w') : RdP w' w'.heap.size v l := (h.keep fun _ hp => hl.cell hp).more hl.size
/-- Pairs of the call's own read as what they are. -/
theorem RdP.of_own {w : World} {base : Nat} {e : TypeId} {v : Value} {l : Ps} (h : w.ownsRow base e 2 v l.length (prs l)) : RdP w w.heap.size v l := by
  rcases h.2 with ⟨rfl, hx⟩ | ⟨g, cap, cur, rfl, hb, hh, hnc, hcm, _⟩
  · have h0 : l = [] := List.length_eq_zero_iff.1 hx
    subst h0
    exact RdP.nil _ _
  · refine ⟨⟨_, cap, rfl, hnc, ?_, fun _ e => by cases e; rfl⟩, fun _ => ⟨g, 0, cap, rfl, lt_of_block hh, fun k hk => ?_⟩⟩
    · simp only [maxLen] at hcm; omega
    · obtain ⟨h1, h2⟩ := prs_at l k hk
      have e1 := h.cells (g := g) rfl _ _ h1
      have e2 := h.cells (g := g) rfl _ _ h2
      rw [add_lit0] at e1 e2
      rw [Nat.zero_add]
      exact ⟨e1, e2⟩
/-- A row of pairs in a block of its own, junk behind it let in. -/
def PrB (t : TypeId) (w : World) (g : Nat) (l : Ps) (z : List Value) : Prop := w.heap[g]? = some (.cells (prs l ++ z).toArray t (0, 0))
section
variable {t : TypeId}
theorem PrB.cells {w : World} {g : Nat} {l : Ps} {z : List Value} (h : PrB t w g l z) (k : Nat) (hk : k < l.length) : w.cell? ⟨g, k * 2, none⟩ = some (.int .i64 l[k].1) ∧ w.cell? ⟨g, k * 2 + 1, none⟩ = some (.int .i64 l[k].2) := by
  obtain ⟨h1, h2⟩ := prs_at l k hk
  have hl := prs_len l
  rw [(cell_row h _).1, (cell_row h _).1]
  simp only [List.getElem?_toArray]
  rw [List.getElem?_append_left (by omega), List.getElem?_append_left (by omega)]
  exact ⟨h1, h2⟩
theorem PrB.rd {w : World} {g : Nat} {l : Ps} {z : List Value} (h : PrB t w g l z) {c : Nat} (hc : l.length ≤ c) (hm : c ≤ 9223372036854775807) : RdP w w.heap.size (.slice (some ⟨g, 0, none⟩) l.length c) l :=
  ⟨⟨_, c, rfl, hc, hm, fun _ e => by cases e; rfl⟩, fun _ => ⟨g, 0, c, rfl, lt_of_block h, fun k hk => by rw [Nat.zero_add]; exact h.cells k hk⟩⟩
theorem PrB.later {w w' : World} {g : Nat} {l : Ps} {z : List Value} (h : PrB t w g l z) (hl : Later w w') : PrB t w' g l z := later_cells hl h
theorem setRow_grown (w : World) (g : Nat) (cs : Array Value) : w.grownBy (w.setRow g cs) (some g) := ⟨rfl, rfl, rfl, by simp [World.setRow], fun k _ hk => setRow_other w g k cs (fun e => hk (by rw [e]))⟩
theorem prs_take_eq {l : Ps} {k : Nat} (hk : k ≤ l.length) : (prs l).take (k * 2) = prs (l.take k) := by
  have h := prs_app (l.take k) (l.drop k)
  rw [List.take_append_drop] at h
  rw [h, List.take_append_of_le_length (by rw [prs_len, List.length_take]; omega), List.take_of_length_le (by rw [prs_len, List.length_take]; omega)]
theorem prs_drop_eq {l : Ps} {k : Nat} (hk : k ≤ l.length) : (prs l).drop (k * 2) = prs (l.drop k) := by
  have h := prs_app (l.take k) (l.drop k)
  rw [List.take_append_drop] at h
  have h2 : (prs (l.take k)).length = k * 2 := by rw [prs_len, List.length_take]; omega
  rw [h, ← h2, List.drop_left]
theorem prs_put {l : Ps} {k : Nat} (hk : k < l.length) (a b : Int) : (prs l).take (k * 2) ++ [.int .i64 a, .int .i64 b] ++ (prs l).drop (k * 2 + 2) = prs (l.set k (a, b)) := by
  rw [prs_take_eq (by omega), show k * 2 + 2 = (k + 1) * 2 by omega, prs_drop_eq (by omega), List.set_eq_take_append_cons_drop, if_pos hk, prs_app]
  rw [show prs ((a, b) :: l.drop (k + 1)) = [.int .i64 a, .int .i64 b] ++ prs (l.drop (k + 1)) from rfl, List.append_assoc]
def zs (n : Nat) : Ps := List.replicate n (0, 0)
theorem zs_len (n : Nat) : (zs n).length = n := List.length_replicate
theorem made_pairs (n : Nat) : (madeCells (Value.agg #[.int .i64 0, .int .i64 0]).cells (n * 2)).toList = prs (zs n) := by
  apply List.ext_getElem?
  intro j
  by_cases hj : j < n * 2
  · have hk : j / 2 < (zs n).length := by rw [zs_len]; omega
    obtain ⟨h1, h2⟩ := prs_at (zs n) (j / 2) hk
    have hz : (zs n)[j / 2] = (0, 0) := by simp [zs]
    rw [hz] at h1 h2
    have hl : (madeCells (Value.agg #[.int .i64 0, .int .i64 0]).cells (n * 2)).toList[j]? = some (.int .i64 0) := by
      rw [Array.getElem?_toList, Array.getElem?_eq_getElem (by rw [size_madeCells]; exact hj)]
      simp only [madeCells, Value.cells, Array.getElem_map]
      rcases Nat.mod_two_eq_zero_or_one j with e | e <;> simp [e]
    rw [hl]
    rcases Nat.mod_two_eq_zero_or_one j with e | e
    · rw [show j / 2 * 2 = j by omega] at h1; rw [h1]
    · rw [show j / 2 * 2 + 1 = j by omega] at h2; rw [h2]
  · rw [List.getElem?_eq_none (by rw [Array.length_toList, size_madeCells]; omega), List.getElem?_eq_none (by rw [prs_len, zs_len]; omega)]
theorem zero_pairs (n : Nat) : (Builtin.zeroCells (Value.agg #[.int .i64 0, .int .i64 0]).cells n).toList = prs (zs n) := made_pairs n
section
variable {P : Program}
/-- A struct that is stored within a row. -/
theorem run_storeAt_row (w : World) (g o : Nat) (ty t : TypeId) (cur : Array Value) (hg : w.heap[g]? = some (.cells cur t (0, 0))) (cells : Array Value) (hfit : o + cells.size ≤ cur.size) (hi : (P.info? ty).map (·.size) = some cells.size) (h1 : ∀ v ∈ cells.toList, v.oneCell' = true) :
    (Instr.storeAt ty (.pointer (some ⟨g, o, none⟩)) (.agg cells)).run P w = .ok () (w.setRow g (cur.toList.take o ++ cells.toList ++ cur.toList.drop (o + cells.size)).toArray) := by
  have hst := run_storeCells_at P g o t cells.toList 0 cur w hg (by simpa using hfit) h1
  simp only [Instr.storeAt, Instr.sureAddr, Sem.run_bind, Sem.run_pure, Result.andThen_ok]
  cases hq : P.info? ty with
  | none => simp [hq] at hi
  | some i =>
    have hs : cells.size = i.size := by simp [hq] at hi; omega
    simp only [Nat.add_zero, Array.length_toList] at hst
    simp [storeVar, sizeOf, typeInfo, hq, Value.cells, hs, hst]
/-- copy within, or into, a row. -/
theorem run_copy_row (w : World) (dT sT ty e : TypeId) (i : TypeInfo) (hu : P.underlying dT = some (.slice e)) (hi : P.info? e = some i) (g o dLen dCap : Nat) (cur : Array Value) (t : TypeId) (hg : w.heap[g]? = some (.cells cur t (0, 0))) (a : Addr) (sLen sCap : Nat) (cs : List Value)
    (hn : cs.length = Nat.min sLen dLen * i.size) (hsrc : ∀ j v, cs[j]? = some v → w.cell? (a.add j) = some v) (hfit : o + cs.length ≤ cur.size) (h1 : ∀ v ∈ cs, v.oneCell' = true) :
    (Builtin.copy_ #[dT, sT] ty #[.slice (some ⟨g, o, none⟩) dLen dCap, .slice (some a) sLen sCap]).run P w = .ok (goInt (Nat.min sLen dLen)) (w.setRow g (cur.toList.take o ++ cs ++ cur.toList.drop (o + cs.length)).toArray) := by
  have hl := run_loadCells_list (P := P) w a cs hsrc
  have hst := run_storeCells_at P g o t cs 0 cur w hg (by simpa using hfit) h1
  simp only [Nat.add_zero] at hst
  simp [Builtin.copy_, run_underlying hu, Builtin.lenOf, Builtin.firstCells, sizeOf, typeInfo, hi, ← hn, hl, hst]
/-- clear of a row's end. -/
theorem run_clear_row (w : World) (sT ty e : TypeId) (z : Value) (hu : P.underlying sT = some (.slice e)) (hv : ∀ w, (zeroValue e).run P w = .ok z w) (g o n c : Nat) (cur : Array Value) (t : TypeId) (hg : w.heap[g]? = some (.cells cur t (0, 0))) (hn : 0 < n) (hfit : o + n * z.cells.size ≤ cur.size) (h1 : ∀ v ∈ (Builtin.zeroCells z.cells n).toList, v.oneCell' = true) :
    ∃ cur' : Array Value, cur'.size = cur.size ∧ cur'.toList.take o = cur.toList.take o ∧ (Builtin.clear_ #[sT] ty #[.slice (some ⟨g, o, none⟩) n c]).run P w = .ok (.tuple #[]) (w.setRow g cur') := by
  have hst := run_storeCells_at P g o t (Builtin.zeroCells z.cells n).toList 0 cur w hg (by simpa [size_zeroCells] using hfit) h1
  simp only [Nat.add_zero] at hst
  obtain ⟨m, rfl⟩ : ∃ m, n = m + 1 := ⟨n - 1, by omega⟩
  have h5 : (Builtin.zeroCells z.cells (m + 1)).toList.length = (m + 1) * z.cells.size := by rw [Array.length_toList, size_zeroCells]
  refine ⟨_, ?_, ?_, show _ = Result.ok (Value.tuple #[]) (w.setRow g (cur.toList.take o ++ (Builtin.zeroCells z.cells (m + 1)).toList ++ cur.toList.drop (o + (Builtin.zeroCells z.cells (m + 1)).toList.length)).toArray) from ?_⟩
  · simp only [List.size_toArray, List.length_append, List.length_take, List.length_drop, h5, Array.length_toList] at *
    omega
  · show (List.take o cur.toList ++ _ ++ _).take o = _
    have h6 : o ≤ cur.toList.length := by rw [Array.length_toList]; omega
    rw [List.append_assoc, List.take_append_of_le_length (by rw [List.length_take]; omega), List.take_take, Nat.min_self]
  · simp [Builtin.clear_, run_underlying hu, hv, hst]
end
/-- A pair is stored at its place. -/
theorem PrB.put (ty : TypeId) (hi : (Tryd.prog.info? ty).map (·.size) = some 2) {w : World} {g : Nat} {l : Ps} {z : List Value} (h : PrB t w g l z) {k : Nat} (hk : k < l.length) (a b : Int) : ∃ w', (Instr.storeAt ty (.pointer (some ⟨g, k * 2, none⟩)) (.agg #[.int .i64 a, .int .i64 b])).run Tryd.prog w = .ok () w' ∧ PrB t w' g (l.set k (a, b)) z ∧ w.grownBy w' (some g) := by
  have hl := prs_len l
  have hr := run_storeAt_row (P := Tryd.prog) w g (k * 2) ty _ _ h #[.int .i64 a, .int .i64 b] (by simp; omega) hi (by intro v hv; simp at hv; rcases hv with rfl | rfl <;> rfl)
  refine ⟨_, hr, ?_, setRow_grown _ _ _⟩
  unfold PrB
  rw [setRow_heap _ _ _ _ _ _ h, ← prs_put hk a b]
  show some (Obj.cells ((prs l ++ z).take (k * 2) ++ _ ++ (prs l ++ z).drop (k * 2 + 2)).toArray _ _) = _
  rw [List.take_append_of_le_length (by omega), List.drop_append_of_le_length (by omega)]
  simp
theorem PrB.lie {w : World} {g : Nat} {l : Ps} {z : List Value} (h : PrB t w g l z) {k j : Nat} {u : Value} (hk : k ≤ l.length) (hu : (prs (l.drop k))[j]? = some u) : w.cell? ⟨g, k * 2 + j, none⟩ = some u := by
  have h1 : (prs l)[k * 2 + j]? = some u := by rw [← prs_drop_eq hk, List.getElem?_drop] at hu; exact hu
  rw [(cell_row h _).1]
  simp only [List.getElem?_toArray]
  rw [List.getElem?_append_left (List.getElem?_eq_some_iff.1 h1).1]
  exact h1
theorem PrB.lie0 {w : World} {g : Nat} {l : Ps} {z : List Value} (h : PrB t w g l z) {j : Nat} {u : Value} (hu : (prs l)[j]? = some u) : w.cell? ⟨g, j, none⟩ = some u := by
  have := h.lie (k := 0) (j := j) (Nat.zero_le _) (by rw [List.drop_zero]; exact hu)
  simpa using this
theorem PrB.lieT {w : World} {g : Nat} {l : Ps} {z : List Value} (h : PrB t w g l z) {k j : Nat} {u : Value} (hk : k ≤ l.length) (hu : (prs (l.take k))[j]? = some u) : w.cell? ⟨g, j, none⟩ = some u := by
  refine h.lie0 ?_
  rw [← prs_take_eq hk, List.getElem?_take] at hu
  split at hu
  · exact hu
  · cases hu
theorem load_pair {w : World} {g o : Nat} {a b : Int} (ty : TypeId) (fs : Array Field) (hu : Tryd.prog.underlying ty = some (.struct fs)) (hi : (Tryd.prog.info? ty).map (·.size) = some 2) (c0 : w.cell? ⟨g, o, none⟩ = some (.int .i64 a)) (c1 : w.cell? ⟨g, o + 1, none⟩ = some (.int .i64 b)) : (Instr.loadAt ty (.pointer (some ⟨g, o, none⟩))).run Tryd.prog w = .ok (.agg #[.int .i64 a, .int .i64 b]) w := by
  refine run_loadAt_mid (P := Tryd.prog) w g o ty [.int .i64 a, .int .i64 b] _ (fun j v hv => ?_) hu rfl hi
  have hj : j < 2 := (List.getElem?_eq_some_iff.1 hv).1
  match j, hj with
  | 0, _ => cases hv; exact c0
  | 1, _ => cases hv; exact c1
end
end Fd
end Go.Proofs.YtjijbgogdaafdaaDoor
