/- ROWS OF PAIRS that a call writes: stores, copies, clears in one block; texts in order. No premises. -/
import Derived.Test.YtmijploffdoenaaDoorNl
import Derived.Test.YtmijploffdoenaaDoorNx
import Derived.Deep.RegionLaw
import Derived.Laws.CopyRow
import Derived.Lib.AppendZerosOnto
import Derived.Lib.SliceRun
import Derived.Shelf.Spec.SlicesInsert
import Derived.Laws.MakeOwn
namespace Go.Proofs.YtmijploffdoenaaDoor
open Go.RowKit Go.Maps
namespace En
theorem cmp_lt : ∀ a b : B, Lib.compareBytes a b < 0 ↔ a < b
  | [], [] => by simp [Lib.compareBytes]
  | [], _ :: _ => by simp [Lib.compareBytes]
  | _ :: _, [] => by simp [Lib.compareBytes]
  | a :: l, b :: m => by
    rw [Lib.compareBytes, List.cons_lt_cons_iff]
    by_cases h : a < b
    · simp [h]
    · rw [if_neg h]
      by_cases h2 : b < a
      · rw [if_pos h2]
        have : a ≠ b := fun e => by subst e; exact h h2
        simp [h, this]
      · rw [if_neg h2, cmp_lt l m]
        have : a = b := UInt8.le_antisymm (UInt8.not_lt.1 h2) (UInt8.not_lt.1 h)
        simp [this]
theorem cmp_eq : ∀ a b : B, Lib.compareBytes a b = 0 ↔ a = b
  | [], [] => by simp [Lib.compareBytes]
  | [], _ :: _ => by simp [Lib.compareBytes]
  | _ :: _, [] => by simp [Lib.compareBytes]
  | a :: l, b :: m => by
    rw [Lib.compareBytes, List.cons.injEq]
    by_cases h : a < b
    · have : a ≠ b := fun e => by subst e; exact UInt8.lt_irrefl a h
      simp [h, this]
    · rw [if_neg h]
      by_cases h2 : b < a
      · rw [if_pos h2]
        have : a ≠ b := fun e => by subst e; exact h h2
        simp [this]
      · rw [if_neg h2, cmp_eq l m]
        have : a = b := UInt8.le_antisymm (UInt8.not_lt.1 h2) (UInt8.not_lt.1 h)
        simp [this]
theorem prs_take_eq {l : Vs} {k : Nat} (hk : k ≤ l.length) : (prs l).take (k * 2) = prs (l.take k) := by
  have h := prs_app (l.take k) (l.drop k)
  rw [List.take_append_drop] at h
  rw [h, List.take_append_of_le_length (by rw [prs_len, List.length_take]; omega), List.take_of_length_le (by rw [prs_len, List.length_take]; omega)]
theorem prs_drop_eq {l : Vs} {k : Nat} (hk : k ≤ l.length) : (prs l).drop (k * 2) = prs (l.drop k) := by
  have h := prs_app (l.take k) (l.drop k)
  rw [List.take_append_drop] at h
  have h2 : (prs (l.take k)).length = k * 2 := by rw [prs_len, List.length_take]; omega
  rw [h, ← h2, List.drop_left]
theorem prs_put {l : Vs} {k : Nat} (hk : k < l.length) (a b : B) : (prs l).take (k * 2) ++ [.string (mkS a), .string (mkS b)] ++ (prs l).drop (k * 2 + 2) = prs (l.set k (a, b)) := by
  rw [prs_take_eq (by omega), show k * 2 + 2 = (k + 1) * 2 by omega, prs_drop_eq (by omega), List.set_eq_take_append_cons_drop, if_pos hk, prs_app]
  rw [show prs ((a, b) :: l.drop (k + 1)) = [.string (mkS a), .string (mkS b)] ++ prs (l.drop (k + 1)) from rfl, List.append_assoc]
/-- Empty pairs. -/
def zs (n : Nat) : Vs := List.replicate n ([], [])
theorem zs_len (n : Nat) : (zs n).length = n := List.length_replicate
theorem made_pairs (n : Nat) : (madeCells (Value.agg #[.string ⟨#[]⟩, .string ⟨#[]⟩]).cells (n * 2)).toList = prs (zs n) := by
  apply List.ext_getElem?
  intro j
  by_cases hj : j < n * 2
  · have hk : j / 2 < (zs n).length := by rw [zs_len]; omega
    obtain ⟨h1, h2⟩ := prs_at (zs n) (j / 2) hk
    have hz : (zs n)[j / 2] = ([], []) := by simp [zs]
    rw [hz] at h1 h2
    have hl : (madeCells (Value.agg #[.string ⟨#[]⟩, .string ⟨#[]⟩]).cells (n * 2)).toList[j]? = some (.string ⟨#[]⟩) := by
      rw [Array.getElem?_toList, Array.getElem?_eq_getElem (by rw [size_madeCells]; exact hj)]
      simp only [madeCells, Value.cells, Array.getElem_map]
      rcases Nat.mod_two_eq_zero_or_one j with e | e <;> simp [e]
    rw [hl]
    rcases Nat.mod_two_eq_zero_or_one j with e | e
    · rw [show j / 2 * 2 = j by omega] at h1; rw [h1]; rfl
    · rw [show j / 2 * 2 + 1 = j by omega] at h2; rw [h2]; rfl
  · rw [List.getElem?_eq_none (by rw [Array.length_toList, size_madeCells]; omega), List.getElem?_eq_none (by rw [prs_len, zs_len]; omega)]
section
variable {P : Program}
/-- A struct that is stored within a row. -/
theorem run_storeAt_row (w : World) (g o : Nat) (ty t : TypeId) (cur : Array Value) (hg : w.heap[g]? = some (.cells cur t (0, 0))) (cells : Array Value) (hfit : o + cells.size ≤ cur.size) (hi : (P.info? ty).map (·.size) = some cells.size) (h1 : ∀ v ∈ cells.toList, v.oneCell' = true) :
    (Instr.storeAt ty (.pointer (some ⟨g, o, none⟩)) (.agg cells)).run P w = .ok () (w.setRow g (cur.toList.take o ++ cells.toList ++ cur.toList.drop (o + cells.size)).toArray) := by
  have hst := run_storeCells_at P g o t cells.toList 0 cur w hg (by simpa using hfit) h1
  simp only [Instr.storeAt, Instr.sureAddr, Sem.run_bind, Sem.run_pure, Result.andThen_ok]
  cases hq : P.info? ty with
  | none => simp [hq] at hi
  | some i =>
    have hs : cells.size = i.size := by simp [hq] at hi; omega
    simp only [Nat.add_zero, Array.length_toList] at hst
    simp [storeVar, sizeOf, typeInfo, hq, Value.cells, hs, hst]
/-- copy within, or into, a row. -/
theorem run_copy_row (w : World) (dT sT ty e : TypeId) (i : TypeInfo) (hu : P.underlying dT = some (.slice e)) (hi : P.info? e = some i) (g o dLen dCap : Nat) (cur : Array Value) (t : TypeId) (hg : w.heap[g]? = some (.cells cur t (0, 0))) (a : Addr) (sLen sCap : Nat) (cs : List Value)
    (hn : cs.length = Nat.min sLen dLen * i.size) (hsrc : ∀ j v, cs[j]? = some v → w.cell? (a.add j) = some v) (hfit : o + cs.length ≤ cur.size) (h1 : ∀ v ∈ cs, v.oneCell' = true) :
    (Builtin.copy_ #[dT, sT] ty #[.slice (some ⟨g, o, none⟩) dLen dCap, .slice (some a) sLen sCap]).run P w = .ok (goInt (Nat.min sLen dLen)) (w.setRow g (cur.toList.take o ++ cs ++ cur.toList.drop (o + cs.length)).toArray) := by
  have hl := run_loadCells_list (P := P) w a cs hsrc
  have hst := run_storeCells_at P g o t cs 0 cur w hg (by simpa using hfit) h1
  simp only [Nat.add_zero] at hst
  simp [Builtin.copy_, run_underlying hu, Builtin.lenOf, Builtin.firstCells, sizeOf, typeInfo, hi, ← hn, hl, hst]
/-- clear of a row's end. -/
theorem run_clear_row (w : World) (sT ty e : TypeId) (z : Value) (hu : P.underlying sT = some (.slice e)) (hv : ∀ w, (zeroValue e).run P w = .ok z w) (g o n c : Nat) (cur : Array Value) (t : TypeId) (hg : w.heap[g]? = some (.cells cur t (0, 0))) (hn : 0 < n) (hfit : o + n * z.cells.size ≤ cur.size) (h1 : ∀ v ∈ (Builtin.zeroCells z.cells n).toList, v.oneCell' = true) :
    ∃ cur' : Array Value, cur'.size = cur.size ∧ cur'.toList.take o = cur.toList.take o ∧ (Builtin.clear_ #[sT] ty #[.slice (some ⟨g, o, none⟩) n c]).run P w = .ok (.tuple #[]) (w.setRow g cur') := by
  have hst := run_storeCells_at P g o t (Builtin.zeroCells z.cells n).toList 0 cur w hg (by simpa [size_zeroCells] using hfit) h1
  simp only [Nat.add_zero] at hst
  obtain ⟨m, rfl⟩ : ∃ m, n = m + 1 := ⟨n - 1, by omega⟩
  have h5 : (Builtin.zeroCells z.cells (m + 1)).toList.length = (m + 1) * z.cells.size := by rw [Array.length_toList, size_zeroCells]
  refine ⟨_, ?_, ?_, show _ = Result.ok (Value.tuple #[]) (w.setRow g (cur.toList.take o ++ (Builtin.zeroCells z.cells (m + 1)).toList ++ cur.toList.drop (o + (Builtin.zeroCells z.cells (m + 1)).toList.length)).toArray) from ?_⟩
  · simp only [List.size_toArray, List.length_append, List.length_take, List.length_drop, h5, Array.length_toList] at *
    omega
  · show (List.take o cur.toList ++ _ ++ _).take o = _
    have h6 : o ≤ cur.toList.length := by rw [Array.length_toList]; omega
    rw [List.append_assoc, List.take_append_of_le_length (by rw [List.length_take]; omega), List.take_take, Nat.min_self]
  · simp [Builtin.clear_, run_underlying hu, hv, hst]
end
theorem info_var : (Tryd.prog.info? 62).map (fun i => (i.zero, i.size, i.bytes)) = some (some (.agg #[.string ⟨#[]⟩, .string ⟨#[]⟩]), 2, 32) := by kernel_rfl
theorem info_Var : (Tryd.prog.info? 54).map (fun i => (i.zero, i.size, i.bytes)) = some (some (.agg #[.string ⟨#[]⟩, .string ⟨#[]⟩]), 2, 32) := by kernel_rfl
theorem load_mid {w : World} {g o : Nat} {t m : B} (ty : TypeId) (fs : Array Field) (hu : Tryd.prog.underlying ty = some (.struct fs)) (hi : (Tryd.prog.info? ty).map (·.size) = some 2) (c0 : w.cell? ⟨g, o, none⟩ = some (.string (mkS t))) (c1 : w.cell? ⟨g, o + 1, none⟩ = some (.string (mkS m))) : (Instr.loadAt ty (.pointer (some ⟨g, o, none⟩))).run Tryd.prog w = .ok (.agg #[.string (mkS t), .string (mkS m)]) w := by
  refine run_loadAt_mid (P := Tryd.prog) w g o ty [.string (mkS t), .string (mkS m)] _ (fun j v hv => ?_) hu rfl hi
  have hj : j < 2 := (List.getElem?_eq_some_iff.1 hv).1
  match j, hj with
  | 0, _ => cases hv; exact c0
  | 1, _ => cases hv; exact c1
/-- against. -/
theorem against_v (n v s : B) (W : World) : Calls Tryd.prog 27 #[.agg #[.string (mkS n), .string (mkS v)], .string (mkS s)] W fun e W' => e = .returned (.int .i64 (Lib.compareBytes n s)) ∧ Later W W' := by
  have HLA := Lib.hid (Later.alloc W (.cells #[.string (mkS n), .string (mkS v)] 62))
  have hc := fun w => Tryd.strings_Compare (mkS n) (mkS s) w
  simp only [mkS_list] at hc
  have HC := Lib.hid hc
  clear hc
  go_enter Tryd.func27, Tryd.ntmps27
  go_wp2_with (go_at_call 45; (with_reducible refine (HC.out _).mono ?_); rintro e w' ⟨rfl, hw⟩; subst hw)
  go_ret
  exact ⟨rfl, HLA.out⟩
end En
end Go.Proofs.YtmijploffdoenaaDoor
