/- event's isKind, upTo, Right, Fits and Name, and the document's: what each one tells. -/
import Derived.Test.YtemokpnepnmmkaaMd
import Derived.Test.YtemokpnepnmmkaaMc
import Derived.RegionTactic
namespace Go.Proofs.Ytemokpnepnmmkaa
open Go.RowKit
/-- A request, an answer, as values. -/
def reqV (k n m : Int) (t : List UInt8) (A : Option Addr) (len cap : Nat) : Value := .agg #[.int .i64 k, .int .i64 n, .int .i64 m, .string (mkS t), .slice A len cap]
def ansV (k e n m : Int) (t : List UInt8) (A : Option Addr) (len cap : Nat) (s : Int) : Value := .agg #[.int .i64 k, .int .i64 e, .int .i64 n, .int .i64 m, .string (mkS t), .slice A len cap, .int .i64 s]
theorem ret_bool {a b : Bool} (h : a = b) : Ending.returned (.bool a) = .returned (.bool b) := by rw [h]
def kindB (k : Int) : Bool := decide (1 ≤ k ∧ k ≤ 11)
def rightB (k : Int) (len : Nat) : Bool := decide ((1 ≤ k ∧ k ≤ 11) ∧ len ≤ 4096)
def fitsB (j k e s : Int) (len : Nat) : Bool := decide (k = j ∧ (1 ≤ k ∧ k ≤ 11) ∧ (0 ≤ e ∧ e ≤ 255) ∧ (0 ≤ s ∧ s ≤ 64) ∧ len ≤ 4096)
theorem isKind_v (k : Int) (w : World) : Calls Try.prog 38 #[.int .i64 k] w fun e w' => e = .returned (.bool (kindB k)) ∧ w = w' := by
  by_cases h1 : (1 : Int) ≤ k <;> by_cases h2 : k ≤ 11
  all_goals
    have hb := Lib.hid (show kindB k = decide (1 ≤ k ∧ k ≤ 11) from rfl)
    go_enter Try.func38, Try.ntmps38
    go_wp2
    go_ret
    exact ⟨by rw [hb.out]; simp [h1, h2], rfl⟩
theorem upTo_v (m k : Int) (w : World) : Calls Try.prog 39 #[.int .i64 m, .int .i64 k] w fun e w' => e = .returned (.bool (decide (0 ≤ k ∧ k ≤ m))) ∧ w = w' := by
  by_cases h1 : (0 : Int) ≤ k <;> by_cases h2 : k ≤ m
  all_goals
    go_enter Try.func39, Try.ntmps39
    go_wp2
    go_ret
    exact ⟨by simp [h1, h2], rfl⟩
def ansC (k e n m : Int) (t : List UInt8) (A : Option Addr) (len cap : Nat) (s : Int) : Array Value := #[.int .i64 k, .int .i64 e, .int .i64 n, .int .i64 m, .string (mkS t), .slice A len cap, .int .i64 s]
theorem fits_cases (j k e s : Int) (len : Nat) : ((k == j) = false ∧ fitsB j k e s len = false) ∨ (j = k ∧ (
    (kindB k = false ∧ fitsB j k e s len = false) ∨ (kindB k = true ∧ decide (0 ≤ e ∧ e ≤ 255) = false ∧ fitsB j k e s len = false) ∨
    (kindB k = true ∧ decide (0 ≤ e ∧ e ≤ 255) = true ∧ decide (0 ≤ s ∧ s ≤ 64) = false ∧ fitsB j k e s len = false) ∨
    (kindB k = true ∧ decide (0 ≤ e ∧ e ≤ 255) = true ∧ decide (0 ≤ s ∧ s ≤ 64) = true ∧ fitsB j k e s len = decide ((len : Int) ≤ 4096)))) := by
  unfold fitsB kindB
  by_cases h0 : k = j
  · right
    refine ⟨h0.symm, ?_⟩
    subst h0
    by_cases h1 : 1 ≤ k ∧ k ≤ 11
    · right
      by_cases h2 : 0 ≤ e ∧ e ≤ 255
      · right
        by_cases h3 : 0 ≤ s ∧ s ≤ 64
        · right
          exact ⟨decide_eq_true h1, decide_eq_true h2, decide_eq_true h3, by rw [decide_eq_decide]; omega⟩
        · left
          exact ⟨decide_eq_true h1, decide_eq_true h2, decide_eq_false h3, decide_eq_false fun h => h3 h.2.2.2.1⟩
      · left
        exact ⟨decide_eq_true h1, decide_eq_false h2, decide_eq_false fun h => h2 h.2.2.1⟩
    · left
      exact ⟨decide_eq_false h1, decide_eq_false fun h => h1 h.2.1⟩
  · left
    exact ⟨by simpa using h0, decide_eq_false fun h => h0 h.1⟩
set_option maxHeartbeats 400000 in
theorem fits_v (j k e n m : Int) (t : List UInt8) (A : Option Addr) (len cap : Nat) (s : Int) (w : World) :
    Calls Try.prog 22 #[.int .i64 j, ansV k e n m t A len cap s] w fun r w' => r = .returned (.bool (fitsB j k e s len)) ∧ Below w.heap.size w w' := by
  unfold ansV
  have hb := Lib.hid ((Below.refl w.heap.size w).alloc (Nat.le_refl _) (.cells (ansC k e n m t A len cap s) 34))
  unfold ansC at hb
  rcases fits_cases j k e s len with ⟨h0, hf⟩ | ⟨rfl, h⟩
  · rw [hf]
    clear hf
    go_enter Try.func22, Try.ntmps22
    go_wp2
    go_ret
    exact ⟨rfl, hb.out⟩
  rcases h with ⟨h1, hf⟩ | ⟨h1, h2, hf⟩ | ⟨h1, h2, h3, hf⟩ | ⟨h1, h2, h3, hf⟩
  all_goals
    rw [hf]
    clear hf
    go_enter Try.func22, Try.ntmps22
    go_wp2_with (first
      | (go_at_call 38; (with_reducible refine (isKind_v j _).mono ?_); rintro r w' ⟨rfl, rfl⟩; rw [h1])
      | (go_at_call 39; (first | (with_reducible refine (upTo_v 255 e _).mono ?_) | (with_reducible refine (upTo_v 64 s _).mono ?_)); rintro r w' ⟨rfl, rfl⟩; (first | rw [h2] | rw [h3])))
    go_ret
    exact ⟨rfl, hb.out⟩
theorem refFits_cases (j k e s : Int) (len : Nat) : ((k == j) = false ∧ fitsB j k e s len = false) ∨ (j = k ∧ (
    (¬ 1 ≤ k ∧ fitsB j k e s len = false) ∨ (1 ≤ k ∧ ¬ k ≤ 11 ∧ fitsB j k e s len = false) ∨ (1 ≤ k ∧ k ≤ 11 ∧ ¬ 0 ≤ e ∧ fitsB j k e s len = false) ∨
    (1 ≤ k ∧ k ≤ 11 ∧ 0 ≤ e ∧ ¬ e ≤ 255 ∧ fitsB j k e s len = false) ∨ (1 ≤ k ∧ k ≤ 11 ∧ 0 ≤ e ∧ e ≤ 255 ∧ ¬ 0 ≤ s ∧ fitsB j k e s len = false) ∨
    (1 ≤ k ∧ k ≤ 11 ∧ 0 ≤ e ∧ e ≤ 255 ∧ 0 ≤ s ∧ ¬ s ≤ 64 ∧ fitsB j k e s len = false) ∨ (1 ≤ k ∧ k ≤ 11 ∧ 0 ≤ e ∧ e ≤ 255 ∧ 0 ≤ s ∧ s ≤ 64 ∧ fitsB j k e s len = decide ((len : Int) ≤ 4096)))) := by
  by_cases h0 : k = j
  · right
    refine ⟨h0.symm, ?_⟩
    subst h0
    unfold fitsB
    by_cases h1 : 1 ≤ k
    case neg => exact .inl ⟨h1, decide_eq_false (by omega)⟩
    by_cases h2 : k ≤ 11
    case neg => exact .inr (.inl ⟨h1, h2, decide_eq_false (by omega)⟩)
    by_cases h3 : 0 ≤ e
    case neg => exact .inr (.inr (.inl ⟨h1, h2, h3, decide_eq_false (by omega)⟩))
    by_cases h4 : e ≤ 255
    case neg => exact .inr (.inr (.inr (.inl ⟨h1, h2, h3, h4, decide_eq_false (by omega)⟩)))
    by_cases h5 : 0 ≤ s
    case neg => exact .inr (.inr (.inr (.inr (.inl ⟨h1, h2, h3, h4, h5, decide_eq_false (by omega)⟩))))
    by_cases h6 : s ≤ 64
    case neg => exact .inr (.inr (.inr (.inr (.inr (.inl ⟨h1, h2, h3, h4, h5, h6, decide_eq_false (by omega)⟩)))))
    exact .inr (.inr (.inr (.inr (.inr (.inr ⟨h1, h2, h3, h4, h5, h6, by rw [decide_eq_decide]; omega⟩)))))
  · left
    exact ⟨by simpa using h0, decide_eq_false fun h => h0 h.1⟩
set_option maxHeartbeats 400000 in
theorem refFits_v (j k e n m : Int) (t : List UInt8) (A : Option Addr) (len cap : Nat) (s : Int) (w : World) :
    Calls Try.prog 14 #[.int .i64 j, ansV k e n m t A len cap s] w fun r w' => r = .returned (.bool (fitsB j k e s len)) ∧ Below w.heap.size w w' := by
  unfold ansV
  have hb := Lib.hid ((Below.refl w.heap.size w).alloc (Nat.le_refl _) (.cells (ansC k e n m t A len cap s) 34))
  unfold ansC at hb
  rcases refFits_cases j k e s len with ⟨h0, hf⟩ | ⟨rfl, h⟩
  · rw [hf]
    clear hf
    go_enter Try.func14, Try.ntmps14
    go_wp2
    go_ret
    exact ⟨rfl, hb.out⟩
  rcases h with ⟨h1, hf⟩ | ⟨h1, h2, hf⟩ | ⟨h1, h2, h3, hf⟩ | ⟨h1, h2, h3, h4, hf⟩ | ⟨h1, h2, h3, h4, h5, hf⟩ | ⟨h1, h2, h3, h4, h5, h6, hf⟩ | ⟨h1, h2, h3, h4, h5, h6, hf⟩
  all_goals
    rw [hf]
    clear hf
    go_enter Try.func14, Try.ntmps14
    go_wp2
    go_ret
    exact ⟨rfl, hb.out⟩
end Go.Proofs.Ytemokpnepnmmkaa
/- Whether two rows of texts, two requests, two answers are the same: the program's and the document's. -/
namespace Go.Proofs.Ytemokpnepnmmkaa
open Go.RowKit
/-- A text as a cell. -/
def sv (t : List UInt8) : Value := .string (mkS t)
theorem mkS_inj {a b : List UInt8} : (mkS a).toList = (mkS b).toList ↔ a = b := by
  rw [ByteArray.toList_eq, ByteArray.toList_eq, mkS_list, mkS_list]
theorem mkS_ne {a b : List UInt8} (h : a ≠ b) : ((mkS a).toList == (mkS b).toList) = false := by
  rw [beq_eq_false_iff_ne]; exact fun e => h (mkS_inj.1 e)
theorem take_next {α : Type} {l m : List α} {k : Nat} (hl : k < l.length) (hm : k < m.length) (h : l.take k = m.take k) (e : l[k] = m[k]) : l.take (k + 1) = m.take (k + 1) := by
  rw [List.take_succ_eq_append_getElem hl, List.take_succ_eq_append_getElem hm, h, e]
set_option maxRecDepth 100000 in
theorem sameTexts_v (A A' : Option Addr) (n n' c c' B B' : Nat) (l l' : List (List UInt8)) (w : World) (hr : Rd w B A n (l.map sv)) (hr' : Rd w B' A' n' (l'.map sv)) (hB : B ≤ w.heap.size) (hB' : B' ≤ w.heap.size) (hn : n ≤ maxLen) (hn' : n' ≤ maxLen) :
    Calls Try.prog 54 #[.slice A n c, .slice A' n' c'] w fun e w' => e = .returned (.bool (decide (l = l'))) ∧ Below w.heap.size w w' := by
  have hl := hr.len_map
  have hl' := hr'.len_map
  unfold maxLen at hn hn'
  by_cases hnn : n = n'
  · subst hnn
    have HL := Lib.hid hl
    have HL' := Lib.hid hl'
    have HR := Lib.hid hr
    have HR' := Lib.hid hr'
    clear hr hr' hl hl'
    go_enter Try.func54, Try.ntmps54
    go_wp2
    go_loopw [5] (fun i wr => ∃ k : Nat, k ≤ n ∧ i = .int .i64 (k : Int) ∧ l.take k = l'.take k ∧ Below w.heap.size w wr) (fun i _ => n - (intOf i).toNat)
    case atStart => exact ⟨0, by omega, rfl, rfl, Below.refl _ _⟩
    case round =>
      obtain ⟨k, hk, rfl, hs, hb⟩ := hrel
      have HS := Lib.hid hs
      clear hs
      by_cases hlt : k < n
      · obtain ⟨ad, hl1, rfl, _, hc⟩ := (HR.out.below (hb.mono hB)).at_map (k := k) hlt
        obtain ⟨ad', hl2, rfl, _, hc'⟩ := (HR'.out.below (hb.mono hB')).at_map (k := k) hlt
        have hc1 : wr.cell? (ad.add k) = some (.string (mkS l[k])) := hc
        have hc2 : wr.cell? (ad'.add k) = some (.string (mkS l'[k])) := hc'
        clear hc hc'
        by_cases he : l[k] = l'[k]
        · rw [← he] at hc2
          have HE := Lib.hid he
          clear he
          go_wp2
          go_region
          all_goals
            go_wp2
            go_roundw
            case rel => exact ⟨k + 1, by omega, by go_num, take_next hl1 hl2 HS.out HE.out, hb.drew⟩
            case measure => simp [intOf]; omega
        · have hne := mkS_ne he
          have hd : decide (l = l') = false := decide_eq_false fun e => he (by subst e; rfl)
          have HD := Lib.hid hd
          clear hd
          go_wp2
          go_region
          all_goals
            go_wp2
            go_ret
            exact ⟨ret_bool HD.out.symm, hb.drew⟩
      · have hd : decide (l = l') = true := decide_eq_true (by
          have := HS.out
          rwa [List.take_of_length_le (by have := HL.out; omega), List.take_of_length_le (by have := HL'.out; omega)] at this)
        have HD := Lib.hid hd
        clear hd
        go_wp2
        go_ret
        exact ⟨ret_bool HD.out.symm, hb⟩
  · have hd : decide (l = l') = false := decide_eq_false fun e => hnn (by rw [← hl, ← hl', e])
    have hne : ((n : Int) != (n' : Int)) = true := by simp; omega
    rw [hd]
    clear hd hl hl' hr hr'
    go_enter Try.func54, Try.ntmps54
    go_wp2
    go_ret
    exact ⟨rfl, Below.refl _ _⟩
end Go.Proofs.Ytemokpnepnmmkaa
/- Same, of requests, the program's and the document's; SameAnswers. -/
namespace Go.Proofs.Ytemokpnepnmmkaa
open Go.RowKit
theorem ieq_f {a b : Int} (h : ¬ a = b) : (a == b) = false := by simpa using h
def reqC (k n m : Int) (t : List UInt8) (A : Option Addr) (len cap : Nat) : Array Value := #[.int .i64 k, .int .i64 n, .int .i64 m, .string (mkS t), .slice A len cap]
/-- Two requests, one field behind the other: the first that differs. -/
theorem same_cases (k n m k' n' m' : Int) (t t' : List UInt8) (l l' : List (List UInt8)) {b : Bool} (hb : b = decide (k = k' ∧ n = n' ∧ m = m' ∧ t = t' ∧ l = l')) :
    ((k == k') = false ∧ b = false) ∨ (k' = k ∧ (((n == n') = false ∧ b = false) ∨ (n' = n ∧ (((m == m') = false ∧ b = false) ∨ (m' = m ∧ ((((mkS t).toList == (mkS t').toList) = false ∧ b = false) ∨ (t' = t ∧ b = decide (l = l')))))))) := by
  subst hb
  by_cases h1 : k = k'
  case neg => exact .inl ⟨ieq_f h1, decide_eq_false fun h => h1 h.1⟩
  by_cases h2 : n = n'
  case neg => exact .inr ⟨h1.symm, .inl ⟨ieq_f h2, decide_eq_false fun h => h2 h.2.1⟩⟩
  by_cases h3 : m = m'
  case neg => exact .inr ⟨h1.symm, .inr ⟨h2.symm, .inl ⟨ieq_f h3, decide_eq_false fun h => h3 h.2.2.1⟩⟩⟩
  by_cases h4 : t = t'
  case neg => exact .inr ⟨h1.symm, .inr ⟨h2.symm, .inr ⟨h3.symm, .inl ⟨mkS_ne h4, decide_eq_false fun h => h4 h.2.2.2.1⟩⟩⟩⟩
  exact .inr ⟨h1.symm, .inr ⟨h2.symm, .inr ⟨h3.symm, .inr ⟨h4.symm, by rw [decide_eq_decide]; exact ⟨fun h => h.2.2.2.2, fun h => ⟨h1, h2, h3, h4, h⟩⟩⟩⟩⟩⟩
section
variable {a b c d e : Value}
theorem lit5_0 : (#[a, b, c, d, e] : Array Value)[0]? = some a := rfl
theorem lit5_1 : (#[a, b, c, d, e] : Array Value)[1]? = some b := rfl
theorem lit5_2 : (#[a, b, c, d, e] : Array Value)[2]? = some c := rfl
theorem lit5_3 : (#[a, b, c, d, e] : Array Value)[3]? = some d := rfl
theorem lit5_4 : (#[a, b, c, d, e] : Array Value)[4]? = some e := rfl
end
/-- Two structs that were laid, in a later world. -/
theorem two_cells (w : World) (cs cs' : Array Value) (T T' : TypeId) {w1 : World} (hb : Below ((w.alloc (.cells cs T)).alloc (.cells cs' T')).heap.size ((w.alloc (.cells cs T)).alloc (.cells cs' T')) w1) :
    (∀ i, w1.cell? ⟨w.heap.size, i, none⟩ = cs[i]?) ∧ (∀ i, w1.cell? ⟨w.heap.size + 1, i, none⟩ = cs'[i]?) ∧ w.heap.size + 1 < w1.heap.size := by
  have hz : ((w.alloc (.cells cs T)).alloc (.cells cs' T')).heap.size = w.heap.size + 2 := by simp
  have hz1 : (w.alloc (.cells cs T)).heap.size = w.heap.size + 1 := by simp
  refine ⟨fun i => ?_, fun i => ?_, by have := hb.size; omega⟩
  · rw [hb.cell (p := ⟨w.heap.size, i, none⟩) (by rw [hz]; show w.heap.size < _; omega)]
    have h0 : (w.alloc (.cells cs T)).heap[w.heap.size]? = some (.cells cs T (0, 0)) := heap_alloc_new w _
    have hb2 := (Below.refl (w.alloc (.cells cs T)).heap.size (w.alloc (.cells cs T))).alloc (Nat.le_refl _) (.cells cs' T')
    rw [hb2.cell (p := ⟨w.heap.size, i, none⟩) (by rw [hz1]; show w.heap.size < _; omega)]
    exact cell_of_row _ _ i cs T (0, 0) h0
  · rw [hb.cell (p := ⟨w.heap.size + 1, i, none⟩) (by rw [hz]; show w.heap.size + 1 < _; omega)]
    have h0 : ((w.alloc (.cells cs T)).alloc (.cells cs' T')).heap[(w.alloc (.cells cs T)).heap.size]? = some (.cells cs' T' (0, 0)) := heap_alloc_new _ _
    rw [hz1] at h0
    exact cell_of_row _ _ i cs' T' (0, 0) h0
section
variable (k n m k' n' m' : Int) (t t' : List UInt8) (A A' : Option Addr) (len cap len' cap' : Nat) (l l' : List (List UInt8)) (w : World)
theorem two_below (o o' : Obj) : Below w.heap.size w ((w.alloc o).alloc o') := ((Below.refl _ w).alloc (Nat.le_refl _) o).alloc (by simp) o'
end
end Go.Proofs.Ytemokpnepnmmkaa
/- SameAnswers, the document's. -/
namespace Go.Proofs.Ytemokpnepnmmkaa
open Go.RowKit
def sameA (k e n m s k' e' n' m' s' : Int) (t t' : List UInt8) (l l' : List (List UInt8)) : Bool := decide (k = k' ∧ e = e' ∧ n = n' ∧ m = m' ∧ t = t' ∧ s = s' ∧ l = l')
theorem sameA_cases (k e n m s k' e' n' m' s' : Int) (t t' : List UInt8) (l l' : List (List UInt8)) {b : Bool} (hb : b = sameA k e n m s k' e' n' m' s' t t' l l') (hl : l = l') :
    ((k == k') = false ∧ b = false) ∨ (k' = k ∧ (((e == e') = false ∧ b = false) ∨ (e' = e ∧ (((n == n') = false ∧ b = false) ∨ (n' = n ∧ (((m == m') = false ∧ b = false) ∨ (m' = m ∧ ((((mkS t).toList == (mkS t').toList) = false ∧ b = false) ∨ (t' = t ∧ (((s == s') = false ∧ b = false) ∨ (s' = s ∧ b = true))))))))))) := by
  subst hb
  unfold sameA
  by_cases h1 : k = k'
  case neg => exact .inl ⟨ieq_f h1, decide_eq_false fun h => h1 h.1⟩
  by_cases h5 : e = e'
  case neg => exact .inr ⟨h1.symm, .inl ⟨ieq_f h5, decide_eq_false fun h => h5 h.2.1⟩⟩
  by_cases h2 : n = n'
  case neg => exact .inr ⟨h1.symm, .inr ⟨h5.symm, .inl ⟨ieq_f h2, decide_eq_false fun h => h2 h.2.2.1⟩⟩⟩
  by_cases h3 : m = m'
  case neg => exact .inr ⟨h1.symm, .inr ⟨h5.symm, .inr ⟨h2.symm, .inl ⟨ieq_f h3, decide_eq_false fun h => h3 h.2.2.2.1⟩⟩⟩⟩
  by_cases h4 : t = t'
  case neg => exact .inr ⟨h1.symm, .inr ⟨h5.symm, .inr ⟨h2.symm, .inr ⟨h3.symm, .inl ⟨mkS_ne h4, decide_eq_false fun h => h4 h.2.2.2.2.1⟩⟩⟩⟩⟩
  by_cases h6 : s = s'
  case neg => exact .inr ⟨h1.symm, .inr ⟨h5.symm, .inr ⟨h2.symm, .inr ⟨h3.symm, .inr ⟨h4.symm, .inl ⟨ieq_f h6, decide_eq_false fun h => h6 h.2.2.2.2.2.1⟩⟩⟩⟩⟩⟩
  exact .inr ⟨h1.symm, .inr ⟨h5.symm, .inr ⟨h2.symm, .inr ⟨h3.symm, .inr ⟨h4.symm, .inr ⟨h6.symm, decide_eq_true ⟨h1, h5, h2, h3, h4, h6, hl⟩⟩⟩⟩⟩⟩⟩
section
variable {a b c d e f g : Value}
theorem lit7_0 : (#[a, b, c, d, e, f, g] : Array Value)[0]? = some a := rfl
theorem lit7_1 : (#[a, b, c, d, e, f, g] : Array Value)[1]? = some b := rfl
theorem lit7_2 : (#[a, b, c, d, e, f, g] : Array Value)[2]? = some c := rfl
theorem lit7_3 : (#[a, b, c, d, e, f, g] : Array Value)[3]? = some d := rfl
theorem lit7_4 : (#[a, b, c, d, e, f, g] : Array Value)[4]? = some e := rfl
theorem lit7_5 : (#[a, b, c, d, e, f, g] : Array Value)[5]? = some f := rfl
theorem lit7_6 : (#[a, b, c, d, e, f, g] : Array Value)[6]? = some g := rfl
end
set_option maxHeartbeats 1000000 in
theorem refSameA_v (k e n m s k' e' n' m' s' : Int) (t t' : List UInt8) (A A' : Option Addr) (len cap len' cap' : Nat) (l l' : List (List UInt8)) (w : World) (hr : Rd w w.heap.size A len (l.map sv)) (hr' : Rd w w.heap.size A' len' (l'.map sv)) (hn : len ≤ maxLen) (hn' : len' ≤ maxLen) :
    Calls Try.prog 37 #[ansV k e n m t A len cap s, ansV k' e' n' m' t' A' len' cap' s'] w fun r w' => r = .returned (.bool (sameA k e n m s k' e' n' m' s' t t' l l')) ∧ Below w.heap.size w w' := by
  obtain ⟨b, hb⟩ : ∃ b, b = sameA k e n m s k' e' n' m' s' t t' l l' := ⟨_, rfl⟩
  rw [← hb]
  unfold ansV
  have hbl := Lib.hid (two_below w (.cells (ansC k e n m t A len cap s) 34) (.cells (ansC k' e' n' m' t' A' len' cap' s') 34))
  have heq := fun (W : World) (hW : Below w.heap.size w W) => sameTexts_v A A' len len' cap cap' w.heap.size w.heap.size l l' W (hr.below hW) (hr'.below hW) hW.size hW.size hn hn'
  have HEQ := Lib.hid heq
  have H2 := fun w1 hb' => two_cells w (ansC k e n m t A len cap s) (ansC k' e' n' m' t' A' len' cap' s') 34 34 (w1 := w1) hb'
  have HREQ := Lib.hid H2
  unfold ansC at hbl HREQ
  clear heq hr hr' H2
  by_cases hll : l = l'
  · have hd := decide_eq_true hll
    have hcs := sameA_cases k e n m s k' e' n' m' s' t t' l l' hb hll
    clear hb
    have HD := Lib.hid hd
    clear hd hll
    rcases hcs with ⟨h, rfl⟩ | ⟨rfl, ⟨h, rfl⟩ | ⟨rfl, ⟨h, rfl⟩ | ⟨rfl, ⟨h, rfl⟩ | ⟨rfl, ⟨h, rfl⟩ | ⟨rfl, ⟨h, rfl⟩ | ⟨rfl, rfl⟩⟩⟩⟩⟩⟩
    all_goals
      go_enter Try.func37, Try.ntmps37
      go_wp2_with (go_at_call 54; (with_reducible refine (HEQ.out _ hbl.out).mono ?_); rintro r w1 ⟨rfl, hb'⟩; rw [HD.out]; obtain ⟨c1, c2, hz⟩ := HREQ.out w1 hb'; have q0 := c1 0; have q1 := c1 1; have q2 := c1 2; have q3 := c1 3; have q4 := c1 4; have q6 := c1 6; have p0 := c2 0; have p1 := c2 1; have p2 := c2 2; have p3 := c2 3; have p4 := c2 4; have p6 := c2 6; simp only [lit7_0, lit7_1, lit7_2, lit7_3, lit7_4, lit7_6] at q0 q1 q2 q3 q4 q6 p0 p1 p2 p3 p4 p6; clear c1 c2)
      go_ret
      exact ⟨rfl, hbl.out.trans (hb'.mono hbl.out.size)⟩
  · have hd := decide_eq_false hll
    have HD := Lib.hid hd
    have hbf : b = false := by rw [hb]; exact decide_eq_false fun h => hll h.2.2.2.2.2.2
    subst hbf
    clear hb hll hd
    go_enter Try.func37, Try.ntmps37
    go_wp2_with (go_at_call 54; (with_reducible refine (HEQ.out _ hbl.out).mono ?_); rintro r w1 ⟨rfl, hb'⟩; rw [HD.out])
    go_ret
    exact ⟨rfl, hbl.out.trans (hb'.mono hbl.out.size)⟩
end Go.Proofs.Ytemokpnepnmmkaa
