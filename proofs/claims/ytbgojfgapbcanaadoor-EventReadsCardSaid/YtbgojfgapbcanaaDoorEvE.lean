/- Same, of requests, the program's and the document's; SameAnswers. -/
import Derived.Test.YtbgojfgapbcanaaDoorEvS
namespace Go.Proofs.YtbgojfgapbcanaaDoor
open Go.RowKit
theorem ieq_f {a b : Int} (h : ¬ a = b) : (a == b) = false := by simpa using h
def reqC (k n m : Int) (t : List UInt8) (A : Option Addr) (len cap : Nat) : Array Value := #[.int .i64 k, .int .i64 n, .int .i64 m, .string (mkS t), .slice A len cap]
/-- Two requests, one field behind the other: the first that differs. -/
theorem same_cases (k n m k' n' m' : Int) (t t' : List UInt8) (l l' : List (List UInt8)) {b : Bool} (hb : b = decide (k = k' ∧ n = n' ∧ m = m' ∧ t = t' ∧ l = l')) :
    ((k == k') = false ∧ b = false) ∨ (k' = k ∧ (((n == n') = false ∧ b = false) ∨ (n' = n ∧ (((m == m') = false ∧ b = false) ∨ (m' = m ∧ ((((mkS t).toList == (mkS t').toList) = false ∧ b = false) ∨ (t' = t ∧ b = decide (l = l')))))))) := by
  subst hb
  by_cases h1 : k = k'
  case neg => exact .inl ⟨ieq_f h1, decide_eq_false fun h => h1 h.1⟩
  by_cases h2 : n = n'
  case neg => exact .inr ⟨h1.symm, .inl ⟨ieq_f h2, decide_eq_false fun h => h2 h.2.1⟩⟩
  by_cases h3 : m = m'
  case neg => exact .inr ⟨h1.symm, .inr ⟨h2.symm, .inl ⟨ieq_f h3, decide_eq_false fun h => h3 h.2.2.1⟩⟩⟩
  by_cases h4 : t = t'
  case neg => exact .inr ⟨h1.symm, .inr ⟨h2.symm, .inr ⟨h3.symm, .inl ⟨mkS_ne h4, decide_eq_false fun h => h4 h.2.2.2.1⟩⟩⟩⟩
  exact .inr ⟨h1.symm, .inr ⟨h2.symm, .inr ⟨h3.symm, .inr ⟨h4.symm, by rw [decide_eq_decide]; exact ⟨fun h => h.2.2.2.2, fun h => ⟨h1, h2, h3, h4, h⟩⟩⟩⟩⟩⟩
section
variable {a b c d e : Value}
theorem lit5_0 : (#[a, b, c, d, e] : Array Value)[0]? = some a := rfl
theorem lit5_1 : (#[a, b, c, d, e] : Array Value)[1]? = some b := rfl
theorem lit5_2 : (#[a, b, c, d, e] : Array Value)[2]? = some c := rfl
theorem lit5_3 : (#[a, b, c, d, e] : Array Value)[3]? = some d := rfl
theorem lit5_4 : (#[a, b, c, d, e] : Array Value)[4]? = some e := rfl
end
/-- Two structs that were laid, in a later world. -/
theorem two_cells (w : World) (cs cs' : Array Value) (T T' : TypeId) {w1 : World} (hb : Below ((w.alloc (.cells cs T)).alloc (.cells cs' T')).heap.size ((w.alloc (.cells cs T)).alloc (.cells cs' T')) w1) :
    (∀ i, w1.cell? ⟨w.heap.size, i, none⟩ = cs[i]?) ∧ (∀ i, w1.cell? ⟨w.heap.size + 1, i, none⟩ = cs'[i]?) ∧ w.heap.size + 1 < w1.heap.size := by
  have hz : ((w.alloc (.cells cs T)).alloc (.cells cs' T')).heap.size = w.heap.size + 2 := by simp
  have hz1 : (w.alloc (.cells cs T)).heap.size = w.heap.size + 1 := by simp
  refine ⟨fun i => ?_, fun i => ?_, by have := hb.size; omega⟩
  · rw [hb.cell (p := ⟨w.heap.size, i, none⟩) (by rw [hz]; show w.heap.size < _; omega)]
    have h0 : (w.alloc (.cells cs T)).heap[w.heap.size]? = some (.cells cs T (0, 0)) := heap_alloc_new w _
    have hb2 := (Below.refl (w.alloc (.cells cs T)).heap.size (w.alloc (.cells cs T))).alloc (Nat.le_refl _) (.cells cs' T')
    rw [hb2.cell (p := ⟨w.heap.size, i, none⟩) (by rw [hz1]; show w.heap.size < _; omega)]
    exact cell_of_row _ _ i cs T (0, 0) h0
  · rw [hb.cell (p := ⟨w.heap.size + 1, i, none⟩) (by rw [hz]; show w.heap.size + 1 < _; omega)]
    have h0 : ((w.alloc (.cells cs T)).alloc (.cells cs' T')).heap[(w.alloc (.cells cs T)).heap.size]? = some (.cells cs' T' (0, 0)) := heap_alloc_new _ _
    rw [hz1] at h0
    exact cell_of_row _ _ i cs' T' (0, 0) h0
section
variable (k n m k' n' m' : Int) (t t' : List UInt8) (A A' : Option Addr) (len cap len' cap' : Nat) (l l' : List (List UInt8)) (w : World)
theorem two_below (o o' : Obj) : Below w.heap.size w ((w.alloc o).alloc o') := ((Below.refl _ w).alloc (Nat.le_refl _) o).alloc (by simp) o'
set_option maxHeartbeats 400000 in
theorem same_v (hr : Rd w w.heap.size A len (l.map sv)) (hr' : Rd w w.heap.size A' len' (l'.map sv)) (hn : len ≤ maxLen) (hn' : len' ≤ maxLen) :
    Calls Tryd.prog 16 #[reqV k n m t A len cap, reqV k' n' m' t' A' len' cap'] w fun e w' => e = .returned (.bool (decide (k = k' ∧ n = n' ∧ m = m' ∧ t = t' ∧ l = l'))) ∧ Below w.heap.size w w' := by
  obtain ⟨b, hb⟩ : ∃ b, b = decide (k = k' ∧ n = n' ∧ m = m' ∧ t = t' ∧ l = l') := ⟨_, rfl⟩
  rw [← hb]
  unfold reqV
  have hbl := Lib.hid (two_below w (.cells (reqC k n m t A len cap) 24) (.cells (reqC k' n' m' t' A' len' cap') 24))
  have heq := fun (W : World) (hW : Below w.heap.size w W) => equal_v A A' len len' cap cap' w.heap.size w.heap.size l l' W (hr.below hW) (hr'.below hW) hW.size hW.size hn hn'
  have HEQ := Lib.hid heq
  unfold reqC at hbl
  clear heq hr hr'
  rcases same_cases k n m k' n' m' t t' l l' hb with ⟨h, rfl⟩ | ⟨rfl, ⟨h, rfl⟩ | ⟨rfl, ⟨h, rfl⟩ | ⟨rfl, ⟨h, rfl⟩ | ⟨rfl, h⟩⟩⟩⟩
  all_goals clear hb
  case inr.inr.inr.inr =>
    rw [h]
    clear h
    go_enter Tryd.func16, Tryd.ntmps16
    go_wp2_with (go_at_call 29; (with_reducible refine (HEQ.out _ hbl.out).mono ?_); rintro r w' ⟨rfl, hb'⟩)
    go_ret
    exact ⟨rfl, hbl.out.trans (hb'.mono hbl.out.size)⟩
  all_goals
    go_enter Tryd.func16, Tryd.ntmps16
    go_wp2
    go_ret
    exact ⟨rfl, hbl.out⟩
set_option maxHeartbeats 400000 in
theorem refSame_v (hr : Rd w w.heap.size A len (l.map sv)) (hr' : Rd w w.heap.size A' len' (l'.map sv)) (hn : len ≤ maxLen) (hn' : len' ≤ maxLen) :
    Calls Tryd.prog 17 #[reqV k n m t A len cap, reqV k' n' m' t' A' len' cap'] w fun e w' => e = .returned (.bool (decide (k = k' ∧ n = n' ∧ m = m' ∧ t = t' ∧ l = l'))) ∧ Below w.heap.size w w' := by
  obtain ⟨b, hb⟩ : ∃ b, b = decide (k = k' ∧ n = n' ∧ m = m' ∧ t = t' ∧ l = l') := ⟨_, rfl⟩
  rw [← hb]
  unfold reqV
  have hbl := Lib.hid (two_below w (.cells (reqC k n m t A len cap) 24) (.cells (reqC k' n' m' t' A' len' cap') 24))
  have heq := fun (W : World) (hW : Below w.heap.size w W) => sameTexts_v A A' len len' cap cap' w.heap.size w.heap.size l l' W (hr.below hW) (hr'.below hW) hW.size hW.size hn hn'
  have HEQ := Lib.hid heq
  have H2 := fun w1 hb' => two_cells w (reqC k n m t A len cap) (reqC k' n' m' t' A' len' cap') 24 24 (w1 := w1) hb'
  have HREQ := Lib.hid H2
  unfold reqC at hbl HREQ
  clear heq hr hr' H2
  by_cases hll : l = l'
  · have hd := decide_eq_true hll
    have hcs := same_cases k n m k' n' m' t t' l l' hb
    clear hb
    rw [hd] at hcs
    have HD := Lib.hid hd
    clear hd hll
    rcases hcs with ⟨h, rfl⟩ | ⟨rfl, ⟨h, rfl⟩ | ⟨rfl, ⟨h, rfl⟩ | ⟨rfl, ⟨h, rfl⟩ | ⟨rfl, rfl⟩⟩⟩⟩
    all_goals
      go_enter Tryd.func17, Tryd.ntmps17
      go_wp2_with (go_at_call 30; (with_reducible refine (HEQ.out _ hbl.out).mono ?_); rintro r w1 ⟨rfl, hb'⟩; rw [HD.out]; obtain ⟨c1, c2, hz⟩ := HREQ.out w1 hb'; have q0 := c1 0; have q1 := c1 1; have q2 := c1 2; have q3 := c1 3; have p0 := c2 0; have p1 := c2 1; have p2 := c2 2; have p3 := c2 3; simp only [lit5_0, lit5_1, lit5_2, lit5_3] at q0 q1 q2 q3 p0 p1 p2 p3; clear c1 c2)
      go_ret
      exact ⟨rfl, hbl.out.trans (hb'.mono hbl.out.size)⟩
  · have hd := decide_eq_false hll
    have HD := Lib.hid hd
    have hbf : b = false := by rw [hb]; exact decide_eq_false fun h => hll h.2.2.2.2
    subst hbf
    clear hb hll hd
    go_enter Tryd.func17, Tryd.ntmps17
    go_wp2_with (go_at_call 30; (with_reducible refine (HEQ.out _ hbl.out).mono ?_); rintro r w1 ⟨rfl, hb'⟩; rw [HD.out])
    go_ret
    exact ⟨rfl, hbl.out.trans (hb'.mono hbl.out.size)⟩
end
end Go.Proofs.YtbgojfgapbcanaaDoor
