/- SameAnswers, the document's. -/
import Derived.Test.YtbgojfgapbcanaaDoorEvE
namespace Go.Proofs.YtbgojfgapbcanaaDoor
open Go.RowKit
def sameA (k e n m s k' e' n' m' s' : Int) (t t' : List UInt8) (l l' : List (List UInt8)) : Bool := decide (k = k' ∧ e = e' ∧ n = n' ∧ m = m' ∧ t = t' ∧ s = s' ∧ l = l')
theorem sameA_cases (k e n m s k' e' n' m' s' : Int) (t t' : List UInt8) (l l' : List (List UInt8)) {b : Bool} (hb : b = sameA k e n m s k' e' n' m' s' t t' l l') (hl : l = l') :
    ((k == k') = false ∧ b = false) ∨ (k' = k ∧ (((e == e') = false ∧ b = false) ∨ (e' = e ∧ (((n == n') = false ∧ b = false) ∨ (n' = n ∧ (((m == m') = false ∧ b = false) ∨ (m' = m ∧ ((((mkS t).toList == (mkS t').toList) = false ∧ b = false) ∨ (t' = t ∧ (((s == s') = false ∧ b = false) ∨ (s' = s ∧ b = true))))))))))) := by
  subst hb
  unfold sameA
  by_cases h1 : k = k'
  case neg => exact .inl ⟨ieq_f h1, decide_eq_false fun h => h1 h.1⟩
  by_cases h5 : e = e'
  case neg => exact .inr ⟨h1.symm, .inl ⟨ieq_f h5, decide_eq_false fun h => h5 h.2.1⟩⟩
  by_cases h2 : n = n'
  case neg => exact .inr ⟨h1.symm, .inr ⟨h5.symm, .inl ⟨ieq_f h2, decide_eq_false fun h => h2 h.2.2.1⟩⟩⟩
  by_cases h3 : m = m'
  case neg => exact .inr ⟨h1.symm, .inr ⟨h5.symm, .inr ⟨h2.symm, .inl ⟨ieq_f h3, decide_eq_false fun h => h3 h.2.2.2.1⟩⟩⟩⟩
  by_cases h4 : t = t'
  case neg => exact .inr ⟨h1.symm, .inr ⟨h5.symm, .inr ⟨h2.symm, .inr ⟨h3.symm, .inl ⟨mkS_ne h4, decide_eq_false fun h => h4 h.2.2.2.2.1⟩⟩⟩⟩⟩
  by_cases h6 : s = s'
  case neg => exact .inr ⟨h1.symm, .inr ⟨h5.symm, .inr ⟨h2.symm, .inr ⟨h3.symm, .inr ⟨h4.symm, .inl ⟨ieq_f h6, decide_eq_false fun h => h6 h.2.2.2.2.2.1⟩⟩⟩⟩⟩⟩
  exact .inr ⟨h1.symm, .inr ⟨h5.symm, .inr ⟨h2.symm, .inr ⟨h3.symm, .inr ⟨h4.symm, .inr ⟨h6.symm, decide_eq_true ⟨h1, h5, h2, h3, h4, h6, hl⟩⟩⟩⟩⟩⟩⟩
section
variable {a b c d e f g : Value}
theorem lit7_0 : (#[a, b, c, d, e, f, g] : Array Value)[0]? = some a := rfl
theorem lit7_1 : (#[a, b, c, d, e, f, g] : Array Value)[1]? = some b := rfl
theorem lit7_2 : (#[a, b, c, d, e, f, g] : Array Value)[2]? = some c := rfl
theorem lit7_3 : (#[a, b, c, d, e, f, g] : Array Value)[3]? = some d := rfl
theorem lit7_4 : (#[a, b, c, d, e, f, g] : Array Value)[4]? = some e := rfl
theorem lit7_5 : (#[a, b, c, d, e, f, g] : Array Value)[5]? = some f := rfl
theorem lit7_6 : (#[a, b, c, d, e, f, g] : Array Value)[6]? = some g := rfl
end
set_option maxHeartbeats 1000000 in
theorem refSameA_v (k e n m s k' e' n' m' s' : Int) (t t' : List UInt8) (A A' : Option Addr) (len cap len' cap' : Nat) (l l' : List (List UInt8)) (w : World) (hr : Rd w w.heap.size A len (l.map sv)) (hr' : Rd w w.heap.size A' len' (l'.map sv)) (hn : len ≤ maxLen) (hn' : len' ≤ maxLen) :
    Calls Tryd.prog 26 #[ansV k e n m t A len cap s, ansV k' e' n' m' t' A' len' cap' s'] w fun r w' => r = .returned (.bool (sameA k e n m s k' e' n' m' s' t t' l l')) ∧ Below w.heap.size w w' := by
  obtain ⟨b, hb⟩ : ∃ b, b = sameA k e n m s k' e' n' m' s' t t' l l' := ⟨_, rfl⟩
  rw [← hb]
  unfold ansV
  have hbl := Lib.hid (two_below w (.cells (ansC k e n m t A len cap s) 26) (.cells (ansC k' e' n' m' t' A' len' cap' s') 26))
  have heq := fun (W : World) (hW : Below w.heap.size w W) => sameTexts_v A A' len len' cap cap' w.heap.size w.heap.size l l' W (hr.below hW) (hr'.below hW) hW.size hW.size hn hn'
  have HEQ := Lib.hid heq
  have H2 := fun w1 hb' => two_cells w (ansC k e n m t A len cap s) (ansC k' e' n' m' t' A' len' cap' s') 26 26 (w1 := w1) hb'
  have HREQ := Lib.hid H2
  unfold ansC at hbl HREQ
  clear heq hr hr' H2
  by_cases hll : l = l'
  · have hd := decide_eq_true hll
    have hcs := sameA_cases k e n m s k' e' n' m' s' t t' l l' hb hll
    clear hb
    have HD := Lib.hid hd
    clear hd hll
    rcases hcs with ⟨h, rfl⟩ | ⟨rfl, ⟨h, rfl⟩ | ⟨rfl, ⟨h, rfl⟩ | ⟨rfl, ⟨h, rfl⟩ | ⟨rfl, ⟨h, rfl⟩ | ⟨rfl, ⟨h, rfl⟩ | ⟨rfl, rfl⟩⟩⟩⟩⟩⟩
    all_goals
      go_enter Tryd.func26, Tryd.ntmps26
      go_wp2_with (go_at_call 30; (with_reducible refine (HEQ.out _ hbl.out).mono ?_); rintro r w1 ⟨rfl, hb'⟩; rw [HD.out]; obtain ⟨c1, c2, hz⟩ := HREQ.out w1 hb'; have q0 := c1 0; have q1 := c1 1; have q2 := c1 2; have q3 := c1 3; have q4 := c1 4; have q6 := c1 6; have p0 := c2 0; have p1 := c2 1; have p2 := c2 2; have p3 := c2 3; have p4 := c2 4; have p6 := c2 6; simp only [lit7_0, lit7_1, lit7_2, lit7_3, lit7_4, lit7_6] at q0 q1 q2 q3 q4 q6 p0 p1 p2 p3 p4 p6; clear c1 c2)
      go_ret
      exact ⟨rfl, hbl.out.trans (hb'.mono hbl.out.size)⟩
  · have hd := decide_eq_false hll
    have HD := Lib.hid hd
    have hbf : b = false := by rw [hb]; exact decide_eq_false fun h => hll h.2.2.2.2.2.2
    subst hbf
    clear hb hll hd
    go_enter Tryd.func26, Tryd.ntmps26
    go_wp2_with (go_at_call 30; (with_reducible refine (HEQ.out _ hbl.out).mono ?_); rintro r w1 ⟨rfl, hb'⟩; rw [HD.out])
    go_ret
    exact ⟨rfl, hbl.out.trans (hb'.mono hbl.out.size)⟩
end Go.Proofs.YtbgojfgapbcanaaDoor
