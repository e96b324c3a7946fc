/- TesterTold's walk. The listed variables: their condition. -/
import Derived.Test.YtjidclefpmcgoaaDoorYw
namespace Go.Proofs.YtjidclefpmcgoaaDoor
open Go.RowKit Go.Maps
namespace Ar
set_option maxHeartbeats 3200000 in
set_option maxRecDepth 100000 in
theorem told_law (nt : Bool) (op path : L) (k e n m : Int) (t : ByteArray) (A : Option Addr) (ln c : Nat) (s : Int) (W : World) (hvd : Vd W) : Calls Tryd.prog 4 #[.agg #[.bool nt, .string (mkS op), .string (mkS path)], .agg #[.int .i64 k, .int .i64 e, .int .i64 n, .int .i64 m, .string t, .slice A ln c, .int .i64 s]] W fun r W' => r = .returned (.bool true) ∧ Later W W' := by
  have htl : ∀ l, (mkS l).toList = l := toList_mkS
  have hl2 := (Later.alloc W (.cells #[.bool nt, .string (mkS op), .string (mkS path)] 25)).trans (Later.alloc _ (.cells #[.int .i64 k, .int .i64 e, .int .i64 n, .int .i64 m, .string t, .slice A ln c, .int .i64 s] 33))
  have HAW := Lib.hid (awake_v _ (hvd.later hl2))
  have HB1 := Lib.hid (later_cells (Later.alloc (W.alloc (.cells #[.bool nt, .string (mkS op), .string (mkS path)] 25)) (.cells #[.int .i64 k, .int .i64 e, .int .i64 n, .int .i64 m, .string t, .slice A ln c, .int .i64 s] 33)) (heap_alloc_new W (.cells #[.bool nt, .string (mkS op), .string (mkS path)] 25)))
  have HB2 := Lib.hid (show ((W.alloc (.cells #[.bool nt, .string (mkS op), .string (mkS path)] 25)).alloc (.cells #[.int .i64 k, .int .i64 e, .int .i64 n, .int .i64 m, .string t, .slice A ln c, .int .i64 s] 33)).heap[W.heap.size + 1]? = some (.cells #[.int .i64 k, .int .i64 e, .int .i64 n, .int .i64 m, .string t, .slice A ln c, .int .i64 s] 33 (0, 0)) by have := heap_alloc_new (W.alloc (.cells #[.bool nt, .string (mkS op), .string (mkS path)] 25)) (.cells #[.int .i64 k, .int .i64 e, .int .i64 n, .int .i64 m, .string t, .slice A ln c, .int .i64 s] 33); rw [World.size_alloc] at this; exact this)
  have HL0 := Lib.hid hl2
  obtain ⟨r, hr⟩ : ∃ r, (isB op e n != nt) = r := ⟨_, rfl⟩
  obtain ⟨z, hz⟩ : ∃ z : Int, z = t01 r := ⟨_, rfl⟩
  have HT := Lib.hid (fun W => answer_v nt op path k e n m t A ln c s W)
  rw [hr, ← hz] at HT
  unfold isB at hr
  clear hl2 hvd
  go_enter Tryd.func4, Tryd.ntmps4
  go_wp2_with fail
  go_at_call 7
  with_reducible refine HAW.out.mono ?_
  rintro ew w1 ⟨rfl, hl1⟩
  have hx := fun i => (cell_row (later_cells hl1 HB1.out) i).1
  have hy := fun i => (cell_row (later_cells hl1 HB2.out) i).1
  have p0 : w1.cell? ⟨W.heap.size, 0, none⟩ = some (.bool nt) := hx 0
  have p1 : w1.cell? ⟨W.heap.size, 1, none⟩ = some (.string (mkS op)) := hx 1
  have p2 : w1.cell? ⟨W.heap.size, 2, none⟩ = some (.string (mkS path)) := hx 2
  have q0 : w1.cell? ⟨W.heap.size + 1, 0, none⟩ = some (.int .i64 k) := hy 0
  have q1 : w1.cell? ⟨W.heap.size + 1, 1, none⟩ = some (.int .i64 e) := hy 1
  have q2 : w1.cell? ⟨W.heap.size + 1, 2, none⟩ = some (.int .i64 n) := hy 2
  have q3 : w1.cell? ⟨W.heap.size + 1, 3, none⟩ = some (.int .i64 m) := hy 3
  have q4 : w1.cell? ⟨W.heap.size + 1, 4, none⟩ = some (.string t) := hy 4
  have q5 : w1.cell? ⟨W.heap.size + 1, 5, none⟩ = some (.slice A ln c) := hy 5
  have q6 : w1.cell? ⟨W.heap.size + 1, 6, none⟩ = some (.int .i64 s) := hy 6
  have HL1 := Lib.hid (HL0.out.trans hl1)
  clear hx hy hl1
  obtain ⟨b0, h0⟩ : ∃ b, (e == 0) = b := ⟨_, rfl⟩
  obtain ⟨b1, h1⟩ : ∃ b, (n == 1) = b := ⟨_, rfl⟩
  obtain ⟨b2, h2⟩ : ∃ b, (n == 2) = b := ⟨_, rfl⟩
  rw [h0, h1, h2] at hr
  by_cases hf : op = [45, 102]
  · have g1 : (op == [45, 102]) = true := by rw [hf]; rfl
    have g2 : (op == [45, 100]) = false := by rw [hf]; rfl
    have hr1 : ((b0 && b1) != nt) = r := by rw [← hr, hf, show (([45, 102] : L) != [45, 102]) = false from rfl, show (([45, 102] : L) != [45, 100]) = true from rfl]; simp
    clear hr hf
    subst hr1
    cases b0 <;> cases b1 <;> cases nt
    all_goals (obtain rfl | rfl : z = 0 ∨ z = 1 := by rw [hz]; exact t01_or _)
    all_goals first
      | (exact absurd hz (by decide))
      | (clear hz
         go_wp2_with (go_at_call 10; (with_reducible refine (HT.out _).mono ?_); rintro e2 w2 ⟨rfl, hl2⟩)
         go_ret
         exact ⟨rfl, HL1.out.trans hl2⟩)
  · have g1 : (op == [45, 102]) = false := beq_eq_false_iff_ne.2 hf
    by_cases hd : op = [45, 100]
    · have g2 : (op == [45, 100]) = true := by rw [hd]; rfl
      have hr1 : ((b0 && b2) != nt) = r := by rw [← hr, hd, show (([45, 100] : L) != [45, 102]) = true from rfl, show (([45, 100] : L) != [45, 100]) = false from rfl]; simp
      clear hr hf hd
      subst hr1
      cases b0 <;> cases b2 <;> cases nt
      all_goals (obtain rfl | rfl : z = 0 ∨ z = 1 := by rw [hz]; exact t01_or _)
      all_goals first
        | (exact absurd hz (by decide))
        | (clear hz
           go_wp2_with (go_at_call 10; (with_reducible refine (HT.out _).mono ?_); rintro e2 w2 ⟨rfl, hl2⟩)
           go_ret
           exact ⟨rfl, HL1.out.trans hl2⟩)
    · have g2 : (op == [45, 100]) = false := beq_eq_false_iff_ne.2 hd
      have hr1 : (b0 != nt) = r := by rw [← hr, show (op != [45, 102]) = true from bne_iff_ne.2 hf, show (op != [45, 100]) = true from bne_iff_ne.2 hd]; simp
      clear hr hf hd
      subst hr1
      cases b0 <;> cases nt
      all_goals (obtain rfl | rfl : z = 0 ∨ z = 1 := by rw [hz]; exact t01_or _)
      all_goals first
        | (exact absurd hz (by decide))
        | (clear hz
           go_wp2_with (go_at_call 10; (with_reducible refine (HT.out _).mono ?_); rintro e2 w2 ⟨rfl, hl2⟩)
           go_ret
           exact ⟨rfl, HL1.out.trans hl2⟩)
end Ar
namespace testerTold
theorem walk (W : World) (hvd : Ar.Vd W) (nt : Bool) (op : ByteArray) (path : ByteArray) (k : Int) (_ : (Lit.int .i64 k).wf = true) (e : Int) (_ : (Lit.int .i64 e).wf = true) (n : Int) (_ : (Lit.int .i64 n).wf = true) (m : Int) (_ : (Lit.int .i64 m).wf = true) (t : ByteArray) (_ : t.size ≤ maxLen) (A : Option Addr) (ln c : Nat) (l : List ByteArray) (_ : Rd W W.heap.size A ln (l.map Value.string) ∧ (∀ s ∈ l, s.size ≤ maxLen) ∧ ln ≤ c ∧ c ≤ maxLen) (s : Int) (_ : (Lit.int .i64 s).wf = true) : Calls Tryd.prog 4 #[.agg #[.bool nt, .string op, .string path], .agg #[.int .i64 k, .int .i64 e, .int .i64 n, .int .i64 m, .string t, .slice A ln c, .int .i64 s]] W fun r W' => r = .returned (.bool true) ∧ Below W.heap.size W W' := by
  have h := Ar.told_law nt op.data.toList path.data.toList k e n m t A ln c s W hvd
  rw [mkS_of, mkS_of] at h
  exact h
end testerTold
end Go.Proofs.YtjidclefpmcgoaaDoor
