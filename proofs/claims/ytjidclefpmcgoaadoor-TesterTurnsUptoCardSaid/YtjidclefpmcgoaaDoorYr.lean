/- The document's number, truth, turn, three. No premises. -/
import Derived.Test.YtjidclefpmcgoaaDoorYh
import Derived.Test.YtjidclefpmcgoaaDoorSof7
namespace Go.Proofs.YtjidclefpmcgoaaDoor
open Go.RowKit Go.Maps
namespace Ar
theorem results_A {fn : Func} {p : Tmp} (h : fn.results = #[.cell p 29]) (tmps : Array Value) (w : World) (g : Nat) (cs : Array Value) (hp : tmps.getD p undef = .pointer (some ⟨g, 0, none⟩)) (hg : w.heap[g]? = some (.cells cs 29 (0, 0))) (hs : cs.size = 5) : (results fn tmps).run Tryd.prog w = .ok (.agg cs) w :=
  results_cell_row h tmps w g _ cs (0, 0) _ hp hg Tryd.underlying29 rfl (by rw [hs]; kernel_rfl)
theorem results_A2 {fn : Func} {p q : Tmp} (h : fn.results = #[.cell p 29, .tmp q]) (tmps : Array Value) (w : World) (g : Nat) (cs : Array Value) (hp : tmps.getD p undef = .pointer (some ⟨g, 0, none⟩)) (hg : w.heap[g]? = some (.cells cs 29 (0, 0))) (hs : cs.size = 5) (v : Value) (hq : tmps.getD q undef = v) : (results fn tmps).run Tryd.prog w = .ok (.tuple #[.agg cs, v]) w := by
  have hp' : tmps[p]?.getD undef = .pointer (some ⟨g, 0, none⟩) := by simpa using hp
  have hq' : tmps[q]?.getD undef = v := by simpa using hq
  simp [results, h, hp', hq', asAddr, run_loadVar_row w g _ _ cs (0, 0) _ hg Tryd.underlying29 rfl (by rw [hs]; kernel_rfl)]
theorem alloc2 (W : World) (o o' : Obj) : ((W.alloc o).alloc o').heap[W.heap.size + 1]? = some o' := by have := heap_alloc_new (W.alloc o) o'; rw [World.size_alloc] at this; exact this
theorem any_all (l : L) : (l.any fun c => !blank c) = !(l.all blank) := by
  induction l with
  | nil => rfl
  | cons c r ih => rw [List.any_cons, List.all_cons, ih]; cases blank c <;> simp
set_option maxHeartbeats 3200000 in
set_option maxRecDepth 100000 in
theorem reft_v (l : L) (hl : l.length ≤ 2000000) (W : World) : Calls Tryd.prog 28 #[.string (mkS l)] W fun e W' => e = .returned (numI (tnum l)) ∧ W' = W := by
  have HN0 := Lib.hid (refNumber_v l hl W)
  obtain ⟨q, hq⟩ : ∃ q, q = numV l := ⟨_, rfl⟩
  have HT := Lib.hid (show tnum l = if trim l = [] then none else q by rw [hq]; rfl)
  have HTV := Lib.hid (show trim l = [] → q = some 0 by intro h; rw [hq, numV_of, h]; rfl)
  have HAN := Lib.hid (show (l.any fun c => !blank c) = !decide (trim l = []) by
    rw [any_all]
    by_cases h : trim l = []
    · rw [(trim_nil l).1 h, decide_eq_true h]
    · rw [decide_eq_false h, Bool.eq_false_iff.2 fun e => h ((trim_nil l).2 e)])
  rw [← hq] at HN0
  obtain ⟨z, hz⟩ : ∃ z : Int, z = q.getD 0 := ⟨_, rfl⟩
  obtain ⟨ok, hok⟩ : ∃ ok : Bool, ok = q.isSome := ⟨_, rfl⟩
  have HQ := Lib.hid (And.intro hz hok)
  unfold numI at HN0
  rw [← hz, ← hok] at HN0
  obtain ⟨n, hn⟩ : ∃ n, n = l.length := ⟨_, rfl⟩
  have hsz : (mkS l).size = n := by rw [mkS_size, hn]
  have HN := Lib.hid hn
  rw [← hn] at hl
  clear hn hz hok hq
  go_enter Tryd.func28, Tryd.ntmps28
  go_wp2_with (go_at_call 32; (with_reducible refine HN0.out.mono ?_); rintro e w1 ⟨rfl, rfl⟩)
  go_loopw [6, 7] (fun sv iv wr => ∃ (k : Nat) (sb : Bool), k ≤ n ∧ sv = .bool sb ∧ iv = .int .i64 (k : Int) ∧ wr = w1 ∧ Hid (sb = (l.take k).any fun c => !blank c)) (fun _ iv _ => n - (intOf iv).toNat)
  case atStart => exact ⟨0, false, by omega, rfl, rfl, rfl, Lib.hid rfl⟩
  case round =>
    obtain ⟨k, sb, hk, rfl, rfl, hw, hm⟩ := hrel
    have hw := hw.symm
    subst hw
    have hk0 : (0 : Int) ≤ (k : Int) := by omega
    by_cases hkn : k < n
    · have hki : (k : Int) < (n : Int) := by omega
      have hkl : k < l.length := by rw [← HN.out]; exact hkn
      obtain ⟨x, hx⟩ : ∃ x, x = l[k] := ⟨_, rfl⟩
      have hgx : ∀ h, (mkS l)[k]'h = x := by rw [hx]; exact sgetk l k hkl
      have hw1 : wrap64 ((k : Int) + 1) = (k : Int) + 1 := w64 _ (by omega)
      have hbl := blank_is x
      obtain ⟨d1, h1⟩ : ∃ d, ((x.toNat : Int) == 32) = d := ⟨_, rfl⟩
      obtain ⟨d2, h2⟩ : ∃ d, ((x.toNat : Int) == 9) = d := ⟨_, rfl⟩
      obtain ⟨d3, h3⟩ : ∃ d, ((x.toNat : Int) == 10) = d := ⟨_, rfl⟩
      rw [h1, h2, h3] at hbl
      have HNX := Lib.hid (show ((l.take (k + 1)).any fun c => !blank c) = (sb || !(d1 || d2 || d3)) by
        rw [List.take_succ_eq_append_getElem hkl, List.any_append, ← hm.out, ← hx]
        simp only [List.any_cons, List.any_nil, Bool.or_false, hbl])
      have e1 : ((x.toNat : Int) != 32) = !d1 := by rw [← h1]; rfl
      have e2 : ((x.toNat : Int) != 9) = !d2 := by rw [← h2]; rfl
      have e3 : ((x.toNat : Int) != 10) = !d3 := by rw [← h3]; rfl
      clear hx hbl hkl hm
      cases sb
      · cases d1
        · cases d2
          · cases d3
            all_goals (
              go_wp2
              refine ⟨⟨k + 1, _, by omega, rfl, by go_num, by first | rfl | trivial, Lib.hid HNX.out.symm⟩, by simp [intOf]; omega⟩)
          · go_wp2
            refine ⟨⟨k + 1, _, by omega, rfl, by go_num, by first | rfl | trivial, Lib.hid HNX.out.symm⟩, by simp [intOf]; omega⟩
        · go_wp2
          refine ⟨⟨k + 1, _, by omega, rfl, by go_num, by first | rfl | trivial, Lib.hid HNX.out.symm⟩, by simp [intOf]; omega⟩
      · go_wp2
        refine ⟨⟨k + 1, _, by omega, rfl, by go_num, by first | rfl | trivial, Lib.hid HNX.out.symm⟩, by simp [intOf]; omega⟩
    · have hkk : ¬ ((k : Int) < (n : Int)) := by omega
      have HRES := Lib.hid (show numI (tnum l) = .tuple #[.int .i64 z, .bool (ok && sb)] by
        have h := hm.out
        rw [List.take_of_length_le (by have := HN.out; omega), HAN.out] at h
        rw [h, HQ.out.1, HQ.out.2, HT.out]
        by_cases ht : trim l = []
        · rw [if_pos ht, decide_eq_true ht, HTV.out ht]; rfl
        · rw [if_neg ht, decide_eq_false ht]; simp [numI])
      clear hkn hm
      cases ok
      all_goals (
        go_wp2
        go_ret2
        rw [HRES.out]
        exact ⟨by first | rfl | simp, by first | rfl | trivial⟩)
set_option maxRecDepth 100000 in
theorem truth_v (b : Bool) (W : World) : Calls Tryd.prog 16 #[.bool b] W fun e W' => e = .returned (refV (val0 (t01 b))) ∧ Later W W' := by
  cases b
  all_goals (
    go_enter Tryd.func16, Tryd.ntmps16
    go_wp2
    refine bodyPost_ret (results_A rfl _ _ W.heap.size _ rfl (heap_alloc_new _ _) rfl) rfl ?_
    exact ⟨rfl, Later.alloc _ _⟩)
set_option maxHeartbeats 1600000 in
set_option maxRecDepth 100000 in
theorem turn_v (d : D) (hd : d.Ok) (W : World) : Calls Tryd.prog 18 #[refV d] W fun e W' => e = .returned (refV (turn d)) ∧ Later W W' := by
  obtain ⟨n, nt, op, path, asks⟩ := d
  obtain ⟨ho, ha, hb⟩ := hd
  simp only at ho ha hb
  unfold turn
  cases asks with
  | true =>
    simp only [if_true]
    unfold refV
    simp only
    clear ho ha hb
    go_enter Tryd.func18, Tryd.ntmps18
    go_wp2
    refine bodyPost_ret (results_A rfl _ _ (W.heap.size + 1) _ rfl (alloc2 _ _ _) rfl) rfl ?_
    exact ⟨rfl, (Later.alloc _ _).trans (Later.alloc _ _)⟩
  | false =>
    simp only [Bool.false_eq_true, if_false]
    unfold refV
    simp only
    rcases ho with rfl | rfl | rfl
    all_goals (
      go_enter Tryd.func18, Tryd.ntmps18
      go_wp2
      refine bodyPost_ret (results_A rfl _ _ (W.heap.size + 1) _ rfl (alloc2 _ _ _) rfl) rfl ?_
      exact ⟨rfl, (Later.alloc _ _).trans (Later.alloc _ _)⟩)
end Ar
end Go.Proofs.YtjidclefpmcgoaaDoor
