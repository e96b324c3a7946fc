/- Has, Shift. No premises. -/
import Derived.Test.YtmijploffdoenaaDoorNwh
import Derived.Lib.IndexAny
namespace Go.Proofs.YtmijploffdoenaaDoor
open Go.RowKit Go.Maps
namespace En
set_option maxRecDepth 100000 in
set_option maxHeartbeats 3200000 in
theorem has_v (va : Value) (e : E) (q : UInt8) (W : World) (h : RdE W va e) : Calls Tryd.prog 22 #[va, .int .u8 (q.toNat : Int)] W fun x W' => x = .returned (.bool (e.flags.contains q)) ∧ Later W W' := by
  obtain ⟨v0, A, n, c, rfl, hv, _, _, _⟩ := h
  obtain ⟨Av, cv, rfl, _⟩ := hv.le
  obtain ⟨n0, hn0⟩ : ∃ n0, n0 = e.vars.length := ⟨_, rfl⟩
  obtain ⟨st, hst⟩ : ∃ st : Int, st = (e.status : Int) := ⟨_, rfl⟩
  obtain ⟨f, hf⟩ : ∃ f, f = e.flags := ⟨_, rfl⟩
  have hix := fun w => Tryd.strings_IndexByte (mkS f) (q.toNat : Int) w
  have hq : ((q.toNat : Int)).toNat.toUInt8 = q := by rw [Int.toNat_natCast]; exact UInt8.ofNat_toNat
  rw [hq] at hix
  simp only [mkS_list] at hix
  rw [Lib.contains_iff_indexByte, ← hn0, ← hst, ← hf]
  obtain ⟨k, hk⟩ : ∃ k, k = Lib.indexByte f q := ⟨_, rfl⟩
  rw [← hk] at hix ⊢
  have HIX := Lib.hid hix
  have HLA := Lib.hid (Later.alloc W (.cells #[.slice Av n0 cv, .slice A n c, .int .i64 st, .string (mkS f)] 28))
  clear hix hq hk hn0 hst hf hv
  go_enter Tryd.func22, Tryd.ntmps22
  go_wp2_with (go_at_call 42; (with_reducible refine (HIX.out _).mono ?_); rintro x w' ⟨rfl, hw⟩; subst hw)
  go_ret
  exact ⟨rfl, HLA.out⟩
theorem slice_from (A : Option Addr) (n c j : Nat) (hj : j ≤ n) (w : World) : (Instr.slice 23 (.slice A n c) (some (.int .i64 (j : Int))) none none).run Tryd.prog w = .ok (.slice (if c = j then A else A.map (·.add j)) (n - j) (c - j)) w := by
  have u := Tryd.underlying23
  have z := Tryd.sizeOf9
  simp [Instr.slice, Instr.sliceBounds, Instr.sliceBound, run_underlying u, asIntOf, hj, z]
theorem results_two {fn : Func} {p q : Tmp} (h : fn.results = #[.cell p 28, .tmp q]) (tmps : Array Value) (w : World) (g : Nat) (cs : Array Value) (hp : tmps.getD p undef = .pointer (some ⟨g, 0, none⟩)) (hg : w.heap[g]? = some (.cells cs 28 (0, 0))) (hs : cs.size = 4) (v : Value) (hq : tmps.getD q undef = v) : (results fn tmps).run Tryd.prog w = .ok (.tuple #[.agg cs, v]) w := by
  have hp' : tmps[p]?.getD undef = .pointer (some ⟨g, 0, none⟩) := by simpa using hp
  have hq' : tmps[q]?.getD undef = v := by simpa using hq
  simp [results, h, hp', hq', asAddr, run_loadVar_row w g _ _ cs (0, 0) _ hg Tryd.underlying28 rfl (by rw [hs]; kernel_rfl)]
/-- What Shift tells. -/
def shiftE (e : E) (k : Int) : E := if 0 ≤ k ∧ k ≤ (e.args.length : Int) then { e with args := e.args.drop k.toNat } else e
def shiftB (e : E) (k : Int) : Bool := decide (0 ≤ k ∧ k ≤ (e.args.length : Int))
set_option maxRecDepth 100000 in
set_option maxHeartbeats 6400000 in
theorem shift_v (va : Value) (e : E) (k : Int) (W : World) (h : RdE W va e) (hn : e.vars.length ≤ 1000000) (ha : e.args.length ≤ 1000000) : Calls Tryd.prog 14 #[va, .int .i64 k] W fun x W' => (∃ v, x = .returned (.tuple #[v, .bool (shiftB e k)]) ∧ FrE W.heap.size W' v (shiftE e k)) ∧ Later W W' := by
  obtain ⟨v0, A, n, c, rfl, hv, hr, hc1, hc2⟩ := h
  have HANY := Lib.hid (show ∀ W' A' n' c' args', Later W W' → Rd W' W'.heap.size A' n' (args'.map fun x => .string (mkS x)) → n' ≤ c' → c' ≤ 9223372036854775807 → args'.length ≤ 1000000 → Calls Tryd.prog 32 #[.agg #[v0, .slice A' n' c', .int .i64 (e.status : Int), .string (mkS e.flags)]] W' fun x W'' => Told W' W'' x { e with args := args' } from fun W' A' n' c' args' hl hr' h1 h2 h3 => anew_v _ { e with args := args' } W' ⟨_, _, _, _, rfl, hv.later hl, hr', h1, h2⟩ hn h3)
  obtain ⟨Av, cv, rfl, _⟩ := hv.le
  obtain ⟨n0, hn0⟩ : ∃ n0, n0 = e.vars.length := ⟨_, rfl⟩
  obtain ⟨st, hst⟩ : ∃ st : Int, st = (e.status : Int) := ⟨_, rfl⟩
  obtain ⟨fl, hf⟩ : ∃ fl, fl = mkS e.flags := ⟨_, rfl⟩
  rw [← hn0, ← hst, ← hf] at HANY ⊢
  have hnl : e.args.length = n := hr.len_map
  have HNL := Lib.hid hnl
  have HR := Lib.hid hr
  have HB := Lib.hid (Bx.new W (.slice Av n0 cv) (.slice A n c) (.int .i64 st) (.string fl))
  have HA := Lib.hid ha
  have hn9 : n ≤ 1000000 := by omega
  have HC := Lib.hid (And.intro hc1 hc2)
  clear hv hr hn0 hst hf hn ha hnl
  by_cases h1 : 0 ≤ k
  · by_cases h2 : k ≤ (n : Int)
    · have HS := Lib.hid (show shiftB e k = true ∧ shiftE e k = { e with args := e.args.drop k.toNat } by
        unfold shiftB shiftE
        rw [HNL.out]
        exact ⟨decide_eq_true ⟨h1, h2⟩, if_pos ⟨h1, h2⟩⟩)
      obtain ⟨j, rfl⟩ : ∃ j : Nat, k = (j : Int) := ⟨k.toNat, by omega⟩
      have hj : j ≤ n := by omega
      have HJ := Lib.hid (show ((j : Int)).toNat = j by omega)
      obtain ⟨A', hA'⟩ : ∃ A', A' = (if c = j then A else A.map (·.add j)) := ⟨_, rfl⟩
      obtain ⟨n', hn'⟩ : ∃ n', n' = n - j := ⟨_, rfl⟩
      obtain ⟨c', hc'⟩ : ∃ c', c' = c - j := ⟨_, rfl⟩
      have hsl := fun w => slice_from A n c j hj w
      rw [← hA', ← hn', ← hc'] at hsl
      have HCUT := Lib.hid (HR.out.cut hj HC.out.1)
      rw [← hA', ← hn', ← List.map_drop] at HCUT
      have HCC := Lib.hid (show n' ≤ c' ∧ c' ≤ 9223372036854775807 by have := HC.out; omega)
      clear hA' hn' hc' hj
      have HB := Lib.hid (Bx.new W (.slice Av n0 cv) (.slice A' n' c') (.int .i64 st) (.string fl))
      have HAN := Lib.hid (HANY.out _ A' n' c' (e.args.drop j) (Bx.new W (.slice Av n0 cv) (.slice A' n' c') (.int .i64 st) (.string fl)).low ((HCUT.out.below (Bx.new W (.slice Av n0 cv) (.slice A' n' c') (.int .i64 st) (.string fl)).low).more (Bx.new W (.slice Av n0 cv) (.slice A' n' c') (.int .i64 st) (.string fl)).low.size) HCC.out.1 HCC.out.2 (by rw [List.length_drop]; have := HA.out; omega))
      rw [HJ.out] at HS
      go_enter Tryd.func14, Tryd.ntmps14
      go_wp2_with (go_at_call 32; (with_reducible refine (HAN.out).mono ?_); rintro x w4 ⟨⟨v, rfl, hf⟩, hl4⟩; (have HF := Lib.hid hf); obtain ⟨v0, A4, n4, c4, rfl, hv4, _⟩ := hf.rd; obtain ⟨A5, c5, rfl, _⟩ := hv4.le; (have HB4 := Lib.hid (HB.out.later hl4)); obtain ⟨r0, r1, r2, r3, r4⟩ := HB4.out.r; clear hf hl4 hv4)
      obtain ⟨w9, hw9, hl9, hr9, hf9⟩ := HB4.out.tell HF.out (by rw [World.size_alloc, World.size_alloc]; omega)
      rw [← hw9]
      refine bodyPost_ret (results_two rfl _ _ (W.heap.size + 1) _ rfl hr9 rfl _ rfl) rfl ?_
      obtain ⟨hs1, hs2⟩ := HS.out
      rw [hs1, hs2]
      exact ⟨⟨_, rfl, hf9.less (by rw [World.size_alloc, World.size_alloc]; omega)⟩, hl9⟩
    · have HS := Lib.hid (show shiftB e k = false ∧ shiftE e k = e by
        unfold shiftB shiftE
        rw [HNL.out]
        exact ⟨decide_eq_false (fun h => h2 h.2), if_neg (fun h => h2 h.2)⟩)
      have HB := Lib.hid (Bx.new W (.slice Av n0 cv) (.slice A n c) (.int .i64 st) (.string fl))
      have HAN := Lib.hid (HANY.out _ A n c (e.args) (Bx.new W (.slice Av n0 cv) (.slice A n c) (.int .i64 st) (.string fl)).low ((HR.out.below (Bx.new W (.slice Av n0 cv) (.slice A n c) (.int .i64 st) (.string fl)).low).more (Bx.new W (.slice Av n0 cv) (.slice A n c) (.int .i64 st) (.string fl)).low.size) HC.out.1 HC.out.2 (HA.out))
      go_enter Tryd.func14, Tryd.ntmps14
      go_wp2_with (go_at_call 32; (with_reducible refine (HAN.out).mono ?_); rintro x w4 ⟨⟨v, rfl, hf⟩, hl4⟩; (have HF := Lib.hid hf); obtain ⟨v0, A4, n4, c4, rfl, hv4, _⟩ := hf.rd; obtain ⟨A5, c5, rfl, _⟩ := hv4.le; (have HB4 := Lib.hid (HB.out.later hl4)); obtain ⟨r0, r1, r2, r3, r4⟩ := HB4.out.r; clear hf hl4 hv4)
      obtain ⟨w9, hw9, hl9, hr9, hf9⟩ := HB4.out.tell HF.out (by rw [World.size_alloc, World.size_alloc]; omega)
      rw [← hw9]
      refine bodyPost_ret (results_two rfl _ _ (W.heap.size + 1) _ rfl hr9 rfl _ rfl) rfl ?_
      obtain ⟨hs1, hs2⟩ := HS.out
      rw [hs1, hs2]
      exact ⟨⟨_, rfl, hf9.less (by rw [World.size_alloc, World.size_alloc]; omega)⟩, hl9⟩
  · have HS := Lib.hid (show shiftB e k = false ∧ shiftE e k = e by
      unfold shiftB shiftE
      rw [HNL.out]
      exact ⟨decide_eq_false (fun h => h1 h.1), if_neg (fun h => h1 h.1)⟩)
    have HB := Lib.hid (Bx.new W (.slice Av n0 cv) (.slice A n c) (.int .i64 st) (.string fl))
    have HAN := Lib.hid (HANY.out _ A n c (e.args) (Bx.new W (.slice Av n0 cv) (.slice A n c) (.int .i64 st) (.string fl)).low ((HR.out.below (Bx.new W (.slice Av n0 cv) (.slice A n c) (.int .i64 st) (.string fl)).low).more (Bx.new W (.slice Av n0 cv) (.slice A n c) (.int .i64 st) (.string fl)).low.size) HC.out.1 HC.out.2 (HA.out))
    go_enter Tryd.func14, Tryd.ntmps14
    go_wp2_with (go_at_call 32; (with_reducible refine (HAN.out).mono ?_); rintro x w4 ⟨⟨v, rfl, hf⟩, hl4⟩; (have HF := Lib.hid hf); obtain ⟨v0, A4, n4, c4, rfl, hv4, _⟩ := hf.rd; obtain ⟨A5, c5, rfl, _⟩ := hv4.le; (have HB4 := Lib.hid (HB.out.later hl4)); obtain ⟨r0, r1, r2, r3, r4⟩ := HB4.out.r; clear hf hl4 hv4)
    obtain ⟨w9, hw9, hl9, hr9, hf9⟩ := HB4.out.tell HF.out (by rw [World.size_alloc, World.size_alloc]; omega)
    rw [← hw9]
    refine bodyPost_ret (results_two rfl _ _ (W.heap.size + 1) _ rfl hr9 rfl _ rfl) rfl ?_
    obtain ⟨hs1, hs2⟩ := HS.out
    rw [hs1, hs2]
    exact ⟨⟨_, rfl, hf9.less (by rw [World.size_alloc, World.size_alloc]; omega)⟩, hl9⟩
end En
end Go.Proofs.YtmijploffdoenaaDoor
