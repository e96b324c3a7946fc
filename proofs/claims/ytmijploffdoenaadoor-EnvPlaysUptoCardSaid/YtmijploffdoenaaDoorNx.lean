/- THE DOCUMENT'S Unset. No premises. -/
import Derived.Test.YtmijploffdoenaaDoorEd
namespace Go.Proofs.YtmijploffdoenaaDoor
open Go.RowKit Go.Maps
namespace En
theorem info_V : (Tryd.prog.info? 67).map (fun i => (i.zero, i.size, i.bytes)) = some (some (.agg #[.string ⟨#[]⟩, .string ⟨#[]⟩]), 2, 32) := by kernel_rfl
theorem V_load {w : World} {g o : Nat} {t m : B} (c0 : w.cell? ⟨g, o, none⟩ = some (.string (mkS t))) (c1 : w.cell? ⟨g, o + 1, none⟩ = some (.string (mkS m))) : (Instr.loadAt 67 (.pointer (some ⟨g, o, none⟩))).run Tryd.prog w = .ok (.agg #[.string (mkS t), .string (mkS m)]) w := by
  refine run_loadAt_mid (P := Tryd.prog) w g o 67 [.string (mkS t), .string (mkS m)] _ (fun j v hv => ?_) Tryd.underlying67 rfl (by kernel_rfl)
  have hj : j < 2 := (List.getElem?_eq_some_iff.1 hv).1
  match j, hj with
  | 0, _ => cases hv; exact c0
  | 1, _ => cases hv; exact c1
theorem results_E {fn : Func} {p : Tmp} (h : fn.results = #[.cell p 31]) (tmps : Array Value) (w : World) (g : Nat) (cs : Array Value) (fr : Nat × Nat) (hp : tmps.getD p undef = .pointer (some ⟨g, 0, none⟩)) (hg : w.heap[g]? = some (.cells cs 31 fr)) (hs : cs.size = 4) : (results fn tmps).run Tryd.prog w = .ok (.agg cs) w :=
  results_cell_row h tmps w g _ cs fr _ hp hg Tryd.underlying31 rfl (by rw [hs]; kernel_rfl)
theorem own_ge {w : World} {base n size : Nat} {e : TypeId} {v : Value} {xs : List Value} (h : w.ownsRow base e size v n xs) {k : Nat} (hk : v.ownBlock = some k) : base ≤ k ∧ k < w.heap.size := h.lt k hk
/-- A row of pairs under way, beside two blocks of the call's own. -/
structure Ac (W wr : World) (b r : Array Value) (v : Value) (l : Vs) : Prop where
  low : Later W wr
  bx : wr.heap[W.heap.size]? = some (.cells b 31 (0, 0))
  rs : wr.heap[W.heap.size + 1]? = some (.cells r 31 (0, 0))
  own : wr.ownsRow (W.heap.size + 2) 67 2 v l.length (prs l)
theorem Ac.push {W wr wr' : World} {b r : Array Value} {v v' : Value} {l m : Vs} (h : Ac W wr b r v l) (hg : GrewK wr wr' (W.heap.size + 2) 67 2 v v' (l.length + m.length) (prs l ++ prs m)) : Ac W wr' b r v' (l ++ m) := by
  have kp : ∀ {k : Nat} {o : Obj}, k < W.heap.size + 2 → wr.heap[k]? = some o → wr'.heap[k]? = some o := fun hk ho => (hg.grown.block _ (lt_of_block ho) (fun e => by have := (own_ge h.own e.symm).1; omega)).trans ho
  refine ⟨⟨hg.grown.os.trans h.low.os, hg.grown.tape.trans h.low.tape, hg.grown.output.trans h.low.output, Nat.le_trans h.low.size hg.grown.size, fun k hk => ?_⟩, kp (by omega) h.bx, kp (by omega) h.rs, ?_⟩
  · refine (hg.grown.block k (Nat.lt_of_lt_of_le hk h.low.size) fun e => ?_).trans (h.low.block k hk)
    have := (own_ge h.own e.symm).1; omega
  · rw [prs_app, List.length_append]
    exact hg.own
/-- What is told at the end: the box as it is now. -/
theorem Ac.tell {W wr : World} {r : Array Value} {v a0 a1 a2 a3 : Value} {l : Vs} (h : Ac W wr #[a0, a1, a2, a3] r v l) (hr : r.size = 4) : ∃ wr', wr' = ((((wr.setCell ⟨W.heap.size, 0, none⟩ v).setCell ⟨W.heap.size + 1, 0, none⟩ v).setCell ⟨W.heap.size + 1, 1, none⟩ a1).setCell ⟨W.heap.size + 1, 2, none⟩ a2).setCell ⟨W.heap.size + 1, 3, none⟩ a3 ∧ Later W wr' ∧ wr'.heap[W.heap.size + 1]? = some (.cells #[v, a1, a2, a3] 31 (0, 0)) ∧ wr'.ownsRow (W.heap.size + 2) 67 2 v l.length (prs l) := by
  refine ⟨_, rfl, ?_, ?_, ?_⟩
  · exact later_of_new (later_of_new (later_of_new (later_of_new (later_of_new h.low (set_only _ _ _ _) (Nat.le_refl _)) (set_only _ _ _ _) (by omega)) (set_only _ _ _ _) (by omega)) (set_only _ _ _ _) (by omega)) (set_only _ _ _ _) (by omega)
  · have h1 := grown_cells (set_only wr W.heap.size 0 v) h.rs (by omega)
    have h2 := set_row (set_row (set_row (set_row h1 0 v) 1 a1) 2 a2) 3 a3
    obtain ⟨r⟩ := r
    match r, hr with
    | [x0, x1, x2, x3], _ => exact h2
  · have hn : v.ownBlock ≠ some (W.heap.size + 1) := fun e => by have := (own_ge h.own e).1; omega
    have hn0 : v.ownBlock ≠ some W.heap.size := fun e => by have := (own_ge h.own e).1; omega
    exact ((((h.own.kept (set_only wr W.heap.size 0 v) (.inr hn0)).kept (set_only _ (W.heap.size + 1) 0 v) (.inr hn)).kept (set_only _ (W.heap.size + 1) 1 a1) (.inr hn)).kept (set_only _ (W.heap.size + 1) 2 a2) (.inr hn)).kept (set_only _ (W.heap.size + 1) 3 a3) (.inr hn)
set_option maxRecDepth 100000 in
set_option maxHeartbeats 3200000 in
theorem runset_x (va : Value) (vs : Vs) (A : Option Addr) (n c : Nat) (st : Int) (fl : ByteArray) (s : B) (W : World) (hv : RdP W W.heap.size va vs) (hn : vs.length ≤ 1000000) : Calls Tryd.prog 11 #[.agg #[va, .slice A n c, .int .i64 st, .string fl], .string (mkS s)] W fun x W' => (∃ vb, x = .returned (.agg #[vb, .slice A n c, .int .i64 st, .string fl]) ∧ RdP W' W'.heap.size vb (unset vs s)) ∧ Later W W' := by
  obtain ⟨Av, cv, rfl, hcv, hcw, _⟩ := hv.le
  have HV := Lib.hid hv
  have HZL := Lib.hid hn
  have hlen : vs.length ≤ 9223372036854775807 := by omega
  obtain ⟨i0, hif, hz0, hz1, hz2⟩ := info_parts info_V
  have hac : Ac W ((W.alloc (.cells #[.slice Av vs.length cv, .slice A n c, .int .i64 st, .string fl] 31)).alloc (.cells #[.slice none 0 0, .slice none 0 0, .int .i64 0, .string ⟨#[]⟩] 31)) #[.slice Av vs.length cv, .slice A n c, .int .i64 st, .string fl] #[.slice none 0 0, .slice none 0 0, .int .i64 0, .string ⟨#[]⟩] (.slice none 0 0) (unset (vs.take 0) s) := by
    have l1 := Later.alloc W (.cells #[.slice Av vs.length cv, .slice A n c, .int .i64 st, .string fl] 31)
    have l2 := Later.alloc (W.alloc (.cells #[.slice Av vs.length cv, .slice A n c, .int .i64 st, .string fl] 31)) (.cells #[.slice none 0 0, .slice none 0 0, .int .i64 0, .string ⟨#[]⟩] 31)
    have n2 := heap_alloc_new (W.alloc (.cells #[.slice Av vs.length cv, .slice A n c, .int .i64 st, .string fl] 31)) (.cells #[.slice none 0 0, .slice none 0 0, .int .i64 0, .string ⟨#[]⟩] 31)
    rw [World.size_alloc] at n2
    exact ⟨l1.trans l2, later_cells l2 (heap_alloc_new W _), n2, World.ownsRow_nil _ _ _ _⟩
  have HAC := Lib.hid hac
  clear hv hcv hcw hac hn
  go_enter Tryd.func11, Tryd.ntmps11
  go_wp2_with fail
  go_loopw [5, 6] (fun s5 s6 wr => ∃ i : Nat, s6 = .int .i64 (i : Int) ∧ i ≤ vs.length ∧ Ac W wr #[.slice Av vs.length cv, .slice A n c, .int .i64 st, .string fl] #[.slice none 0 0, .slice none 0 0, .int .i64 0, .string ⟨#[]⟩] s5 (unset (vs.take i) s)) (fun _ i _ => vs.length - (intOf i).toNat)
  case atStart => exact ⟨0, rfl, Nat.zero_le _, HAC.out⟩
  case round =>
    obtain ⟨i, rfl, hi, hac⟩ := hrel
    obtain ⟨out, hout⟩ : ∃ out, out = unset (vs.take i) s := ⟨_, rfl⟩
    rw [← hout] at hac
    obtain ⟨A0, c0, hv0, _⟩ := own_any hac.own
    subst hv0
    have HA := Lib.hid hac
    have b0 : wr.cell? ⟨W.heap.size, 0, none⟩ = some (.slice Av vs.length cv) := (cell_row hac.bx 0).1
    have hlw := hac.low
    have hi0 : (0 : Int) ≤ (i : Int) := by omega
    have HOL := Lib.hid (show out.length ≤ i by
      rw [hout]
      unfold unset
      have h1 := List.length_filter_le (fun p : B × B => !decide (p.1 = s)) (vs.take i)
      have h2 : (vs.take i).length ≤ i := by rw [List.length_take]; omega
      omega)
    by_cases hlt : i < vs.length
    · have hi1 : (i : Int) < (vs.length : Int) := by omega
      have HUT := Lib.hid (unset_take (n := s) hlt)
      rw [← hout] at HUT
      obtain ⟨g, o, c', e1, hg, hcc⟩ := HV.out.at_ (by omega)
      injection e1 with e1 _ e2
      subst e1 e2
      obtain ⟨x, hx⟩ : ∃ x, x = vs[i] := ⟨_, rfl⟩
      have p1 := (hlw.cell (p := ⟨g, o + i * 2, none⟩) hg).trans (hcc i hlt).1
      have p2 := (hlw.cell (p := ⟨g, o + i * 2 + 1, none⟩) hg).trans (hcc i hlt).2
      rw [← hx] at p1 p2 HUT
      have HLD := Lib.hid (V_load p1 p2)
      have HX := Lib.hid hx
      have HGB := Lib.hid hg
      have htl : ∀ l : B, (mkS l).toList = l := toList_mkS
      clear hcc hlw hx hac hout hg
      by_cases hxs : x.1 = s
      · have f1 : (x.1 == s) = true := by simp [hxs]
        have f2 : ¬ x.1 ≠ s := fun h => h hxs
        rw [if_pos hxs] at HUT
        clear hxs
        go_wp2
        go_roundw
        case rel => exact ⟨i + 1, by go_num, by omega, by rw [HUT.out, List.append_nil]; exact HA.out⟩
        case measure => simp [intOf]; omega
      · have f1 : (x.1 == s) = false := by simpa using hxs
        rw [if_neg hxs] at HUT
        have hsz : W.heap.size + 2 ≤ wr.heap.size := lt_of_block HA.out.rs
        have HSZ := Lib.hid hsz
        clear hxs hsz
        go_wp2_with (first
          | (refine wpList_loadRun rfl 67 (.tmp 26) rfl _ _ rfl HLD.out ?_)
          | (at_builtin; refine wpList_appK wr #[.string (mkS x.1), .string (mkS x.2)] 2 (by omega) rfl (by intro u hu; simp at hu; rcases hu with rfl | rfl <;> rfl) rfl (.tmp 22) (.tmp 28) 29 67 rfl i0 _ 32 Tryd.underlying29 hif hz0 hz1 hz2 rfl (W.heap.size + 2) (.slice A0 out.length c0) out.length (prs out) rfl HA.out.own _ rfl rfl (by have := HOL.out; have := HZL.out; omega) (by have := HOL.out; have := HZL.out; omega) HSZ.out ?_; intro v3 w3 hg3; obtain ⟨A9, c9, hv9, _⟩ := own_any hg3.own; subst hv9; (have HP := Lib.hid (HA.out.push (m := [x]) hg3)); clear hg3))
        go_roundw
        case rel => exact ⟨i + 1, by go_num, by omega, by rw [HUT.out]; exact HP.out⟩
        case measure => simp [intOf]; omega
    · have hout2 : out = unset vs s := by rw [hout, List.take_of_length_le (by omega)]
      have HO := Lib.hid hout2
      have b1 : wr.cell? ⟨W.heap.size, 1, none⟩ = some (.slice A n c) := (cell_row HA.out.bx 1).1
      have b2 : wr.cell? ⟨W.heap.size, 2, none⟩ = some (.int .i64 st) := (cell_row HA.out.bx 2).1
      have b3 : wr.cell? ⟨W.heap.size, 3, none⟩ = some (.string fl) := (cell_row HA.out.bx 3).1
      have z0 := fun i => (cell_row HA.out.bx i).2
      have r0 : wr.cell? ⟨W.heap.size + 1, 0, none⟩ = some (.slice none 0 0) := (cell_row HA.out.rs 0).1
      have r1 : wr.cell? ⟨W.heap.size + 1, 1, none⟩ = some (.slice none 0 0) := (cell_row HA.out.rs 1).1
      have r2 : wr.cell? ⟨W.heap.size + 1, 2, none⟩ = some (.int .i64 0) := (cell_row HA.out.rs 2).1
      have r3 : wr.cell? ⟨W.heap.size + 1, 3, none⟩ = some (.string ⟨#[]⟩) := (cell_row HA.out.rs 3).1
      have z1 := fun i => (cell_row HA.out.rs i).2
      clear hac hout hout2 hlw
      go_wp2
      obtain ⟨w9, hw9, hl9, hr9, ho9⟩ := HA.out.tell rfl
      rw [← hw9]
      refine bodyPost_ret (results_E rfl _ _ (W.heap.size + 1) _ (0, 0) rfl hr9 rfl) rfl ?_
      refine ⟨⟨_, rfl, ?_⟩, hl9⟩
      rw [← HO.out]
      exact RdP.of_own ho9
theorem runset_v (v : Value) (e : E) (s : B) (W : World) (h : RdE W v e) (hn : e.vars.length ≤ 1000000) : Calls Tryd.prog 11 #[v, .string (mkS s)] W fun x W' => (∃ v', x = .returned v' ∧ RdE W' v' (unsetE e s)) ∧ Later W W' := by
  obtain ⟨va, A, n, c, rfl, hv, ha, hc1, hc2⟩ := h
  refine (runset_x va e.vars A n c _ _ s W hv hn).mono ?_
  rintro x W' ⟨⟨vb, rfl, hb⟩, hl⟩
  exact ⟨⟨_, rfl, vb, A, n, c, rfl, hb, (ha.below hl).more hl.size, hc1, hc2⟩, hl⟩
end En
end Go.Proofs.YtmijploffdoenaaDoor
