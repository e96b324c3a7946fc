/- The law's of: an Env as the document has it. No premises. -/
import Derived.Test.YtmijploffdoenaaDoorEg
namespace Go.Proofs.YtmijploffdoenaaDoor
open Go.RowKit Go.Maps
namespace En
/-- append(v, x): as a run. -/
theorem run_appK {P : Program} (w : World) (cs : Array Value) (k : Nat) (hk : 0 < k) (hcs : cs.size = k) (h1 : ∀ u ∈ cs.toList, u.oneCell' = true) (t ty e : TypeId) (i0 : TypeInfo) (z : Value) (bytes : Nat) (ht : P.underlying t = some (.slice e)) (hi : P.info? e = some i0) (hz : i0.zero = some z)
    (hsize : i0.size = k) (hby : i0.bytes = bytes) (hzs : z.cells.size = k) (base : Nat) (v : Value) (n : Nat) (xs : List Value) (hown : w.ownsRow base e k v n xs) (hn : (n + 1) * bytes ≤ 140737488355328) (hn2 : n + 1 ≤ 140737488355328) (hbase : base ≤ w.heap.size) :
    ∃ v' w', (Builtin.append_ #[t, t] ty #[v, .slice (some ⟨w.heap.size, 0, none⟩) 1 1]).run P (w.alloc (.cells cs e)) = .ok v' w' ∧ GrewK w w' base e k v v' (n + 1) (xs ++ cs.toList) := by
  have hla := Later.alloc w (.cells cs e)
  obtain ⟨v', w', hrun, h2, h3, _, h5⟩ := run_append_own_at (P := P) (w.alloc (.cells cs e)) base t ty e i0 z k bytes ht hi hz hsize hby hzs hk v n xs (hown.alloc _) ⟨w.heap.size, 0, none⟩ 1 1 cs.toList (by simpa using hcs) (fun j u hj => by
    rw [add_lit0, cell_of_row _ _ j cs e (0, 0) (heap_alloc_new w _)]
    simpa using hj) h1 (by unfold maxLen; omega) hn (Nat.le_trans hbase hla.size)
  refine ⟨v', w', hrun, h2, ?_, ?_⟩
  · exact ⟨h3.os.trans hla.os, h3.tape.trans hla.tape, h3.output.trans hla.output, Nat.le_trans hla.size h3.size, fun k hk hne => (h3.block k (Nat.lt_of_lt_of_le hk hla.size) hne).trans (hla.block k hk)⟩
  · rcases h5 with h5 | h5
    · exact .inl h5
    · exact .inr ⟨_, h5, hla.size⟩
/-- What of has made so far. -/
structure Ao (W wr : World) (b0 a1 a2 a3 : Value) (v : Value) (l : Vs) : Prop where
  low : Later W wr
  bx : wr.heap[W.heap.size]? = some (.cells #[b0, a1, a2, a3] 28 (0, 0))
  rs : wr.heap[W.heap.size + 1]? = some (.cells #[.slice none 0 0, .slice none 0 0, .int .i64 0, .string ⟨#[]⟩] 31 (0, 0))
  wb : wr.heap[W.heap.size + 2]? = some (.cells #[v, a1, a2, a3] 31 (0, 0))
  own : wr.ownsRow (W.heap.size + 3) 67 2 v l.length (prs l)
theorem Ao.later {W wr wr' : World} {b0 a1 a2 a3 v : Value} {l : Vs} (h : Ao W wr b0 a1 a2 a3 v l) (hl : Later wr wr') : Ao W wr' b0 a1 a2 a3 v l :=
  ⟨h.low.trans hl, later_cells hl h.bx, later_cells hl h.rs, later_cells hl h.wb, h.own.kept (grown_of_later hl none) (by cases v.ownBlock <;> simp)⟩
theorem Ao.push {W wr wr' : World} {b0 a1 a2 a3 v v' : Value} {l m : Vs} (h : Ao W wr b0 a1 a2 a3 v l) (hg : GrewK wr wr' (W.heap.size + 3) 67 2 v v' (l.length + m.length) (prs l ++ prs m)) :
    wr'.heap[W.heap.size + 2]? = some (.cells #[v, a1, a2, a3] 31 (0, 0)) ∧ Ao W (wr'.setCell ⟨W.heap.size + 2, 0, none⟩ v') b0 a1 a2 a3 v' (l ++ m) := by
  have kp : ∀ {k : Nat} {o : Obj}, k < W.heap.size + 3 → wr.heap[k]? = some o → wr'.heap[k]? = some o := fun hk ho => (hg.grown.block _ (lt_of_block ho) (fun e => by have := (own_ge h.own e.symm).1; omega)).trans ho
  have hw := kp (by omega) h.wb
  have hset := set_only wr' (W.heap.size + 2) 0 v'
  have hlow : Later W wr' := ⟨hg.grown.os.trans h.low.os, hg.grown.tape.trans h.low.tape, hg.grown.output.trans h.low.output, Nat.le_trans h.low.size hg.grown.size, fun k hk => (hg.grown.block k (Nat.lt_of_lt_of_le hk h.low.size) fun e => by have := (own_ge h.own e.symm).1; omega).trans (h.low.block k hk)⟩
  refine ⟨hw, later_of_new hlow hset (by omega), grown_cells hset (kp (by omega) h.bx) (by omega), grown_cells hset (kp (by omega) h.rs) (by omega), set_row hw 0 v', ?_⟩
  rw [prs_app, List.length_append]
  refine hg.own.kept hset (.inr fun e => ?_)
  have := (own_ge hg.own e).1; omega
theorem Ao.tell {W wr : World} {b0 a1 a2 a3 v : Value} {l : Vs} (h : Ao W wr b0 a1 a2 a3 v l) : ∃ wr', wr' = (((wr.setCell ⟨W.heap.size + 1, 0, none⟩ v).setCell ⟨W.heap.size + 1, 1, none⟩ a1).setCell ⟨W.heap.size + 1, 2, none⟩ a2).setCell ⟨W.heap.size + 1, 3, none⟩ a3 ∧ Later W wr' ∧ wr'.heap[W.heap.size + 1]? = some (.cells #[v, a1, a2, a3] 31 (0, 0)) ∧ RdP wr' wr'.heap.size v l := by
  have g1 := set_only wr (W.heap.size + 1) 0 v
  have g2 := set_only (wr.setCell ⟨W.heap.size + 1, 0, none⟩ v) (W.heap.size + 1) 1 a1
  have g3 := set_only ((wr.setCell ⟨W.heap.size + 1, 0, none⟩ v).setCell ⟨W.heap.size + 1, 1, none⟩ a1) (W.heap.size + 1) 2 a2
  have g4 := set_only (((wr.setCell ⟨W.heap.size + 1, 0, none⟩ v).setCell ⟨W.heap.size + 1, 1, none⟩ a1).setCell ⟨W.heap.size + 1, 2, none⟩ a2) (W.heap.size + 1) 3 a3
  have hn : v.ownBlock ≠ some (W.heap.size + 1) := fun e => by have := (own_ge h.own e).1; omega
  refine ⟨_, rfl, ?_, ?_, ?_⟩
  · exact later_of_new (later_of_new (later_of_new (later_of_new h.low g1 (by omega)) g2 (by omega)) g3 (by omega)) g4 (by omega)
  · exact set_row (set_row (set_row (set_row h.rs 0 v) 1 a1) 2 a2) 3 a3
  · exact RdP.of_own ((((h.own.kept g1 (.inr hn)).kept g2 (.inr hn)).kept g3 (.inr hn)).kept g4 (.inr hn))
set_option maxRecDepth 100000 in
set_option maxHeartbeats 12800000 in
theorem of_v (va : Value) (e : E) (W : World) (h : RdE W va e) (hn : e.vars.length ≤ 1000000) : Calls Tryd.prog 16 #[va] W fun x W' => (∃ v, x = .returned v ∧ RdE W' v e) ∧ Later W W' := by
  obtain ⟨v0, A, n, c, rfl, hv, hr, hc1, hc2⟩ := h
  obtain ⟨Av, cv, rfl, hcv, hcw, _⟩ := hv.le
  have HV := Lib.hid hv
  have HRR := Lib.hid (And.intro hr (And.intro hc1 hc2))
  have HNN := Lib.hid hn
  obtain ⟨n0, hn0⟩ : ∃ n0, n0 = e.vars.length := ⟨_, rfl⟩
  obtain ⟨st, hst⟩ : ∃ st : Int, st = (e.status : Int) := ⟨_, rfl⟩
  obtain ⟨fl, hf⟩ : ∃ fl, fl = mkS e.flags := ⟨_, rfl⟩
  have HN := Lib.hid hn0
  have HSF := Lib.hid (And.intro hst hf)
  rw [← hn0] at HV
  rw [← hn0, ← hst, ← hf]
  rw [← hn0] at hn
  have HL1 := Lib.hid (show Later W ((W.alloc (.cells #[.slice Av n0 cv, .slice A n c, .int .i64 st, .string fl] 28)).alloc (.cells #[.slice none 0 0, .slice none 0 0, .int .i64 0, .string ⟨#[]⟩] 31)) from (Later.alloc _ _).trans (Later.alloc _ _))
  have hao : Ao W (((W.alloc (.cells #[.slice Av n0 cv, .slice A n c, .int .i64 st, .string fl] 28)).alloc (.cells #[.slice none 0 0, .slice none 0 0, .int .i64 0, .string ⟨#[]⟩] 31)).alloc (.cells #[.slice none 0 0, .slice A n c, .int .i64 st, .string fl] 31)) (.slice Av n0 cv) (.slice A n c) (.int .i64 st) (.string fl) (.slice none 0 0) [] := by
    have h1 := heap_alloc_new W (.cells #[.slice Av n0 cv, .slice A n c, .int .i64 st, .string fl] 28)
    have h2 := heap_alloc_new (W.alloc (.cells #[.slice Av n0 cv, .slice A n c, .int .i64 st, .string fl] 28)) (.cells #[.slice none 0 0, .slice none 0 0, .int .i64 0, .string ⟨#[]⟩] 31)
    have h3 := heap_alloc_new ((W.alloc (.cells #[.slice Av n0 cv, .slice A n c, .int .i64 st, .string fl] 28)).alloc (.cells #[.slice none 0 0, .slice none 0 0, .int .i64 0, .string ⟨#[]⟩] 31)) (.cells #[.slice none 0 0, .slice A n c, .int .i64 st, .string fl] 31)
    rw [World.size_alloc] at h2
    rw [World.size_alloc, World.size_alloc] at h3
    exact ⟨HL1.out.trans (Later.alloc _ _), later_cells (Later.alloc _ _) (later_cells (Later.alloc _ _) h1), later_cells (Later.alloc _ _) h2, h3, World.ownsRow_nil _ _ _ _⟩
  have HAO := Lib.hid hao
  obtain ⟨i0, hif, hz0, hz1, hz2⟩ := info_parts info_V
  clear hv hr hc1 hc2 hcv hcw hn0 hst hf hao
  go_enter Tryd.func16, Tryd.ntmps16
  go_wp2_with fail
  go_loopw [4] (fun s4 wr => ∃ (i : Nat) (v : Value), s4 = .int .i64 (i : Int) ∧ i ≤ n0 ∧ Ao W wr (.slice Av n0 cv) (.slice A n c) (.int .i64 st) (.string fl) v (e.vars.take i)) (fun i _ => n0 - (intOf i).toNat)
  case atStart => exact ⟨0, _, rfl, Nat.zero_le _, by rw [List.take_zero]; exact HAO.out⟩
  case round =>
    obtain ⟨i, v, rfl, hi, hao⟩ := hrel
    have htl : (e.vars.take i).length = i := by rw [List.length_take, ← HN.out]; omega
    have hown := hao.own
    rw [htl] at hown
    obtain ⟨Ar, cr, rfl, _⟩ := own_any hown
    have HAI := Lib.hid hao
    have HOW := Lib.hid hown
    have HTL := Lib.hid htl
    have hi0 : (0 : Int) ≤ (i : Int) := by omega
    clear hao hown htl
    have hb0 : wr.cell? ⟨W.heap.size, 0, none⟩ = some (.slice Av n0 cv) := (cell_row HAI.out.bx 0).1
    by_cases hlt : i < n0
    · have hi1 : (i : Int) < (n0 : Int) := by omega
      obtain ⟨g, o, c9, e1, hg, hcc⟩ := HV.out.at_ (by rw [← HN.out]; omega)
      injection e1 with e1 en e2
      subst e1 e2
      clear en
      have hlt2 : i < e.vars.length := by rw [← HN.out]; exact hlt
      obtain ⟨x, hx⟩ : ∃ x, x = e.vars[i] := ⟨_, rfl⟩
      have p1 := (HAI.out.low.cell (p := ⟨g, o + i * 2, none⟩) hg).trans (hcc i hlt2).1
      have p2 := (HAI.out.low.cell (p := ⟨g, o + i * 2 + 1, none⟩) hg).trans (hcc i hlt2).2
      rw [← hx] at p1 p2
      have HST := Lib.hid (show e.vars.take (i + 1) = e.vars.take i ++ [x] by rw [hx, List.take_succ_eq_append_getElem hlt2])
      obtain ⟨x1, x2⟩ := x
      dsimp only at p1 p2
      have hao := HAI.out
      have HBS := Lib.hid (show W.heap.size + 3 ≤ wr.drew.heap.size from lt_of_block (hao.later (Later.drew wr)).wb)
      have HAP := Lib.hid (run_appK (P := Tryd.prog) wr.drew #[.string (mkS x1), .string (mkS x2)] 2 (by omega) rfl (by intro u hu; simp at hu; rcases hu with rfl | rfl <;> rfl) 29 29 67 i0 _ 32 Tryd.underlying29 hif hz0 hz1 hz2 rfl (W.heap.size + 3) (.slice Ar i cr) i (prs (e.vars.take i)) (own_below HOW.out (Later.drew wr)) (by omega) (by omega) HBS.out)
      obtain ⟨C0, hC0⟩ : ∃ C0 : Nat → Value → World → Prop, C0 = fun j u w => (j = 0 ∧ w = wr.drew) ∨ (j = 1 ∧ u = .slice (some ⟨wr.drew.heap.size, 0, none⟩) 1 1 ∧ w = wr.drew.alloc (.cells #[.string (mkS x1), .string (mkS x2)] 67)) ∨ (j = 2 ∧ GrewK wr.drew w (W.heap.size + 3) 67 2 (.slice Ar i cr) u (i + 1) (prs (e.vars.take i) ++ prs [(x1, x2)])) ∨ (j = 3 ∧ ∃ v', Ao W w (.slice (some ⟨g, o, none⟩) n0 cv) (.slice A n c) (.int .i64 st) (.string fl) v' (e.vars.take (i + 1))) := ⟨_, rfl⟩
      have HLT := Lib.hid (show ∀ j u w, C0 j u w → j ≤ 1 → Later wr w from fun j u w hc hj => by
        rw [hC0] at hc
        rcases hc with ⟨_, rfl⟩ | ⟨_, _, rfl⟩ | ⟨e, _⟩ | ⟨e, _⟩
        · exact Later.drew wr
        · exact (Later.drew wr).trans (Later.alloc _ _)
        · omega
        · omega)
      have HRV := Lib.hid (show ∀ j u w, C0 j u w → j ≤ 1 → w.cell? ⟨W.heap.size + 2, 0, none⟩ = some (.slice Ar i cr) from fun j u w hc hj => (cell_row (hao.later (HLT.out j u w hc hj)).wb 0).1)
      have HOLD := Lib.hid (show ∀ j u w, C0 j u w → Later W w ∧ w.heap[W.heap.size]? = some (.cells #[.slice (some ⟨g, o, none⟩) n0 cv, .slice A n c, .int .i64 st, .string fl] 28 (0, 0)) from fun j u w hc => by
        rw [hC0] at hc
        rcases hc with ⟨_, rfl⟩ | ⟨_, _, rfl⟩ | ⟨_, h⟩ | ⟨_, v', h⟩
        · exact ⟨(hao.later (Later.drew wr)).low, (hao.later (Later.drew wr)).bx⟩
        · exact ⟨(hao.later ((Later.drew wr).trans (Later.alloc _ _))).low, (hao.later ((Later.drew wr).trans (Later.alloc _ _))).bx⟩
        · have hd := hao.later (Later.drew wr)
          have hne : ∀ k, k < W.heap.size + 3 → some k ≠ (Value.slice Ar i cr).ownBlock := fun k hk e => by have := (own_ge hd.own e.symm).1; omega
          exact ⟨⟨h.grown.os.trans hd.low.os, h.grown.tape.trans hd.low.tape, h.grown.output.trans hd.low.output, Nat.le_trans hd.low.size h.grown.size, fun k hk => (h.grown.block k (Nat.lt_of_lt_of_le hk hd.low.size) (hne k (by omega))).trans (hd.low.block k hk)⟩, (h.grown.block _ (lt_of_block hd.bx) (hne _ (by omega))).trans hd.bx⟩
        · exact ⟨h.low, h.bx⟩)
      have HRB := Lib.hid (show ∀ j u w, C0 j u w → w.cell? ⟨W.heap.size, 0, none⟩ = some (.slice (some ⟨g, o, none⟩) n0 cv) from fun j u w hc => (cell_row (HOLD.out j u w hc).2 0).1)
      have q1 := (hcc i hlt2).1
      have q2 := (hcc i hlt2).2
      rw [← hx] at q1 q2
      have HX1 := Lib.hid (show ∀ j u w, C0 j u w → w.cell? ⟨g, o + i * 2, none⟩ = some (.string (mkS x1)) from fun j u w hc => ((HOLD.out j u w hc).1.cell (p := ⟨g, o + i * 2, none⟩) hg).trans q1)
      have HX2 := Lib.hid (show ∀ j u w, C0 j u w → w.cell? ⟨g, o + i * 2 + 1, none⟩ = some (.string (mkS x2)) from fun j u w hc => ((HOLD.out j u w hc).1.cell (p := ⟨g, o + i * 2 + 1, none⟩) hg).trans q2)
      have H0 := Lib.hid (show C0 0 undef wr.drew by rw [hC0]; exact .inl ⟨rfl, rfl⟩)
      have HA := Lib.hid (show ∀ u w, C0 0 u w → w = wr.drew from fun u w hc => by
        rw [hC0] at hc
        rcases hc with ⟨_, e⟩ | ⟨e, _⟩ | ⟨e, _⟩ | ⟨e, _⟩
        · exact e
        · cases e
        · cases e
        · cases e)
      have H1 := Lib.hid (show C0 1 (.slice (some ⟨wr.drew.heap.size, 0, none⟩) 1 1) (wr.drew.alloc (.cells #[.string (mkS x1), .string (mkS x2)] 67)) by rw [hC0]; exact .inr (.inl ⟨rfl, rfl, rfl⟩))
      have HA1 := Lib.hid (show ∀ u w, C0 1 u w → u = .slice (some ⟨wr.drew.heap.size, 0, none⟩) 1 1 ∧ w = wr.drew.alloc (.cells #[.string (mkS x1), .string (mkS x2)] 67) from fun u w hc => by
        rw [hC0] at hc
        rcases hc with ⟨e, _⟩ | ⟨_, e⟩ | ⟨e, _⟩ | ⟨e, _⟩
        · cases e
        · exact e
        · cases e
        · cases e)
      have H2 := Lib.hid (show ∀ v' w', GrewK wr.drew w' (W.heap.size + 3) 67 2 (.slice Ar i cr) v' (i + 1) (prs (e.vars.take i) ++ prs [(x1, x2)]) → C0 2 v' w' from fun v' w' h => by rw [hC0]; exact .inr (.inr (.inl ⟨rfl, h⟩)))
      have HG2 := Lib.hid (show ∀ u w, C0 2 u w → GrewK wr.drew w (W.heap.size + 3) 67 2 (.slice Ar i cr) u ((e.vars.take i).length + [(x1, x2)].length) (prs (e.vars.take i) ++ prs [(x1, x2)]) from fun u w hc => by
        rw [hC0] at hc
        rw [HTL.out]
        rcases hc with ⟨e, _⟩ | ⟨e, _⟩ | ⟨_, e⟩ | ⟨e, _⟩
        · cases e
        · cases e
        · exact e
        · cases e)
      have HU := Lib.hid (show ∀ u w, C0 2 u w → ∃ A4 n4 k4, u = .slice A4 n4 k4 ∧ w.cell? ⟨W.heap.size + 2, 0, none⟩ = some (.slice Ar i cr) ∧ w.frozen? ⟨W.heap.size + 2, 0, none⟩ = false from fun u w hc => by
        have hg2 := HG2.out u w hc
        obtain ⟨A4, k4, e4, _⟩ := own_any hg2.own
        have hh := ((hao.later (Later.drew wr)).push hg2).1
        exact ⟨A4, _, k4, e4, (cell_row hh 0).1, (cell_row hh 0).2⟩)
      have H3 := Lib.hid (show ∀ u w, C0 2 u w → C0 3 undef (w.setCell ⟨W.heap.size + 2, 0, none⟩ u) from fun u w hc => by
        have hh := ((hao.later (Later.drew wr)).push (HG2.out u w hc)).2
        rw [hC0]
        exact .inr (.inr (.inr ⟨rfl, u, by rw [HST.out]; exact hh⟩)))
      have HF := Lib.hid (show ∀ u w, C0 3 u w → ∃ v', Ao W w (.slice (some ⟨g, o, none⟩) n0 cv) (.slice A n c) (.int .i64 st) (.string fl) v' (e.vars.take (i + 1)) from fun u w hc => by
        rw [hC0] at hc
        rcases hc with ⟨e, _⟩ | ⟨e, _⟩ | ⟨e, _⟩ | ⟨_, e⟩
        · cases e
        · cases e
        · cases e
        · exact e)
      clear hC0 hcc hg hx p1 p2 q1 q2 hlt2 hao
      go_wp2_with fail
      refine wp_region_seq (by kernel_rfl) [15, 16, 18] (C0) [some (.pointer (some ⟨W.heap.size + 2, 0, none⟩)), some (.slice Ar i cr), some (.pointer (some ⟨W.heap.size, 0, none⟩)), some (.slice (some ⟨g, o, none⟩) n0 cv), some (.int .i64 (i : Int)), some (.pointer (some ⟨g, o + i * 2, none⟩)), some (.pointer (some ⟨g, o + i * 2, none⟩)), some (.string (mkS x1)), some (.pointer (some ⟨W.heap.size, 0, none⟩)), some (.slice (some ⟨g, o, none⟩) n0 cv), some (.int .i64 (i : Int)), some (.pointer (some ⟨g, o + i * 2, none⟩)), some (.pointer (some ⟨g, o + i * 2 + 1, none⟩)), some (.string (mkS x2)), some (.agg #[.string (mkS x1), .string (mkS x2)]), none, none, some (.pointer (some ⟨W.heap.size + 2, 0, none⟩)), none] (by decide) (by decide) (by kernel_rfl) (by kernel_rfl) (H0.out) ?_ ?_
      · refine ⟨?_, ?_, ?_, ?_, ?_, ?_, ?_, ?_, ?_, ?_, ?_, ?_, ?_, ?_, ?_, ?_, ?_, ?_, ?_, trivial⟩
        · -- 0: slot 19 := Op.fieldAddr 31 t3 0
          refine OwesS.q rfl fun a w j u hC hb hs => ⟨rfl, ?_⟩
          have e3 : a.tmps.getD 3 undef = .pointer (some ⟨W.heap.size + 2, 0, none⟩) := hs.free 3 rfl
          refine ValWp.pure (v := .pointer (some ⟨W.heap.size + 2, 0, none⟩)) (fun K' hK' => ?_) ⟨rfl, rfl⟩
          simp only [ValWp, execOp, Act.eval, e3]
          go_simp
          all_goals exact hK'
        · -- 1: slot 20 := Op.load 29 t19
          refine OwesS.q rfl fun a w j u hC hb hs => ⟨rfl, ?_⟩
          have e19 : a.tmps.getD 19 undef = .pointer (some ⟨W.heap.size + 2, 0, none⟩) := hs.dep 0 _ rfl rfl
          have hj := hb 1 16 rfl rfl
          have q0 := HRV.out j u w hC (by omega)
          refine ValWp.pure (v := .slice Ar i cr) (fun K' hK' => ?_) ⟨rfl, rfl⟩
          simp only [ValWp, execOp, Act.eval, e19]
          go_simp
          all_goals exact hK'
        · -- 2: slot 21 := Op.fieldAddr 28 t1 0
          refine OwesS.q rfl fun a w j u hC hb hs => ⟨rfl, ?_⟩
          have e1 : a.tmps.getD 1 undef = .pointer (some ⟨W.heap.size, 0, none⟩) := hs.free 1 rfl
          refine ValWp.pure (v := .pointer (some ⟨W.heap.size, 0, none⟩)) (fun K' hK' => ?_) ⟨rfl, rfl⟩
          simp only [ValWp, execOp, Act.eval, e1]
          go_simp
          all_goals exact hK'
        · -- 3: slot 22 := Op.load 26 t21
          refine OwesS.q rfl fun a w j u hC hb hs => ⟨rfl, ?_⟩
          have e21 : a.tmps.getD 21 undef = .pointer (some ⟨W.heap.size, 0, none⟩) := hs.dep 2 _ rfl rfl
          have q0 := HRB.out j u w hC
          refine ValWp.pure (v := .slice (some ⟨g, o, none⟩) n0 cv) (fun K' hK' => ?_) ⟨rfl, rfl⟩
          simp only [ValWp, execOp, Act.eval, e21]
          go_simp
          all_goals exact hK'
        · -- 4: slot 23 := Op.move t4
          refine OwesS.q rfl fun a w j u hC hb hs => ⟨rfl, ?_⟩
          have e4 : a.tmps.getD 4 undef = .int .i64 (i : Int) := hs.free 4 rfl
          refine ValWp.pure (v := .int .i64 (i : Int)) (fun K' hK' => ?_) ⟨rfl, rfl⟩
          simp only [ValWp, execOp, Act.eval, e4]
          go_simp
          all_goals exact hK'
        · -- 5: slot 24 := Op.indexAddr 26 t22 t23
          refine OwesS.q rfl fun a w j u hC hb hs => ⟨rfl, ?_⟩
          have e22 : a.tmps.getD 22 undef = .slice (some ⟨g, o, none⟩) n0 cv := hs.dep 3 _ rfl rfl
          have e23 : a.tmps.getD 23 undef = .int .i64 (i : Int) := hs.dep 4 _ rfl rfl
          refine ValWp.pure (v := .pointer (some ⟨g, o + i * 2, none⟩)) (fun K' hK' => ?_) ⟨rfl, rfl⟩
          simp only [ValWp, execOp, Act.eval, e22, e23]
          go_simp
          all_goals exact hK'
        · -- 6: slot 25 := Op.fieldAddr 54 t24 0
          refine OwesS.q rfl fun a w j u hC hb hs => ⟨rfl, ?_⟩
          have e24 : a.tmps.getD 24 undef = .pointer (some ⟨g, o + i * 2, none⟩) := hs.dep 5 _ rfl rfl
          refine ValWp.pure (v := .pointer (some ⟨g, o + i * 2, none⟩)) (fun K' hK' => ?_) ⟨rfl, rfl⟩
          simp only [ValWp, execOp, Act.eval, e24]
          go_simp
          all_goals exact hK'
        · -- 7: slot 26 := Op.load 9 t25
          refine OwesS.q rfl fun a w j u hC hb hs => ⟨rfl, ?_⟩
          have e25 : a.tmps.getD 25 undef = .pointer (some ⟨g, o + i * 2, none⟩) := hs.dep 6 _ rfl rfl
          have q0 := HX1.out j u w hC
          refine ValWp.pure (v := .string (mkS x1)) (fun K' hK' => ?_) ⟨rfl, rfl⟩
          simp only [ValWp, execOp, Act.eval, e25]
          go_simp
          all_goals exact hK'
        · -- 8: slot 27 := Op.fieldAddr 28 t1 0
          refine OwesS.q rfl fun a w j u hC hb hs => ⟨rfl, ?_⟩
          have e1 : a.tmps.getD 1 undef = .pointer (some ⟨W.heap.size, 0, none⟩) := hs.free 1 rfl
          refine ValWp.pure (v := .pointer (some ⟨W.heap.size, 0, none⟩)) (fun K' hK' => ?_) ⟨rfl, rfl⟩
          simp only [ValWp, execOp, Act.eval, e1]
          go_simp
          all_goals exact hK'
        · -- 9: slot 28 := Op.load 26 t27
          refine OwesS.q rfl fun a w j u hC hb hs => ⟨rfl, ?_⟩
          have e27 : a.tmps.getD 27 undef = .pointer (some ⟨W.heap.size, 0, none⟩) := hs.dep 8 _ rfl rfl
          have q0 := HRB.out j u w hC
          refine ValWp.pure (v := .slice (some ⟨g, o, none⟩) n0 cv) (fun K' hK' => ?_) ⟨rfl, rfl⟩
          simp only [ValWp, execOp, Act.eval, e27]
          go_simp
          all_goals exact hK'
        · -- 10: slot 29 := Op.move t4
          refine OwesS.q rfl fun a w j u hC hb hs => ⟨rfl, ?_⟩
          have e4 : a.tmps.getD 4 undef = .int .i64 (i : Int) := hs.free 4 rfl
          refine ValWp.pure (v := .int .i64 (i : Int)) (fun K' hK' => ?_) ⟨rfl, rfl⟩
          simp only [ValWp, execOp, Act.eval, e4]
          go_simp
          all_goals exact hK'
        · -- 11: slot 30 := Op.indexAddr 26 t28 t29
          refine OwesS.q rfl fun a w j u hC hb hs => ⟨rfl, ?_⟩
          have e28 : a.tmps.getD 28 undef = .slice (some ⟨g, o, none⟩) n0 cv := hs.dep 9 _ rfl rfl
          have e29 : a.tmps.getD 29 undef = .int .i64 (i : Int) := hs.dep 10 _ rfl rfl
          refine ValWp.pure (v := .pointer (some ⟨g, o + i * 2, none⟩)) (fun K' hK' => ?_) ⟨rfl, rfl⟩
          simp only [ValWp, execOp, Act.eval, e28, e29]
          go_simp
          all_goals exact hK'
        · -- 12: slot 31 := Op.fieldAddr 54 t30 1
          refine OwesS.q rfl fun a w j u hC hb hs => ⟨rfl, ?_⟩
          have e30 : a.tmps.getD 30 undef = .pointer (some ⟨g, o + i * 2, none⟩) := hs.dep 11 _ rfl rfl
          refine ValWp.pure (v := .pointer (some ⟨g, o + i * 2 + 1, none⟩)) (fun K' hK' => ?_) ⟨rfl, rfl⟩
          simp only [ValWp, execOp, Act.eval, e30]
          go_simp
          all_goals exact hK'
        · -- 13: slot 32 := Op.load 9 t31
          refine OwesS.q rfl fun a w j u hC hb hs => ⟨rfl, ?_⟩
          have e31 : a.tmps.getD 31 undef = .pointer (some ⟨g, o + i * 2 + 1, none⟩) := hs.dep 12 _ rfl rfl
          have q0 := HX2.out j u w hC
          refine ValWp.pure (v := .string (mkS x2)) (fun K' hK' => ?_) ⟨rfl, rfl⟩
          simp only [ValWp, execOp, Act.eval, e31]
          go_simp
          all_goals exact hK'
        · -- 14: slot 33 := Op.build 67 #[(0, t26), (1, t32)]
          refine OwesS.q rfl fun a w j u hC hb hs => ⟨rfl, ?_⟩
          have e26 : a.tmps.getD 26 undef = .string (mkS x1) := hs.dep 7 _ rfl rfl
          have e32 : a.tmps.getD 32 undef = .string (mkS x2) := hs.dep 13 _ rfl rfl
          refine ValWp.pure (v := .agg #[.string (mkS x1), .string (mkS x2)]) (fun K' hK' => ?_) ⟨rfl, rfl⟩
          simp only [ValWp, execOp, Act.eval, List.map_toArray, List.map_cons, List.map_nil, e26, e32]
          go_simp
          all_goals exact hK'
        · -- 15: slot 34 := Op.buildSlice 29 1 #[(0, t33)]
          refine OwesS.w rfl fun a w u hC hl hs => ⟨rfl, fun K hK => ?_⟩
          have e33 : a.tmps.getD 33 undef = .agg #[.string (mkS x1), .string (mkS x2)] := hs.dep 14 _ rfl rfl
          have hw := HA.out u w hC
          subst hw
          refine wp_of_val ?_
          refine ValWp.pure (v := .slice (some ⟨wr.drew.heap.size, 0, none⟩) 1 1) (w' := wr.drew.alloc (.cells #[.string (mkS x1), .string (mkS x2)] 67)) (fun K' hK' => ?_) (hK _ _ trivial H1.out)
          simp only [ValWp, execOp, Act.eval, List.map_toArray, List.map_cons, List.map_nil, e33]
          go_simp
          all_goals exact hK'
        · -- 16: slot 35 := Op.call { builtin append, args := #[t20, t34], argTypes := #[29, 29] }
          refine OwesS.w rfl fun a w u hC hl hs => ⟨rfl, fun K hK => ?_⟩
          have e20 : a.tmps.getD 20 undef = .slice Ar i cr := hs.dep 1 _ rfl rfl
          have e34 : a.tmps.getD 34 undef = u := hl
          obtain ⟨hu, hw⟩ := HA1.out u w hC
          subst hu
          subst hw
          obtain ⟨v', w', hrun, h3⟩ := HAP.out
          exact owes_append hrun rfl e20 e34 (hK v' w' trivial (H2.out v' w' h3))
        · -- 17: slot 36 := Op.fieldAddr 31 t3 0
          refine OwesS.q rfl fun a w j u hC hb hs => ⟨rfl, ?_⟩
          have e3 : a.tmps.getD 3 undef = .pointer (some ⟨W.heap.size + 2, 0, none⟩) := hs.free 3 rfl
          refine ValWp.pure (v := .pointer (some ⟨W.heap.size + 2, 0, none⟩)) (fun K' hK' => ?_) ⟨rfl, rfl⟩
          simp only [ValWp, execOp, Act.eval, e3]
          go_simp
          all_goals exact hK'
        · -- 18: slot None := Op.store 29 t36 t35
          refine OwesS.w rfl fun a w u hC hl hs => ⟨rfl, fun K hK => ?_⟩
          have e36 : a.tmps.getD 36 undef = .pointer (some ⟨W.heap.size + 2, 0, none⟩) := hs.dep 17 _ rfl rfl
          have e35 : a.tmps.getD 35 undef = u := hl
          obtain ⟨A4, n4, k4, hu, q4, qz⟩ := HU.out u w hC
          subst hu
          refine wp_of_val ?_
          refine ValWp.pure (v := undef) (w' := w.setCell ⟨W.heap.size + 2, 0, none⟩ (.slice A4 n4 k4)) (fun K' hK' => ?_) (hK _ _ trivial (H3.out _ w hC))
          simp only [ValWp, execOp, Act.eval, e36, e35]
          go_simp
          all_goals exact hK'
      · intro a w u hC hl hd hsz hfree hs
        obtain ⟨u19, hu19⟩ : ∃ u, u = a.tmps.getD 19 undef := ⟨_, rfl⟩
        obtain ⟨u20, hu20⟩ : ∃ u, u = a.tmps.getD 20 undef := ⟨_, rfl⟩
        obtain ⟨u21, hu21⟩ : ∃ u, u = a.tmps.getD 21 undef := ⟨_, rfl⟩
        obtain ⟨u22, hu22⟩ : ∃ u, u = a.tmps.getD 22 undef := ⟨_, rfl⟩
        obtain ⟨u23, hu23⟩ : ∃ u, u = a.tmps.getD 23 undef := ⟨_, rfl⟩
        obtain ⟨u24, hu24⟩ : ∃ u, u = a.tmps.getD 24 undef := ⟨_, rfl⟩
        obtain ⟨u25, hu25⟩ : ∃ u, u = a.tmps.getD 25 undef := ⟨_, rfl⟩
        obtain ⟨u26, hu26⟩ : ∃ u, u = a.tmps.getD 26 undef := ⟨_, rfl⟩
        obtain ⟨u27, hu27⟩ : ∃ u, u = a.tmps.getD 27 undef := ⟨_, rfl⟩
        obtain ⟨u28, hu28⟩ : ∃ u, u = a.tmps.getD 28 undef := ⟨_, rfl⟩
        obtain ⟨u29, hu29⟩ : ∃ u, u = a.tmps.getD 29 undef := ⟨_, rfl⟩
        obtain ⟨u30, hu30⟩ : ∃ u, u = a.tmps.getD 30 undef := ⟨_, rfl⟩
        obtain ⟨u31, hu31⟩ : ∃ u, u = a.tmps.getD 31 undef := ⟨_, rfl⟩
        obtain ⟨u32, hu32⟩ : ∃ u, u = a.tmps.getD 32 undef := ⟨_, rfl⟩
        obtain ⟨u33, hu33⟩ : ∃ u, u = a.tmps.getD 33 undef := ⟨_, rfl⟩
        obtain ⟨u34, hu34⟩ : ∃ u, u = a.tmps.getD 34 undef := ⟨_, rfl⟩
        obtain ⟨u35, hu35⟩ : ∃ u, u = a.tmps.getD 35 undef := ⟨_, rfl⟩
        obtain ⟨u36, hu36⟩ : ∃ u, u = a.tmps.getD 36 undef := ⟨_, rfl⟩
        have hal : AllAt a 0 [_, _, _, _, _, _, _, _, _, _, _, _, _, _, _, _, _, _, _, u19, u20, u21, u22, u23, u24, u25, u26, u27, u28, u29, u30, u31, u32, u33, u34, u35, u36, _] := ⟨hfree 0 rfl, hfree 1 rfl, hfree 2 rfl, hfree 3 rfl, hfree 4 rfl, hfree 5 rfl, hfree 6 rfl, hfree 7 rfl, hfree 8 rfl, hfree 9 rfl, hfree 10 rfl, hfree 11 rfl, hfree 12 rfl, hfree 13 rfl, hfree 14 rfl, hfree 15 rfl, hfree 16 rfl, hfree 17 rfl, hfree 18 rfl, hu19.symm, hu20.symm, hu21.symm, hu22.symm, hu23.symm, hu24.symm, hu25.symm, hu26.symm, hu27.symm, hu28.symm, hu29.symm, hu30.symm, hu31.symm, hu32.symm, hu33.symm, hu34.symm, hu35.symm, hu36.symm, hfree 37 rfl, trivial⟩
        have hlit := fun h => act_lit hd h hal
        rw [hlit hsz]
        simp only [Array.getD_eq_getD_getElem?, List.getElem?_toArray, List.getElem?_cons_zero, List.getElem?_cons_succ, Option.getD_some]
        clear hlit hal hd hsz hfree hs hu19 hu20 hu21 hu22 hu23 hu24 hu25 hu26 hu27 hu28 hu29 hu30 hu31 hu32 hu33 hu34 hu35 hu36
        obtain ⟨v', hao'⟩ := HF.out u w hC
        have HAN := Lib.hid hao'
        clear hao' hC hl
        go_wp2
        go_roundw
        case rel => exact ⟨i + 1, v', by go_num, by omega, HAN.out⟩
        case measure => simp [intOf]; omega
    · have hin : i = n0 := by omega
      have hfull : e.vars.take i = e.vars := by rw [hin, HN.out, List.take_length]
      have hA5 := HAI.out
      rw [hfull] at hA5
      have HA5 := Lib.hid hA5
      have w0 : wr.cell? ⟨W.heap.size + 2, 0, none⟩ = some (.slice Ar i cr) := (cell_row hA5.wb 0).1
      have w1 : wr.cell? ⟨W.heap.size + 2, 1, none⟩ = some (.slice A n c) := (cell_row hA5.wb 1).1
      have w2 : wr.cell? ⟨W.heap.size + 2, 2, none⟩ = some (.int .i64 st) := (cell_row hA5.wb 2).1
      have w3 : wr.cell? ⟨W.heap.size + 2, 3, none⟩ = some (.string fl) := (cell_row hA5.wb 3).1
      have r0 : wr.cell? ⟨W.heap.size + 1, 0, none⟩ = some (.slice none 0 0) := (cell_row hA5.rs 0).1
      have r1 : wr.cell? ⟨W.heap.size + 1, 1, none⟩ = some (.slice none 0 0) := (cell_row hA5.rs 1).1
      have r2 : wr.cell? ⟨W.heap.size + 1, 2, none⟩ = some (.int .i64 0) := (cell_row hA5.rs 2).1
      have r3 : wr.cell? ⟨W.heap.size + 1, 3, none⟩ = some (.string ⟨#[]⟩) := (cell_row hA5.rs 3).1
      have z1 := fun i => (cell_row hA5.rs i).2
      clear hA5 hfull hin
      go_wp2
      obtain ⟨w9, hw9, hl9, hr9, hv9⟩ := HA5.out.tell
      rw [← hw9]
      refine bodyPost_ret (results_E rfl _ _ (W.heap.size + 1) _ (0, 0) rfl hr9 rfl) rfl ?_
      obtain ⟨hs1, hf1⟩ := HSF.out
      refine ⟨⟨_, rfl, _, A, n, c, by rw [← hs1, ← hf1], hv9, (HRR.out.1.below hl9).more hl9.size, HRR.out.2.1, HRR.out.2.2⟩, hl9⟩
end En
end Go.Proofs.YtmijploffdoenaaDoor
