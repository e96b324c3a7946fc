/- with: an Env of these variables, in new memory. No premises. -/
import Derived.Test.YtmijploffdoenaaDoorNu
namespace Go.Proofs.YtmijploffdoenaaDoor
open Go.RowKit Go.Maps
namespace En
theorem Tx.keep {w w' : World} {base : Nat} {v : Value} {l : List B} {row : Option Nat} (h : Tx w base v l) (hg : w.grownBy w' row) (hne : ∀ _ : w.ownsRow base 9 1 v l.length (svs l), v.ownBlock = none ∨ v.ownBlock ≠ row) : Tx w' base v l := by
  obtain ⟨A, c, rfl, h1, h2, h3⟩ := h
  exact ⟨A, c, rfl, h1, h2, h3.imp id fun ho => ho.kept hg (hne ho)⟩
theorem Tx.later {w w' : World} {base : Nat} {v : Value} {l : List B} (h : Tx w base v l) (hl : Later w w') : Tx w' base v l := h.keep (grown_of_later hl none) fun _ => by cases v.ownBlock <;> simp
/-- An Env under way: its box (its variables so far, its arguments in memory of the call's own), the result's block. -/
structure Aw (W wr : World) (ab a2 a3 : Value) (args : List B) (v : Value) (l : Vs) : Prop where
  low : Later W wr
  bx : wr.heap[W.heap.size]? = some (.cells #[v, ab, a2, a3] 28 (0, 0))
  rs : wr.heap[W.heap.size + 1]? = some (.cells #[.slice none 0 0, .slice none 0 0, .int .i64 0, .string ⟨#[]⟩] 28 (0, 0))
  own : wr.ownsRow (W.heap.size + 2) 54 2 v l.length (prs l)
  tx : Tx wr (W.heap.size + 2) ab args
theorem Aw.later {W wr wr' : World} {ab a2 a3 v : Value} {args : List B} {l : Vs} (h : Aw W wr ab a2 a3 args v l) (hl : Later wr wr') : Aw W wr' ab a2 a3 args v l :=
  ⟨h.low.trans hl, later_cells hl h.bx, later_cells hl h.rs, h.own.kept (grown_of_later hl none) (by cases v.ownBlock <;> simp), h.tx.later hl⟩
/-- A variable put behind those so far, and stored in the box. -/
theorem Aw.push {W wr wr' : World} {ab a2 a3 v v' : Value} {args : List B} {l m : Vs} (h : Aw W wr ab a2 a3 args v l) (hg : GrewK wr wr' (W.heap.size + 2) 54 2 v v' (l.length + m.length) (prs l ++ prs m)) :
    wr'.heap[W.heap.size]? = some (.cells #[v, ab, a2, a3] 28 (0, 0)) ∧ Aw W (wr'.setCell ⟨W.heap.size, 0, none⟩ v') ab a2 a3 args v' (l ++ m) := by
  have kp : ∀ {k : Nat} {o : Obj}, k < W.heap.size + 2 → wr.heap[k]? = some o → wr'.heap[k]? = some o := fun hk ho => (hg.grown.block _ (lt_of_block ho) (fun e => by have := (own_ge h.own e.symm).1; omega)).trans ho
  have hb := kp (by omega) h.bx
  have hr := kp (by omega) h.rs
  have hlow : Later W wr' := ⟨hg.grown.os.trans h.low.os, hg.grown.tape.trans h.low.tape, hg.grown.output.trans h.low.output, Nat.le_trans h.low.size hg.grown.size, fun k hk => (hg.grown.block k (Nat.lt_of_lt_of_le hk h.low.size) fun e => by have := (own_ge h.own e.symm).1; omega).trans (h.low.block k hk)⟩
  have hset := set_only wr' W.heap.size 0 v'
  refine ⟨hb, later_of_new hlow hset (Nat.le_refl _), set_row hb 0 v', grown_cells hset hr (by omega), ?_, ?_⟩
  · rw [prs_app, List.length_append]
    refine hg.own.kept hset (.inr fun e => ?_)
    have := (own_ge hg.own e).1; omega
  · have t1 : Tx wr' (W.heap.size + 2) ab args := h.tx.keep hg.grown fun ho => apart_types ho h.own (by decide)
    exact t1.keep hset fun ho => .inr fun e => by have := (own_ge ho e).1; omega
/-- What is told at the end. -/
theorem Aw.tell {W wr : World} {ab a2 a3 v : Value} {args : List B} {l : Vs} (h : Aw W wr ab a2 a3 args v l) : ∃ wr', wr' = (((wr.setCell ⟨W.heap.size + 1, 0, none⟩ v).setCell ⟨W.heap.size + 1, 1, none⟩ ab).setCell ⟨W.heap.size + 1, 2, none⟩ a2).setCell ⟨W.heap.size + 1, 3, none⟩ a3 ∧ Later W wr' ∧ wr'.heap[W.heap.size + 1]? = some (.cells #[v, ab, a2, a3] 28 (0, 0)) ∧ wr'.ownsRow (W.heap.size + 2) 54 2 v l.length (prs l) ∧ Tx wr' (W.heap.size + 2) ab args := by
  have g1 := set_only wr (W.heap.size + 1) 0 v
  have g2 := set_only (wr.setCell ⟨W.heap.size + 1, 0, none⟩ v) (W.heap.size + 1) 1 ab
  have g3 := set_only ((wr.setCell ⟨W.heap.size + 1, 0, none⟩ v).setCell ⟨W.heap.size + 1, 1, none⟩ ab) (W.heap.size + 1) 2 a2
  have g4 := set_only (((wr.setCell ⟨W.heap.size + 1, 0, none⟩ v).setCell ⟨W.heap.size + 1, 1, none⟩ ab).setCell ⟨W.heap.size + 1, 2, none⟩ a2) (W.heap.size + 1) 3 a3
  have hn : v.ownBlock ≠ some (W.heap.size + 1) := fun e => by have := (own_ge h.own e).1; omega
  have ht : ∀ {w : World} (ho : w.ownsRow (W.heap.size + 2) 9 1 ab args.length (svs args)), ab.ownBlock ≠ some (W.heap.size + 1) := fun ho e => by have := (own_ge ho e).1; omega
  refine ⟨_, rfl, ?_, ?_, ?_, ?_⟩
  · exact later_of_new (later_of_new (later_of_new (later_of_new h.low g1 (by omega)) g2 (by omega)) g3 (by omega)) g4 (by omega)
  · exact set_row (set_row (set_row (set_row h.rs 0 v) 1 ab) 2 a2) 3 a3
  · exact ((((h.own.kept g1 (.inr hn)).kept g2 (.inr hn)).kept g3 (.inr hn)).kept g4 (.inr hn))
  · exact (((h.tx.keep g1 fun ho => .inr (ht ho)).keep g2 fun ho => .inr (ht ho)).keep g3 fun ho => .inr (ht ho)).keep g4 fun ho => .inr (ht ho)
theorem results_Env {fn : Func} {p : Tmp} (h : fn.results = #[.cell p 28]) (tmps : Array Value) (w : World) (g : Nat) (cs : Array Value) (fr : Nat × Nat) (hp : tmps.getD p undef = .pointer (some ⟨g, 0, none⟩)) (hg : w.heap[g]? = some (.cells cs 28 fr)) (hs : cs.size = 4) : (results fn tmps).run Tryd.prog w = .ok (.agg cs) w :=
  results_cell_row h tmps w g _ cs fr _ hp hg Tryd.underlying28 rfl (by rw [hs]; kernel_rfl)
/-- What is owned stays so wherever its blocks stay. -/
theorem own_move {w w' : World} {base size n : Nat} {t : TypeId} {v : Value} {xs : List Value} (h : w.ownsRow base t size v n xs) (hk : ∀ k, base ≤ k → k < w.heap.size → w'.heap[k]? = w.heap[k]?) : w'.ownsRow base t size v n xs := by
  refine ⟨h.1, h.2.imp id ?_⟩
  rintro ⟨g, cap, cur, e, hb, hh, hr⟩
  exact ⟨g, cap, cur, e, hb, (hk g hb (lt_of_block hh)).trans hh, hr⟩
theorem Tx.move {w w' : World} {base : Nat} {v : Value} {l : List B} (h : Tx w base v l) (hk : ∀ k, base ≤ k → k < w.heap.size → w'.heap[k]? = w.heap[k]?) : Tx w' base v l := by
  obtain ⟨A, c, rfl, h1, h2, h3⟩ := h
  exact ⟨A, c, rfl, h1, h2, h3.imp id fun ho => own_move ho hk⟩
/-- A value that reads as an Env, all of it in memory from a block on. -/
def FrE (base : Nat) (w : World) (v : Value) (e : E) : Prop := ∀ w' : World, w.heap.size ≤ w'.heap.size → (∀ k, base ≤ k → k < w.heap.size → w'.heap[k]? = w.heap[k]?) → RdE w' v e
theorem FrE.rd {base : Nat} {w : World} {v : Value} {e : E} (h : FrE base w v e) : RdE w v e := h w (Nat.le_refl _) fun _ _ _ => rfl
theorem FrE.less {base base' : Nat} {w : World} {v : Value} {e : E} (h : FrE base w v e) (hb : base' ≤ base) : FrE base' w v e := fun w' h1 h2 => h w' h1 fun k hk => h2 k (Nat.le_trans hb hk)
theorem FrE.later {base : Nat} {w w1 : World} {v : Value} {e : E} (h : FrE base w v e) (hl : Later w w1) : FrE base w1 v e := fun w' h1 h2 => h w' (Nat.le_trans hl.size h1) fun k hk hk2 => (h2 k hk (Nat.lt_of_lt_of_le hk2 hl.size)).trans (hl.block k hk2)
theorem FrE.set {base : Nat} {w w1 : World} {v : Value} {e : E} {x : Nat} (h : FrE base w v e) (hg : w.grownBy w1 (some x)) (hx : x < base) : FrE base w1 v e := fun w' h1 h2 => h w' (Nat.le_trans hg.size h1) fun k hk hk2 => (h2 k hk (Nat.lt_of_lt_of_le hk2 hg.size)).trans (hg.block k hk2 (fun e => by injection e with e; omega))
/-- An Env that is told. -/
def Told (W W' : World) (x : Ending) (e : E) : Prop := (∃ v, x = .returned v ∧ FrE W.heap.size W' v e) ∧ Later W W'
theorem fre_of {w : World} {base : Nat} {v ab : Value} {args : List B} {l : Vs} {st : Nat} {fl : B} (hv : w.ownsRow base 54 2 v l.length (prs l)) (ht : Tx w base ab args) : FrE base w (.agg #[v, ab, .int .i64 (st : Int), .string (mkS fl)]) ⟨l, args, st, fl⟩ := by
  intro w' h1 h2
  obtain ⟨A, c, rfl, h3, h4, h5⟩ := (ht.move h2).rd
  exact ⟨v, A, args.length, c, rfl, RdP.of_own (own_move hv h2), h5, h3, h4⟩
theorem Aw.begin {W w3 : World} {base : Nat} {a0 a1 a2 a3 ab : Value} {args : List B} (hl : Later W w3) (hbx : w3.heap[W.heap.size]? = some (.cells #[a0, a1, a2, a3] 28 (0, 0))) (hrs : w3.heap[W.heap.size + 1]? = some (.cells #[.slice none 0 0, .slice none 0 0, .int .i64 0, .string ⟨#[]⟩] 28 (0, 0))) (ht : Tx w3 base ab args) (hB : base = W.heap.size + 2) :
    ∃ w4, w4 = (w3.setCell ⟨W.heap.size, 0, none⟩ (.slice none 0 0)).setCell ⟨W.heap.size, 1, none⟩ ab ∧ Aw W w4 ab a2 a3 args (.slice none 0 0) [] := by
  subst hB
  have g1 := set_only w3 W.heap.size 0 (.slice none 0 0)
  have g2 := set_only (w3.setCell ⟨W.heap.size, 0, none⟩ (.slice none 0 0)) W.heap.size 1 ab
  refine ⟨_, rfl, later_of_new (later_of_new hl g1 (Nat.le_refl _)) g2 (Nat.le_refl _), set_row (set_row hbx 0 _) 1 _, grown_cells g2 (grown_cells g1 hrs (by omega)) (by omega), World.ownsRow_nil _ _ _ _, ?_⟩
  exact (ht.keep g1 fun ho => .inr fun e => by have := (own_ge ho e).1; omega).keep g2 fun ho => .inr fun e => by have := (own_ge ho e).1; omega
set_option maxRecDepth 100000 in
set_option maxHeartbeats 3200000 in
theorem with_v (va lv : Value) (e : E) (ls : Vs) (W : World) (h : RdE W va e) (hls : RdP W W.heap.size lv ls) (hn : ls.length ≤ 1000000) (ha : e.args.length ≤ 1000000) : Calls Tryd.prog 29 #[va, lv] W fun x W' => Told W W' x { e with vars := ls } := by
  obtain ⟨v0, A, n, c, rfl, hv, hr, hc1, hc2⟩ := h
  obtain ⟨A0, c0, rfl, hcv0, hcw0, _⟩ := hv.le
  obtain ⟨Al, cl, rfl, hcl, hcw, _⟩ := hls.le
  obtain ⟨n0, hn0⟩ : ∃ n0, n0 = e.vars.length := ⟨_, rfl⟩
  obtain ⟨st, hst⟩ : ∃ st, st = e.status := ⟨_, rfl⟩
  obtain ⟨fl, hfl⟩ : ∃ fl, fl = mkS e.flags := ⟨_, rfl⟩
  have HE := Lib.hid (And.intro hst hfl)
  rw [← hn0, ← hst, ← hfl]
  have HCL := Lib.hid (show ∀ W', Later W W' → Calls Tryd.prog 48 #[.slice A n c] W' fun e' W'' => (∃ v, e' = .returned v ∧ Tx W'' W'.heap.size v e.args) ∧ Later W' W'' from fun W' hl => clone_v A n c e.args W' ((hr.below hl).more hl.size) ha)
  obtain ⟨m, hm⟩ : ∃ m, m = ls.length := ⟨_, rfl⟩
  have HM := Lib.hid hm
  have HN := Lib.hid hn
  have HLS := Lib.hid hls
  rw [← hm] at hcl ⊢
  have HL2 := Lib.hid (show Later W ((W.alloc (.cells #[.slice A0 n0 c0, .slice A n c, .int .i64 (st : Int), .string fl] 28)).alloc (.cells #[.slice none 0 0, .slice none 0 0, .int .i64 0, .string ⟨#[]⟩] 28)) from (Later.alloc _ _).trans (Later.alloc _ _))
  have HB2 := Lib.hid (show ((W.alloc (.cells #[.slice A0 n0 c0, .slice A n c, .int .i64 (st : Int), .string fl] 28)).alloc (.cells #[.slice none 0 0, .slice none 0 0, .int .i64 0, .string ⟨#[]⟩] 28)).heap[W.heap.size]? = some (.cells #[.slice A0 n0 c0, .slice A n c, .int .i64 (st : Int), .string fl] 28 (0, 0)) from later_cells (Later.alloc _ _) (heap_alloc_new W _))
  have hr2 := heap_alloc_new (W.alloc (.cells #[.slice A0 n0 c0, .slice A n c, .int .i64 (st : Int), .string fl] 28)) (.cells #[.slice none 0 0, .slice none 0 0, .int .i64 0, .string ⟨#[]⟩] 28)
  rw [World.size_alloc] at hr2
  have HR2 := Lib.hid hr2
  have HSZ := Lib.hid (show ((W.alloc (.cells #[.slice A0 n0 c0, .slice A n c, .int .i64 (st : Int), .string fl] 28)).alloc (.cells #[.slice none 0 0, .slice none 0 0, .int .i64 0, .string ⟨#[]⟩] 28)).heap.size = W.heap.size + 2 by rw [World.size_alloc, World.size_alloc])
  clear hv hr hc1 hc2 hcv0 hcw0 hls hcw hn0 hst hfl hm hn ha hr2
  go_enter Tryd.func29, Tryd.ntmps29
  go_wp2_with (go_at_call 48; (with_reducible refine (HCL.out _ HL2.out).mono ?_); rintro x w3 ⟨⟨ab, rfl, htx⟩, hl3⟩; (have HT3 := Lib.hid htx); obtain ⟨A', c', rfl, _, _, _⟩ := htx; (have HL3 := Lib.hid hl3); (have hbx := later_cells hl3 HB2.out); (have b0 : w3.cell? ⟨W.heap.size, 0, none⟩ = some (.slice A0 n0 c0) := (cell_row hbx 0).1); (have b1 : w3.cell? ⟨W.heap.size, 1, none⟩ = some (.slice A n c) := (cell_row hbx 1).1); (have z0 := fun i => (cell_row hbx i).2); clear hl3 hbx)
  obtain ⟨n1, hn1⟩ : ∃ n1, n1 = e.args.length := ⟨_, rfl⟩
  rw [← hn1] at HT3 ⊢
  have HN1 := Lib.hid hn1
  obtain ⟨w4, hw4, haw⟩ := Aw.begin (HL2.out.trans HL3.out) (later_cells HL3.out HB2.out) (later_cells HL3.out HR2.out) HT3.out HSZ.out
  rw [← hw4]
  have HA4 := Lib.hid haw
  obtain ⟨i0, hif, hz0, hz1, hz2⟩ := info_parts info_Var
  clear b0 b1 z0 hw4 haw hn1
  go_loopw [14] (fun s14 wr => ∃ (i : Nat) (v : Value), s14 = .int .i64 (i : Int) ∧ i ≤ m ∧ Aw W wr (.slice A' n1 c') (.int .i64 (st : Int)) (.string fl) e.args v (ls.take i)) (fun i _ => m - (intOf i).toNat)
  case atStart => exact ⟨0, _, rfl, Nat.zero_le _, by rw [List.take_zero]; exact HA4.out⟩
  case round =>
    obtain ⟨i, v, rfl, hi, haw⟩ := hrel
    obtain ⟨Av, cv, rfl, _⟩ := own_any haw.own
    have HTL := Lib.hid (show (ls.take i).length = i by rw [List.length_take, ← HM.out]; omega)
    rw [HTL.out] at haw
    have HA := Lib.hid haw
    have hi0 : (0 : Int) ≤ (i : Int) := by omega
    have hm6 : m ≤ 1000000 := by rw [HM.out]; exact HN.out
    clear haw
    by_cases hlt : i < m
    · have hi1 : (i : Int) < (m : Int) := by omega
      obtain ⟨g, o, c9, e1, hg, hcc⟩ := HLS.out.at_ (by rw [← HM.out]; omega)
      injection e1 with e1 _ e2
      subst e1 e2
      have hlt2 : i < ls.length := by rw [← HM.out]; exact hlt
      obtain ⟨x, hx⟩ : ∃ x, x = ls[i] := ⟨_, rfl⟩
      have p1 := (HA.out.low.cell (p := ⟨g, o + i * 2, none⟩) hg).trans (hcc i hlt2).1
      have p2 := (HA.out.low.cell (p := ⟨g, o + i * 2 + 1, none⟩) hg).trans (hcc i hlt2).2
      rw [← hx] at p1 p2
      have HLD := Lib.hid (load_mid 62 _ Tryd.underlying62 (by kernel_rfl) p1 p2)
      have HST := Lib.hid (show ls.take (i + 1) = ls.take i ++ [x] by rw [hx, List.take_succ_eq_append_getElem hlt2])
      have HA3 := Lib.hid (HA.out.later (Later.alloc wr (.cells #[.string (mkS x.1), .string (mkS x.2)] 62)))
      have b0 : (wr.alloc (.cells #[.string (mkS x.1), .string (mkS x.2)] 62)).cell? ⟨W.heap.size, 0, none⟩ = some (.slice Av i cv) := (cell_row HA3.out.bx 0).1
      have hown := HA3.out.own
      rw [HTL.out] at hown
      have HOW := Lib.hid hown
      clear hown
      have HBS := Lib.hid (show W.heap.size + 2 ≤ (wr.alloc (.cells #[.string (mkS x.1), .string (mkS x.2)] 62)).heap.size from lt_of_block HA3.out.rs)
      clear hcc hg hx p1 p2 hlt2
      go_wp2_with (first
        | (refine wpList_loadRun rfl 62 (.tmp 16) rfl _ _ rfl HLD.out ?_)
        | (at_builtin; refine wpList_appK _ #[.string (mkS x.1), .string (mkS x.2)] 2 (by omega) rfl (by intro u hu; simp at hu; rcases hu with rfl | rfl <;> rfl) rfl (.tmp 19) (.tmp 21) 26 54 rfl i0 _ 32 Tryd.underlying26 hif hz0 hz1 hz2 rfl (W.heap.size + 2) (.slice Av i cv) i (prs (ls.take i)) rfl HOW.out (wr.heap.size + 1) (by rw [World.size_alloc]) rfl (by omega) (by omega) HBS.out ?_; intro v3 w3 hg3; obtain ⟨A9, c9, hv9, _⟩ := own_any hg3.own; subst hv9; obtain ⟨hb9, hp9⟩ := HA3.out.push (m := [x]) (by rw [HTL.out]; exact hg3); (have HP := Lib.hid hp9); (have b9 : w3.cell? ⟨W.heap.size, 0, none⟩ = some (.slice Av i cv) := (cell_row hb9 0).1); (have z9 := fun i => (cell_row hb9 i).2); clear hg3 hb9 hp9))
      go_roundw
      case rel => exact ⟨i + 1, _, by go_num, by omega, by rw [HST.out]; exact HP.out⟩
      case measure => simp [intOf]; omega
    · have hin : i = m := by omega
      have hfull : ls.take i = ls := by rw [hin, HM.out, List.take_length]
      have hA5 := HA.out
      rw [hfull] at hA5
      have HA5 := Lib.hid hA5
      have b0 : wr.cell? ⟨W.heap.size, 0, none⟩ = some (.slice Av i cv) := (cell_row hA5.bx 0).1
      have b1 : wr.cell? ⟨W.heap.size, 1, none⟩ = some (.slice A' n1 c') := (cell_row hA5.bx 1).1
      have b2 : wr.cell? ⟨W.heap.size, 2, none⟩ = some (.int .i64 (st : Int)) := (cell_row hA5.bx 2).1
      have b3 : wr.cell? ⟨W.heap.size, 3, none⟩ = some (.string fl) := (cell_row hA5.bx 3).1
      have r0 : wr.cell? ⟨W.heap.size + 1, 0, none⟩ = some (.slice none 0 0) := (cell_row hA5.rs 0).1
      have r1 : wr.cell? ⟨W.heap.size + 1, 1, none⟩ = some (.slice none 0 0) := (cell_row hA5.rs 1).1
      have r2 : wr.cell? ⟨W.heap.size + 1, 2, none⟩ = some (.int .i64 0) := (cell_row hA5.rs 2).1
      have r3 : wr.cell? ⟨W.heap.size + 1, 3, none⟩ = some (.string ⟨#[]⟩) := (cell_row hA5.rs 3).1
      have z0 := fun i => (cell_row hA5.bx i).2
      have z1 := fun i => (cell_row hA5.rs i).2
      clear hA5 hfull hin
      go_wp2
      obtain ⟨w9, hw9, hl9, hr9, hv9, ht9⟩ := HA5.out.tell
      rw [← hw9]
      refine bodyPost_ret (results_Env rfl _ _ (W.heap.size + 1) _ (0, 0) rfl hr9 rfl) rfl ?_
      obtain ⟨hs1, hf1⟩ := HE.out
      refine ⟨⟨_, rfl, ?_⟩, hl9⟩
      have := fre_of (st := e.status) (fl := e.flags) hv9 ht9
      rw [← hs1, ← hf1] at this
      exact this.less (by omega)
end En
end Go.Proofs.YtmijploffdoenaaDoor
