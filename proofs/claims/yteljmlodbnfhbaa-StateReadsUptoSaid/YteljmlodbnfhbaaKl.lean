/- Rows that come in through a port: the row itself. No premises. -/
import Derived.Test.YteljmlodbnfhbaaKk
namespace Go.Proofs.Yteljmlodbnfhbaa
open Go.RowKit
namespace Ks
set_option maxRecDepth 100000
theorem PI.stored {w : World} {B0 g gr bx : Nat} {st : Except Nat B} (h : PI w B0 g gr st) (hb : B0 ≤ bx) (hne : bx ≠ g) (o : Nat) (u : Value) : PI (w.setCell ⟨bx, o, none⟩ u) B0 g gr st := by
  obtain ⟨form, e, bs, h, hs⟩ := h
  exact ⟨form, e, bs, h.stored hb hne o u, hs⟩
theorem zag_bad (form : Bool) (e : Nat) (bs : B) : form = false → (numR bs e).2.2 ≠ 0 → zagOf (numR bs e).1 = 0 := by
  intro _ h
  by_cases he : e = 0
  · subst he
    rcases takeM_cases bs with h1 | h1
    · exact absurd (by simpa [numR] using h1.1) h
    · rw [show (numR bs 0).1 = 0 by simpa [numR] using h1.2.1]; decide
  · rw [show numR bs e = (0, bs, e) by simp [numR, he]]
    show zagOf 0 = 0
    decide
theorem row_res {α : Type} (c : Cd α) (form : Bool) (e : Nat) (bs : B) : (∀ k, nxt (Ks.row c) (stE form e bs) = .error k → tkN c (stE form (numR bs e).2.2 (numR bs e).2.1) (zagOf (numR bs e).1) = .error k) ∧ ∀ l q, nxt (Ks.row c) (stE form e bs) = .ok (l, q) → tkN c (stE form (numR bs e).2.2 (numR bs e).2.1) (zagOf (numR bs e).1) = .ok (l, q) := by
  obtain ⟨n1, n2⟩ := num_nxt form e bs
  cases hst : stE form e bs with
  | error k0 =>
    have h1 := n1 k0 (by rw [hst]; rfl)
    rw [h1]
    exact ⟨fun k hk => by cases hk; rfl, fun l q hk => by cases hk⟩
  | ok b =>
    have e1 : nxt (Ks.row c) (.ok b) = rowG c b := rfl
    rw [e1]
    unfold rowG
    rw [hst] at n1 n2
    cases hn : numG b with
    | error k0 =>
      have h1 := n1 k0 hn
      rw [h1]
      exact ⟨fun k hk => by cases hk; rfl, fun l q hk => by cases hk⟩
    | ok p =>
      obtain ⟨x, r1⟩ := p
      obtain ⟨h1, h2, _⟩ := n2 x r1 hn
      rw [h1, ← h2]
      exact ⟨fun k hk => hk, fun l q hk => hk⟩
theorem row_stp {α : Type} {r : Rp α} {c : Cd α} {w1 w2 w3 : World} {base B0 g gr e n cap : Nat} {form : Bool} {bs : B} {A : Option Addr} {st : Except Nat B}
    (hd : TkD r (tkN c (stE form (numR bs e).2.2 (numR bs e).2.1) (zagOf (numR bs e).1)) w1 B0 g gr w2 A n cap st) (hb : base ≤ w1.heap.size) (hs : w2.heap.size ≤ w3.heap.size) (hk : ∀ k, base ≤ k → k < w2.heap.size → w3.heap[k]? = w2.heap[k]?) : Stp (rrow r) (Ks.row c) base w3 (stE form e bs) st [.slice A n cap] := by
  obtain ⟨n1, n2⟩ := row_res c form e bs
  refine ⟨rfl, fun u hu => by rw [List.mem_singleton.1 hu]; rfl, fun k h => hd.bad k (n1 k h), fun l q h => ?_⟩
  obtain ⟨h1, h2⟩ := hd.good l q (n2 l q h)
  exact ⟨h1, (h2.low hb).next hs hk⟩
theorem inR_txts (hF : InT (one1 29) rtxt txt [.string ⟨#[]⟩] shT) : InS (one2 28 29) (rrow rtxt) (Ks.row txt) [.slice none 0 0] := by
  refine ⟨rfl, fun {W B0 g gr bx o st pre post ty Q} hp ho hx hb hne hq => ?_⟩
  obtain ⟨form, e, bs, h, hst⟩ := hp
  subst ho
  have hbl := lt_of_block hx
  have hgl := lt_of_block h.box
  have hgr := h.lt
  have hx0 : W.cell? ⟨bx, pre.length, none⟩ = some (.slice none 0 0) := by rw [(cell_row hx _).1]; exact mid_at _ _ _
  obtain ⟨o, ho⟩ : ∃ o, o = pre.length := ⟨_, rfl⟩
  obtain ⟨y, hy⟩ : ∃ y, y = zagOf (numR bs e).1 := ⟨_, rfl⟩
  have hv := int_in (bx := W.heap.size) (o := 0) (h.later (Later.alloc W (.cells #[.int .i64 0] 3))) (heap_alloc_new W _) (by simp) (by have := h.size; omega) (by omega)
  rw [← hy] at hv
  have HV := Lib.hid hv
  have HT := Lib.hid (fun (w1 : World) (hp : PIx w1 B0 g gr form (numR bs e).2.2 (numR bs e).2.1) => taken_txts hF (n := y) hp (by rw [hy]; exact zag_bad form e bs))
  have HX := Lib.hid (show ∀ w1 : World, PIx w1 B0 g gr form (numR bs e).2.2 (numR bs e).2.1 → Fr (Ne3 g gr W.heap.size) (W.alloc (.cells #[.int .i64 0] 3)) w1 → w1.cell? ⟨g, 1, none⟩ = some (.pointer (some ⟨gr, 0, none⟩)) ∧ w1.heap[bx]? = some (.cells (pre ++ [Value.slice none 0 0] ++ post).toArray ty (0, 0)) ∧ W.heap.size ≤ w1.heap.size ∧ Fr (Ne3 g gr bx) W w1 from fun w1 h1 f => by
    have hl := Later.alloc W (.cells #[.int .i64 0] 3)
    have hs := f.size
    rw [World.size_alloc] at hs
    refine ⟨?_, (f.block bx (by rw [World.size_alloc]; omega) ⟨hne, by omega, by omega⟩).trans (later_cells hl hx), by omega, ⟨f.os.trans hl.os, f.tape.trans hl.tape, f.output.trans hl.output, Nat.le_trans hl.size f.size, fun k hk hn => (f.block k (by rw [World.size_alloc]; omega) ⟨hn.1, hn.2.1, by omega⟩).trans (hl.block k hk)⟩⟩
    rw [(cell_row h1.box 1).1]; rfl)
  have HW := Lib.hid (show ∀ w1 w2 : World, w1.heap[bx]? = some (.cells (pre ++ [Value.slice none 0 0] ++ post).toArray ty (0, 0)) → Fr (Ne2 g gr) w1 w2 → w2.cell? ⟨bx, o, none⟩ = some (.slice none 0 0) ∧ w2.frozen? ⟨bx, o, none⟩ = false from fun w1 w2 h1 f => by
    have h2 : w2.heap[bx]? = some (.cells (pre ++ [Value.slice none 0 0] ++ post).toArray ty (0, 0)) := (f.block bx (lt_of_block h1) ⟨hne, by omega⟩).trans h1
    refine ⟨?_, (cell_row h2 o).2⟩
    rw [(cell_row h2 o).1, ho]; exact mid_at _ _ _)
  have HQ := Lib.hid (show ∀ (w1 w2 : World) (A : Option Addr) (n cap : Nat) (st' : Except Nat B), w1.heap[bx]? = some (.cells (pre ++ [Value.slice none 0 0] ++ post).toArray ty (0, 0)) → W.heap.size ≤ w1.heap.size → Fr (Ne3 g gr bx) W w1 → TkD rtxt (tkN txt (stE form (numR bs e).2.2 (numR bs e).2.1) y) w1 B0 g gr w2 A n cap st' → Q (w2.setCell ⟨bx, o, none⟩ (.slice A n cap)) from fun w1 w2 A n cap st' hb1 hsz hf hd => by
    have h2 : w2.heap[bx]? = some (.cells (pre ++ [Value.slice none 0 0] ++ post).toArray ty (0, 0)) := (hd.fr.block bx (lt_of_block hb1) ⟨hne, by omega⟩).trans hb1
    have hso := set_only w2 bx o (.slice A n cap)
    rw [hy] at hd
    refine hq _ st' [.slice A n cap] (hd.pi.stored hb hne _ _) ?_ ?_ (by rw [← hst]; exact row_stp hd hsz hso.size fun k hk hk2 => hso.block k hk2 fun e => by injection e with e; omega)
    · exact (hf.trans (hd.fr.sub fun i hi => ⟨hi.1, hi.2.1⟩)).trans (Fr.grown hso fun x e hx => hx.2.2 (by injection e with e; exact e.symm))
    · rw [set_row h2 o, ho, set_mid])
  unfold one2
  rw [← ho] at hx0 ⊢
  clear h hx hb hne hq hbl hgl hgr hst ho hy hv
  go_enter Try.func28, Try.ntmps28
  go_wp2_with (first
    | (go_at_call 35; (with_reducible refine HV.out.mono ?_); rintro r w1 ⟨rfl, h1, hn1, fr1⟩; obtain ⟨q1, q2, q3, q4⟩ := HX.out w1 h1 fr1; have q7 : w1.cell? ⟨W.heap.size, 0, none⟩ = some (.int .i64 y) := (by rw [(cell_row hn1 0).1]; rfl); (have HTK := Lib.hid (HT.out w1 h1)); (have HQ1 := Lib.hid q2); (have HQ2 := Lib.hid q3); (have HQ3 := Lib.hid q4); clear h1 fr1 hn1 q2 q3 q4)
    | (go_at_call 51; (with_reducible refine HTK.out.mono ?_); rintro r w2 ⟨A, n, cap, st', rfl, hd⟩; obtain ⟨q8, q9⟩ := HW.out w1 w2 HQ1.out hd.fr; (have HD := Lib.hid hd); clear hd))
  (try simp only [Exit.inBlock, Exit.then]); refine bodyPost_ret (results_none rfl _ _ _) rfl ?_
  exact ⟨rfl, HQ.out _ _ _ _ _ _ HQ1.out HQ2.out HQ3.out HD.out⟩
theorem inR_nums (hF : InT (one1 35) rnum num [.int .i64 0] shI) : InS (one2 34 35) (rrow rnum) (Ks.row num) [.slice none 0 0] := by
  refine ⟨rfl, fun {W B0 g gr bx o st pre post ty Q} hp ho hx hb hne hq => ?_⟩
  obtain ⟨form, e, bs, h, hst⟩ := hp
  subst ho
  have hbl := lt_of_block hx
  have hgl := lt_of_block h.box
  have hgr := h.lt
  have hx0 : W.cell? ⟨bx, pre.length, none⟩ = some (.slice none 0 0) := by rw [(cell_row hx _).1]; exact mid_at _ _ _
  obtain ⟨o, ho⟩ : ∃ o, o = pre.length := ⟨_, rfl⟩
  obtain ⟨y, hy⟩ : ∃ y, y = zagOf (numR bs e).1 := ⟨_, rfl⟩
  have hv := int_in (bx := W.heap.size) (o := 0) (h.later (Later.alloc W (.cells #[.int .i64 0] 3))) (heap_alloc_new W _) (by simp) (by have := h.size; omega) (by omega)
  rw [← hy] at hv
  have HV := Lib.hid hv
  have HT := Lib.hid (fun (w1 : World) (hp : PIx w1 B0 g gr form (numR bs e).2.2 (numR bs e).2.1) => taken_nums hF (n := y) hp (by rw [hy]; exact zag_bad form e bs))
  have HX := Lib.hid (show ∀ w1 : World, PIx w1 B0 g gr form (numR bs e).2.2 (numR bs e).2.1 → Fr (Ne3 g gr W.heap.size) (W.alloc (.cells #[.int .i64 0] 3)) w1 → w1.cell? ⟨g, 1, none⟩ = some (.pointer (some ⟨gr, 0, none⟩)) ∧ w1.heap[bx]? = some (.cells (pre ++ [Value.slice none 0 0] ++ post).toArray ty (0, 0)) ∧ W.heap.size ≤ w1.heap.size ∧ Fr (Ne3 g gr bx) W w1 from fun w1 h1 f => by
    have hl := Later.alloc W (.cells #[.int .i64 0] 3)
    have hs := f.size
    rw [World.size_alloc] at hs
    refine ⟨?_, (f.block bx (by rw [World.size_alloc]; omega) ⟨hne, by omega, by omega⟩).trans (later_cells hl hx), by omega, ⟨f.os.trans hl.os, f.tape.trans hl.tape, f.output.trans hl.output, Nat.le_trans hl.size f.size, fun k hk hn => (f.block k (by rw [World.size_alloc]; omega) ⟨hn.1, hn.2.1, by omega⟩).trans (hl.block k hk)⟩⟩
    rw [(cell_row h1.box 1).1]; rfl)
  have HW := Lib.hid (show ∀ w1 w2 : World, w1.heap[bx]? = some (.cells (pre ++ [Value.slice none 0 0] ++ post).toArray ty (0, 0)) → Fr (Ne2 g gr) w1 w2 → w2.cell? ⟨bx, o, none⟩ = some (.slice none 0 0) ∧ w2.frozen? ⟨bx, o, none⟩ = false from fun w1 w2 h1 f => by
    have h2 : w2.heap[bx]? = some (.cells (pre ++ [Value.slice none 0 0] ++ post).toArray ty (0, 0)) := (f.block bx (lt_of_block h1) ⟨hne, by omega⟩).trans h1
    refine ⟨?_, (cell_row h2 o).2⟩
    rw [(cell_row h2 o).1, ho]; exact mid_at _ _ _)
  have HQ := Lib.hid (show ∀ (w1 w2 : World) (A : Option Addr) (n cap : Nat) (st' : Except Nat B), w1.heap[bx]? = some (.cells (pre ++ [Value.slice none 0 0] ++ post).toArray ty (0, 0)) → W.heap.size ≤ w1.heap.size → Fr (Ne3 g gr bx) W w1 → TkD rnum (tkN num (stE form (numR bs e).2.2 (numR bs e).2.1) y) w1 B0 g gr w2 A n cap st' → Q (w2.setCell ⟨bx, o, none⟩ (.slice A n cap)) from fun w1 w2 A n cap st' hb1 hsz hf hd => by
    have h2 : w2.heap[bx]? = some (.cells (pre ++ [Value.slice none 0 0] ++ post).toArray ty (0, 0)) := (hd.fr.block bx (lt_of_block hb1) ⟨hne, by omega⟩).trans hb1
    have hso := set_only w2 bx o (.slice A n cap)
    rw [hy] at hd
    refine hq _ st' [.slice A n cap] (hd.pi.stored hb hne _ _) ?_ ?_ (by rw [← hst]; exact row_stp hd hsz hso.size fun k hk hk2 => hso.block k hk2 fun e => by injection e with e; omega)
    · exact (hf.trans (hd.fr.sub fun i hi => ⟨hi.1, hi.2.1⟩)).trans (Fr.grown hso fun x e hx => hx.2.2 (by injection e with e; exact e.symm))
    · rw [set_row h2 o, ho, set_mid])
  unfold one2
  rw [← ho] at hx0 ⊢
  clear h hx hb hne hq hbl hgl hgr hst ho hy hv
  go_enter Try.func34, Try.ntmps34
  go_wp2_with (first
    | (go_at_call 35; (with_reducible refine HV.out.mono ?_); rintro r w1 ⟨rfl, h1, hn1, fr1⟩; obtain ⟨q1, q2, q3, q4⟩ := HX.out w1 h1 fr1; have q7 : w1.cell? ⟨W.heap.size, 0, none⟩ = some (.int .i64 y) := (by rw [(cell_row hn1 0).1]; rfl); (have HTK := Lib.hid (HT.out w1 h1)); (have HQ1 := Lib.hid q2); (have HQ2 := Lib.hid q3); (have HQ3 := Lib.hid q4); clear h1 fr1 hn1 q2 q3 q4)
    | (go_at_call 60; (with_reducible refine HTK.out.mono ?_); rintro r w2 ⟨A, n, cap, st', rfl, hd⟩; obtain ⟨q8, q9⟩ := HW.out w1 w2 HQ1.out hd.fr; (have HD := Lib.hid hd); clear hd))
  (try simp only [Exit.inBlock, Exit.then]); refine bodyPost_ret (results_none rfl _ _ _) rfl ?_
  exact ⟨rfl, HQ.out _ _ _ _ _ _ HQ1.out HQ2.out HQ3.out HD.out⟩
theorem inR_num64s (hF : InT (one1 57) rnum num [.int .i64 0] shI) : InS (one2 56 57) (rrow rnum) (Ks.row num) [.slice none 0 0] := by
  refine ⟨rfl, fun {W B0 g gr bx o st pre post ty Q} hp ho hx hb hne hq => ?_⟩
  obtain ⟨form, e, bs, h, hst⟩ := hp
  subst ho
  have hbl := lt_of_block hx
  have hgl := lt_of_block h.box
  have hgr := h.lt
  have hx0 : W.cell? ⟨bx, pre.length, none⟩ = some (.slice none 0 0) := by rw [(cell_row hx _).1]; exact mid_at _ _ _
  obtain ⟨o, ho⟩ : ∃ o, o = pre.length := ⟨_, rfl⟩
  obtain ⟨y, hy⟩ : ∃ y, y = zagOf (numR bs e).1 := ⟨_, rfl⟩
  have hv := int_in (bx := W.heap.size) (o := 0) (h.later (Later.alloc W (.cells #[.int .i64 0] 3))) (heap_alloc_new W _) (by simp) (by have := h.size; omega) (by omega)
  rw [← hy] at hv
  have HV := Lib.hid hv
  have HT := Lib.hid (fun (w1 : World) (hp : PIx w1 B0 g gr form (numR bs e).2.2 (numR bs e).2.1) => taken_num64s hF (n := y) hp (by rw [hy]; exact zag_bad form e bs))
  have HX := Lib.hid (show ∀ w1 : World, PIx w1 B0 g gr form (numR bs e).2.2 (numR bs e).2.1 → Fr (Ne3 g gr W.heap.size) (W.alloc (.cells #[.int .i64 0] 3)) w1 → w1.cell? ⟨g, 1, none⟩ = some (.pointer (some ⟨gr, 0, none⟩)) ∧ w1.heap[bx]? = some (.cells (pre ++ [Value.slice none 0 0] ++ post).toArray ty (0, 0)) ∧ W.heap.size ≤ w1.heap.size ∧ Fr (Ne3 g gr bx) W w1 from fun w1 h1 f => by
    have hl := Later.alloc W (.cells #[.int .i64 0] 3)
    have hs := f.size
    rw [World.size_alloc] at hs
    refine ⟨?_, (f.block bx (by rw [World.size_alloc]; omega) ⟨hne, by omega, by omega⟩).trans (later_cells hl hx), by omega, ⟨f.os.trans hl.os, f.tape.trans hl.tape, f.output.trans hl.output, Nat.le_trans hl.size f.size, fun k hk hn => (f.block k (by rw [World.size_alloc]; omega) ⟨hn.1, hn.2.1, by omega⟩).trans (hl.block k hk)⟩⟩
    rw [(cell_row h1.box 1).1]; rfl)
  have HW := Lib.hid (show ∀ w1 w2 : World, w1.heap[bx]? = some (.cells (pre ++ [Value.slice none 0 0] ++ post).toArray ty (0, 0)) → Fr (Ne2 g gr) w1 w2 → w2.cell? ⟨bx, o, none⟩ = some (.slice none 0 0) ∧ w2.frozen? ⟨bx, o, none⟩ = false from fun w1 w2 h1 f => by
    have h2 : w2.heap[bx]? = some (.cells (pre ++ [Value.slice none 0 0] ++ post).toArray ty (0, 0)) := (f.block bx (lt_of_block h1) ⟨hne, by omega⟩).trans h1
    refine ⟨?_, (cell_row h2 o).2⟩
    rw [(cell_row h2 o).1, ho]; exact mid_at _ _ _)
  have HQ := Lib.hid (show ∀ (w1 w2 : World) (A : Option Addr) (n cap : Nat) (st' : Except Nat B), w1.heap[bx]? = some (.cells (pre ++ [Value.slice none 0 0] ++ post).toArray ty (0, 0)) → W.heap.size ≤ w1.heap.size → Fr (Ne3 g gr bx) W w1 → TkD rnum (tkN num (stE form (numR bs e).2.2 (numR bs e).2.1) y) w1 B0 g gr w2 A n cap st' → Q (w2.setCell ⟨bx, o, none⟩ (.slice A n cap)) from fun w1 w2 A n cap st' hb1 hsz hf hd => by
    have h2 : w2.heap[bx]? = some (.cells (pre ++ [Value.slice none 0 0] ++ post).toArray ty (0, 0)) := (hd.fr.block bx (lt_of_block hb1) ⟨hne, by omega⟩).trans hb1
    have hso := set_only w2 bx o (.slice A n cap)
    rw [hy] at hd
    refine hq _ st' [.slice A n cap] (hd.pi.stored hb hne _ _) ?_ ?_ (by rw [← hst]; exact row_stp hd hsz hso.size fun k hk hk2 => hso.block k hk2 fun e => by injection e with e; omega)
    · exact (hf.trans (hd.fr.sub fun i hi => ⟨hi.1, hi.2.1⟩)).trans (Fr.grown hso fun x e hx => hx.2.2 (by injection e with e; exact e.symm))
    · rw [set_row h2 o, ho, set_mid])
  unfold one2
  rw [← ho] at hx0 ⊢
  clear h hx hb hne hq hbl hgl hgr hst ho hy hv
  go_enter Try.func56, Try.ntmps56
  go_wp2_with (first
    | (go_at_call 35; (with_reducible refine HV.out.mono ?_); rintro r w1 ⟨rfl, h1, hn1, fr1⟩; obtain ⟨q1, q2, q3, q4⟩ := HX.out w1 h1 fr1; have q7 : w1.cell? ⟨W.heap.size, 0, none⟩ = some (.int .i64 y) := (by rw [(cell_row hn1 0).1]; rfl); (have HTK := Lib.hid (HT.out w1 h1)); (have HQ1 := Lib.hid q2); (have HQ2 := Lib.hid q3); (have HQ3 := Lib.hid q4); clear h1 fr1 hn1 q2 q3 q4)
    | (go_at_call 74; (with_reducible refine HTK.out.mono ?_); rintro r w2 ⟨A, n, cap, st', rfl, hd⟩; obtain ⟨q8, q9⟩ := HW.out w1 w2 HQ1.out hd.fr; (have HD := Lib.hid hd); clear hd))
  (try simp only [Exit.inBlock, Exit.then]); refine bodyPost_ret (results_none rfl _ _ _) rfl ?_
  exact ⟨rfl, HQ.out _ _ _ _ _ _ HQ1.out HQ2.out HQ3.out HD.out⟩
theorem inR_vars (hF : InS (one1 67) prR prC [.string ⟨#[]⟩, .string ⟨#[]⟩]) : InS (one2 66 67) (rrow prR) (Ks.row prC) [.slice none 0 0] := by
  refine ⟨rfl, fun {W B0 g gr bx o st pre post ty Q} hp ho hx hb hne hq => ?_⟩
  obtain ⟨form, e, bs, h, hst⟩ := hp
  subst ho
  have hbl := lt_of_block hx
  have hgl := lt_of_block h.box
  have hgr := h.lt
  have hx0 : W.cell? ⟨bx, pre.length, none⟩ = some (.slice none 0 0) := by rw [(cell_row hx _).1]; exact mid_at _ _ _
  obtain ⟨o, ho⟩ : ∃ o, o = pre.length := ⟨_, rfl⟩
  obtain ⟨y, hy⟩ : ∃ y, y = zagOf (numR bs e).1 := ⟨_, rfl⟩
  have hv := int_in (bx := W.heap.size) (o := 0) (h.later (Later.alloc W (.cells #[.int .i64 0] 3))) (heap_alloc_new W _) (by simp) (by have := h.size; omega) (by omega)
  rw [← hy] at hv
  have HV := Lib.hid hv
  have HT := Lib.hid (fun (w1 : World) (hp : PIx w1 B0 g gr form (numR bs e).2.2 (numR bs e).2.1) => taken_vars hF (n := y) hp (by rw [hy]; exact zag_bad form e bs))
  have HX := Lib.hid (show ∀ w1 : World, PIx w1 B0 g gr form (numR bs e).2.2 (numR bs e).2.1 → Fr (Ne3 g gr W.heap.size) (W.alloc (.cells #[.int .i64 0] 3)) w1 → w1.cell? ⟨g, 1, none⟩ = some (.pointer (some ⟨gr, 0, none⟩)) ∧ w1.heap[bx]? = some (.cells (pre ++ [Value.slice none 0 0] ++ post).toArray ty (0, 0)) ∧ W.heap.size ≤ w1.heap.size ∧ Fr (Ne3 g gr bx) W w1 from fun w1 h1 f => by
    have hl := Later.alloc W (.cells #[.int .i64 0] 3)
    have hs := f.size
    rw [World.size_alloc] at hs
    refine ⟨?_, (f.block bx (by rw [World.size_alloc]; omega) ⟨hne, by omega, by omega⟩).trans (later_cells hl hx), by omega, ⟨f.os.trans hl.os, f.tape.trans hl.tape, f.output.trans hl.output, Nat.le_trans hl.size f.size, fun k hk hn => (f.block k (by rw [World.size_alloc]; omega) ⟨hn.1, hn.2.1, by omega⟩).trans (hl.block k hk)⟩⟩
    rw [(cell_row h1.box 1).1]; rfl)
  have HW := Lib.hid (show ∀ w1 w2 : World, w1.heap[bx]? = some (.cells (pre ++ [Value.slice none 0 0] ++ post).toArray ty (0, 0)) → Fr (Ne2 g gr) w1 w2 → w2.cell? ⟨bx, o, none⟩ = some (.slice none 0 0) ∧ w2.frozen? ⟨bx, o, none⟩ = false from fun w1 w2 h1 f => by
    have h2 : w2.heap[bx]? = some (.cells (pre ++ [Value.slice none 0 0] ++ post).toArray ty (0, 0)) := (f.block bx (lt_of_block h1) ⟨hne, by omega⟩).trans h1
    refine ⟨?_, (cell_row h2 o).2⟩
    rw [(cell_row h2 o).1, ho]; exact mid_at _ _ _)
  have HQ := Lib.hid (show ∀ (w1 w2 : World) (A : Option Addr) (n cap : Nat) (st' : Except Nat B), w1.heap[bx]? = some (.cells (pre ++ [Value.slice none 0 0] ++ post).toArray ty (0, 0)) → W.heap.size ≤ w1.heap.size → Fr (Ne3 g gr bx) W w1 → TkD prR (tkN prC (stE form (numR bs e).2.2 (numR bs e).2.1) y) w1 B0 g gr w2 A n cap st' → Q (w2.setCell ⟨bx, o, none⟩ (.slice A n cap)) from fun w1 w2 A n cap st' hb1 hsz hf hd => by
    have h2 : w2.heap[bx]? = some (.cells (pre ++ [Value.slice none 0 0] ++ post).toArray ty (0, 0)) := (hd.fr.block bx (lt_of_block hb1) ⟨hne, by omega⟩).trans hb1
    have hso := set_only w2 bx o (.slice A n cap)
    rw [hy] at hd
    refine hq _ st' [.slice A n cap] (hd.pi.stored hb hne _ _) ?_ ?_ (by rw [← hst]; exact row_stp hd hsz hso.size fun k hk hk2 => hso.block k hk2 fun e => by injection e with e; omega)
    · exact (hf.trans (hd.fr.sub fun i hi => ⟨hi.1, hi.2.1⟩)).trans (Fr.grown hso fun x e hx => hx.2.2 (by injection e with e; exact e.symm))
    · rw [set_row h2 o, ho, set_mid])
  unfold one2
  rw [← ho] at hx0 ⊢
  clear h hx hb hne hq hbl hgl hgr hst ho hy hv
  go_enter Try.func66, Try.ntmps66
  go_wp2_with (first
    | (go_at_call 35; (with_reducible refine HV.out.mono ?_); rintro r w1 ⟨rfl, h1, hn1, fr1⟩; obtain ⟨q1, q2, q3, q4⟩ := HX.out w1 h1 fr1; have q7 : w1.cell? ⟨W.heap.size, 0, none⟩ = some (.int .i64 y) := (by rw [(cell_row hn1 0).1]; rfl); (have HTK := Lib.hid (HT.out w1 h1)); (have HQ1 := Lib.hid q2); (have HQ2 := Lib.hid q3); (have HQ3 := Lib.hid q4); clear h1 fr1 hn1 q2 q3 q4)
    | (go_at_call 77; (with_reducible refine HTK.out.mono ?_); rintro r w2 ⟨A, n, cap, st', rfl, hd⟩; obtain ⟨q8, q9⟩ := HW.out w1 w2 HQ1.out hd.fr; (have HD := Lib.hid hd); clear hd))
  (try simp only [Exit.inBlock, Exit.then]); refine bodyPost_ret (results_none rfl _ _ _) rfl ?_
  exact ⟨rfl, HQ.out _ _ _ _ _ _ HQ1.out HQ2.out HQ3.out HD.out⟩
theorem inR_rows (hF : InS (one1 59) prR prC [.string ⟨#[]⟩, .string ⟨#[]⟩]) : InS (one2 58 59) (rrow prR) (Ks.row prC) [.slice none 0 0] := by
  refine ⟨rfl, fun {W B0 g gr bx o st pre post ty Q} hp ho hx hb hne hq => ?_⟩
  obtain ⟨form, e, bs, h, hst⟩ := hp
  subst ho
  have hbl := lt_of_block hx
  have hgl := lt_of_block h.box
  have hgr := h.lt
  have hx0 : W.cell? ⟨bx, pre.length, none⟩ = some (.slice none 0 0) := by rw [(cell_row hx _).1]; exact mid_at _ _ _
  obtain ⟨o, ho⟩ : ∃ o, o = pre.length := ⟨_, rfl⟩
  obtain ⟨y, hy⟩ : ∃ y, y = zagOf (numR bs e).1 := ⟨_, rfl⟩
  have hv := int_in (bx := W.heap.size) (o := 0) (h.later (Later.alloc W (.cells #[.int .i64 0] 3))) (heap_alloc_new W _) (by simp) (by have := h.size; omega) (by omega)
  rw [← hy] at hv
  have HV := Lib.hid hv
  have HT := Lib.hid (fun (w1 : World) (hp : PIx w1 B0 g gr form (numR bs e).2.2 (numR bs e).2.1) => taken_rows hF (n := y) hp (by rw [hy]; exact zag_bad form e bs))
  have HX := Lib.hid (show ∀ w1 : World, PIx w1 B0 g gr form (numR bs e).2.2 (numR bs e).2.1 → Fr (Ne3 g gr W.heap.size) (W.alloc (.cells #[.int .i64 0] 3)) w1 → w1.cell? ⟨g, 1, none⟩ = some (.pointer (some ⟨gr, 0, none⟩)) ∧ w1.heap[bx]? = some (.cells (pre ++ [Value.slice none 0 0] ++ post).toArray ty (0, 0)) ∧ W.heap.size ≤ w1.heap.size ∧ Fr (Ne3 g gr bx) W w1 from fun w1 h1 f => by
    have hl := Later.alloc W (.cells #[.int .i64 0] 3)
    have hs := f.size
    rw [World.size_alloc] at hs
    refine ⟨?_, (f.block bx (by rw [World.size_alloc]; omega) ⟨hne, by omega, by omega⟩).trans (later_cells hl hx), by omega, ⟨f.os.trans hl.os, f.tape.trans hl.tape, f.output.trans hl.output, Nat.le_trans hl.size f.size, fun k hk hn => (f.block k (by rw [World.size_alloc]; omega) ⟨hn.1, hn.2.1, by omega⟩).trans (hl.block k hk)⟩⟩
    rw [(cell_row h1.box 1).1]; rfl)
  have HW := Lib.hid (show ∀ w1 w2 : World, w1.heap[bx]? = some (.cells (pre ++ [Value.slice none 0 0] ++ post).toArray ty (0, 0)) → Fr (Ne2 g gr) w1 w2 → w2.cell? ⟨bx, o, none⟩ = some (.slice none 0 0) ∧ w2.frozen? ⟨bx, o, none⟩ = false from fun w1 w2 h1 f => by
    have h2 : w2.heap[bx]? = some (.cells (pre ++ [Value.slice none 0 0] ++ post).toArray ty (0, 0)) := (f.block bx (lt_of_block h1) ⟨hne, by omega⟩).trans h1
    refine ⟨?_, (cell_row h2 o).2⟩
    rw [(cell_row h2 o).1, ho]; exact mid_at _ _ _)
  have HQ := Lib.hid (show ∀ (w1 w2 : World) (A : Option Addr) (n cap : Nat) (st' : Except Nat B), w1.heap[bx]? = some (.cells (pre ++ [Value.slice none 0 0] ++ post).toArray ty (0, 0)) → W.heap.size ≤ w1.heap.size → Fr (Ne3 g gr bx) W w1 → TkD prR (tkN prC (stE form (numR bs e).2.2 (numR bs e).2.1) y) w1 B0 g gr w2 A n cap st' → Q (w2.setCell ⟨bx, o, none⟩ (.slice A n cap)) from fun w1 w2 A n cap st' hb1 hsz hf hd => by
    have h2 : w2.heap[bx]? = some (.cells (pre ++ [Value.slice none 0 0] ++ post).toArray ty (0, 0)) := (hd.fr.block bx (lt_of_block hb1) ⟨hne, by omega⟩).trans hb1
    have hso := set_only w2 bx o (.slice A n cap)
    rw [hy] at hd
    refine hq _ st' [.slice A n cap] (hd.pi.stored hb hne _ _) ?_ ?_ (by rw [← hst]; exact row_stp hd hsz hso.size fun k hk hk2 => hso.block k hk2 fun e => by injection e with e; omega)
    · exact (hf.trans (hd.fr.sub fun i hi => ⟨hi.1, hi.2.1⟩)).trans (Fr.grown hso fun x e hx => hx.2.2 (by injection e with e; exact e.symm))
    · rw [set_row h2 o, ho, set_mid])
  unfold one2
  rw [← ho] at hx0 ⊢
  clear h hx hb hne hq hbl hgl hgr hst ho hy hv
  go_enter Try.func58, Try.ntmps58
  go_wp2_with (first
    | (go_at_call 35; (with_reducible refine HV.out.mono ?_); rintro r w1 ⟨rfl, h1, hn1, fr1⟩; obtain ⟨q1, q2, q3, q4⟩ := HX.out w1 h1 fr1; have q7 : w1.cell? ⟨W.heap.size, 0, none⟩ = some (.int .i64 y) := (by rw [(cell_row hn1 0).1]; rfl); (have HTK := Lib.hid (HT.out w1 h1)); (have HQ1 := Lib.hid q2); (have HQ2 := Lib.hid q3); (have HQ3 := Lib.hid q4); clear h1 fr1 hn1 q2 q3 q4)
    | (go_at_call 75; (with_reducible refine HTK.out.mono ?_); rintro r w2 ⟨A, n, cap, st', rfl, hd⟩; obtain ⟨q8, q9⟩ := HW.out w1 w2 HQ1.out hd.fr; (have HD := Lib.hid hd); clear hd))
  (try simp only [Exit.inBlock, Exit.then]); refine bodyPost_ret (results_none rfl _ _ _) rfl ?_
  exact ⟨rfl, HQ.out _ _ _ _ _ _ HQ1.out HQ2.out HQ3.out HD.out⟩
theorem inR_fns (hF : InS (one1 46) fnR fnC [.string ⟨#[]⟩, .int .i64 0, .int .i64 0]) : InS (one2 45 46) (rrow fnR) (Ks.row fnC) [.slice none 0 0] := by
  refine ⟨rfl, fun {W B0 g gr bx o st pre post ty Q} hp ho hx hb hne hq => ?_⟩
  obtain ⟨form, e, bs, h, hst⟩ := hp
  subst ho
  have hbl := lt_of_block hx
  have hgl := lt_of_block h.box
  have hgr := h.lt
  have hx0 : W.cell? ⟨bx, pre.length, none⟩ = some (.slice none 0 0) := by rw [(cell_row hx _).1]; exact mid_at _ _ _
  obtain ⟨o, ho⟩ : ∃ o, o = pre.length := ⟨_, rfl⟩
  obtain ⟨y, hy⟩ : ∃ y, y = zagOf (numR bs e).1 := ⟨_, rfl⟩
  have hv := int_in (bx := W.heap.size) (o := 0) (h.later (Later.alloc W (.cells #[.int .i64 0] 3))) (heap_alloc_new W _) (by simp) (by have := h.size; omega) (by omega)
  rw [← hy] at hv
  have HV := Lib.hid hv
  have HT := Lib.hid (fun (w1 : World) (hp : PIx w1 B0 g gr form (numR bs e).2.2 (numR bs e).2.1) => taken_fns hF (n := y) hp (by rw [hy]; exact zag_bad form e bs))
  have HX := Lib.hid (show ∀ w1 : World, PIx w1 B0 g gr form (numR bs e).2.2 (numR bs e).2.1 → Fr (Ne3 g gr W.heap.size) (W.alloc (.cells #[.int .i64 0] 3)) w1 → w1.cell? ⟨g, 1, none⟩ = some (.pointer (some ⟨gr, 0, none⟩)) ∧ w1.heap[bx]? = some (.cells (pre ++ [Value.slice none 0 0] ++ post).toArray ty (0, 0)) ∧ W.heap.size ≤ w1.heap.size ∧ Fr (Ne3 g gr bx) W w1 from fun w1 h1 f => by
    have hl := Later.alloc W (.cells #[.int .i64 0] 3)
    have hs := f.size
    rw [World.size_alloc] at hs
    refine ⟨?_, (f.block bx (by rw [World.size_alloc]; omega) ⟨hne, by omega, by omega⟩).trans (later_cells hl hx), by omega, ⟨f.os.trans hl.os, f.tape.trans hl.tape, f.output.trans hl.output, Nat.le_trans hl.size f.size, fun k hk hn => (f.block k (by rw [World.size_alloc]; omega) ⟨hn.1, hn.2.1, by omega⟩).trans (hl.block k hk)⟩⟩
    rw [(cell_row h1.box 1).1]; rfl)
  have HW := Lib.hid (show ∀ w1 w2 : World, w1.heap[bx]? = some (.cells (pre ++ [Value.slice none 0 0] ++ post).toArray ty (0, 0)) → Fr (Ne2 g gr) w1 w2 → w2.cell? ⟨bx, o, none⟩ = some (.slice none 0 0) ∧ w2.frozen? ⟨bx, o, none⟩ = false from fun w1 w2 h1 f => by
    have h2 : w2.heap[bx]? = some (.cells (pre ++ [Value.slice none 0 0] ++ post).toArray ty (0, 0)) := (f.block bx (lt_of_block h1) ⟨hne, by omega⟩).trans h1
    refine ⟨?_, (cell_row h2 o).2⟩
    rw [(cell_row h2 o).1, ho]; exact mid_at _ _ _)
  have HQ := Lib.hid (show ∀ (w1 w2 : World) (A : Option Addr) (n cap : Nat) (st' : Except Nat B), w1.heap[bx]? = some (.cells (pre ++ [Value.slice none 0 0] ++ post).toArray ty (0, 0)) → W.heap.size ≤ w1.heap.size → Fr (Ne3 g gr bx) W w1 → TkD fnR (tkN fnC (stE form (numR bs e).2.2 (numR bs e).2.1) y) w1 B0 g gr w2 A n cap st' → Q (w2.setCell ⟨bx, o, none⟩ (.slice A n cap)) from fun w1 w2 A n cap st' hb1 hsz hf hd => by
    have h2 : w2.heap[bx]? = some (.cells (pre ++ [Value.slice none 0 0] ++ post).toArray ty (0, 0)) := (hd.fr.block bx (lt_of_block hb1) ⟨hne, by omega⟩).trans hb1
    have hso := set_only w2 bx o (.slice A n cap)
    rw [hy] at hd
    refine hq _ st' [.slice A n cap] (hd.pi.stored hb hne _ _) ?_ ?_ (by rw [← hst]; exact row_stp hd hsz hso.size fun k hk hk2 => hso.block k hk2 fun e => by injection e with e; omega)
    · exact (hf.trans (hd.fr.sub fun i hi => ⟨hi.1, hi.2.1⟩)).trans (Fr.grown hso fun x e hx => hx.2.2 (by injection e with e; exact e.symm))
    · rw [set_row h2 o, ho, set_mid])
  unfold one2
  rw [← ho] at hx0 ⊢
  clear h hx hb hne hq hbl hgl hgr hst ho hy hv
  go_enter Try.func45, Try.ntmps45
  go_wp2_with (first
    | (go_at_call 35; (with_reducible refine HV.out.mono ?_); rintro r w1 ⟨rfl, h1, hn1, fr1⟩; obtain ⟨q1, q2, q3, q4⟩ := HX.out w1 h1 fr1; have q7 : w1.cell? ⟨W.heap.size, 0, none⟩ = some (.int .i64 y) := (by rw [(cell_row hn1 0).1]; rfl); (have HTK := Lib.hid (HT.out w1 h1)); (have HQ1 := Lib.hid q2); (have HQ2 := Lib.hid q3); (have HQ3 := Lib.hid q4); clear h1 fr1 hn1 q2 q3 q4)
    | (go_at_call 68; (with_reducible refine HTK.out.mono ?_); rintro r w2 ⟨A, n, cap, st', rfl, hd⟩; obtain ⟨q8, q9⟩ := HW.out w1 w2 HQ1.out hd.fr; (have HD := Lib.hid hd); clear hd))
  (try simp only [Exit.inBlock, Exit.then]); refine bodyPost_ret (results_none rfl _ _ _) rfl ?_
  exact ⟨rfl, HQ.out _ _ _ _ _ _ HQ1.out HQ2.out HQ3.out HD.out⟩
theorem inR_traps (hF : InS (one1 48) tpR tpC [.int .i64 0, .string ⟨#[]⟩]) : InS (one2 47 48) (rrow tpR) (Ks.row tpC) [.slice none 0 0] := by
  refine ⟨rfl, fun {W B0 g gr bx o st pre post ty Q} hp ho hx hb hne hq => ?_⟩
  obtain ⟨form, e, bs, h, hst⟩ := hp
  subst ho
  have hbl := lt_of_block hx
  have hgl := lt_of_block h.box
  have hgr := h.lt
  have hx0 : W.cell? ⟨bx, pre.length, none⟩ = some (.slice none 0 0) := by rw [(cell_row hx _).1]; exact mid_at _ _ _
  obtain ⟨o, ho⟩ : ∃ o, o = pre.length := ⟨_, rfl⟩
  obtain ⟨y, hy⟩ : ∃ y, y = zagOf (numR bs e).1 := ⟨_, rfl⟩
  have hv := int_in (bx := W.heap.size) (o := 0) (h.later (Later.alloc W (.cells #[.int .i64 0] 3))) (heap_alloc_new W _) (by simp) (by have := h.size; omega) (by omega)
  rw [← hy] at hv
  have HV := Lib.hid hv
  have HT := Lib.hid (fun (w1 : World) (hp : PIx w1 B0 g gr form (numR bs e).2.2 (numR bs e).2.1) => taken_traps hF (n := y) hp (by rw [hy]; exact zag_bad form e bs))
  have HX := Lib.hid (show ∀ w1 : World, PIx w1 B0 g gr form (numR bs e).2.2 (numR bs e).2.1 → Fr (Ne3 g gr W.heap.size) (W.alloc (.cells #[.int .i64 0] 3)) w1 → w1.cell? ⟨g, 1, none⟩ = some (.pointer (some ⟨gr, 0, none⟩)) ∧ w1.heap[bx]? = some (.cells (pre ++ [Value.slice none 0 0] ++ post).toArray ty (0, 0)) ∧ W.heap.size ≤ w1.heap.size ∧ Fr (Ne3 g gr bx) W w1 from fun w1 h1 f => by
    have hl := Later.alloc W (.cells #[.int .i64 0] 3)
    have hs := f.size
    rw [World.size_alloc] at hs
    refine ⟨?_, (f.block bx (by rw [World.size_alloc]; omega) ⟨hne, by omega, by omega⟩).trans (later_cells hl hx), by omega, ⟨f.os.trans hl.os, f.tape.trans hl.tape, f.output.trans hl.output, Nat.le_trans hl.size f.size, fun k hk hn => (f.block k (by rw [World.size_alloc]; omega) ⟨hn.1, hn.2.1, by omega⟩).trans (hl.block k hk)⟩⟩
    rw [(cell_row h1.box 1).1]; rfl)
  have HW := Lib.hid (show ∀ w1 w2 : World, w1.heap[bx]? = some (.cells (pre ++ [Value.slice none 0 0] ++ post).toArray ty (0, 0)) → Fr (Ne2 g gr) w1 w2 → w2.cell? ⟨bx, o, none⟩ = some (.slice none 0 0) ∧ w2.frozen? ⟨bx, o, none⟩ = false from fun w1 w2 h1 f => by
    have h2 : w2.heap[bx]? = some (.cells (pre ++ [Value.slice none 0 0] ++ post).toArray ty (0, 0)) := (f.block bx (lt_of_block h1) ⟨hne, by omega⟩).trans h1
    refine ⟨?_, (cell_row h2 o).2⟩
    rw [(cell_row h2 o).1, ho]; exact mid_at _ _ _)
  have HQ := Lib.hid (show ∀ (w1 w2 : World) (A : Option Addr) (n cap : Nat) (st' : Except Nat B), w1.heap[bx]? = some (.cells (pre ++ [Value.slice none 0 0] ++ post).toArray ty (0, 0)) → W.heap.size ≤ w1.heap.size → Fr (Ne3 g gr bx) W w1 → TkD tpR (tkN tpC (stE form (numR bs e).2.2 (numR bs e).2.1) y) w1 B0 g gr w2 A n cap st' → Q (w2.setCell ⟨bx, o, none⟩ (.slice A n cap)) from fun w1 w2 A n cap st' hb1 hsz hf hd => by
    have h2 : w2.heap[bx]? = some (.cells (pre ++ [Value.slice none 0 0] ++ post).toArray ty (0, 0)) := (hd.fr.block bx (lt_of_block hb1) ⟨hne, by omega⟩).trans hb1
    have hso := set_only w2 bx o (.slice A n cap)
    rw [hy] at hd
    refine hq _ st' [.slice A n cap] (hd.pi.stored hb hne _ _) ?_ ?_ (by rw [← hst]; exact row_stp hd hsz hso.size fun k hk hk2 => hso.block k hk2 fun e => by injection e with e; omega)
    · exact (hf.trans (hd.fr.sub fun i hi => ⟨hi.1, hi.2.1⟩)).trans (Fr.grown hso fun x e hx => hx.2.2 (by injection e with e; exact e.symm))
    · rw [set_row h2 o, ho, set_mid])
  unfold one2
  rw [← ho] at hx0 ⊢
  clear h hx hb hne hq hbl hgl hgr hst ho hy hv
  go_enter Try.func47, Try.ntmps47
  go_wp2_with (first
    | (go_at_call 35; (with_reducible refine HV.out.mono ?_); rintro r w1 ⟨rfl, h1, hn1, fr1⟩; obtain ⟨q1, q2, q3, q4⟩ := HX.out w1 h1 fr1; have q7 : w1.cell? ⟨W.heap.size, 0, none⟩ = some (.int .i64 y) := (by rw [(cell_row hn1 0).1]; rfl); (have HTK := Lib.hid (HT.out w1 h1)); (have HQ1 := Lib.hid q2); (have HQ2 := Lib.hid q3); (have HQ3 := Lib.hid q4); clear h1 fr1 hn1 q2 q3 q4)
    | (go_at_call 69; (with_reducible refine HTK.out.mono ?_); rintro r w2 ⟨A, n, cap, st', rfl, hd⟩; obtain ⟨q8, q9⟩ := HW.out w1 w2 HQ1.out hd.fr; (have HD := Lib.hid hd); clear hd))
  (try simp only [Exit.inBlock, Exit.then]); refine bodyPost_ret (results_none rfl _ _ _) rfl ?_
  exact ⟨rfl, HQ.out _ _ _ _ _ _ HQ1.out HQ2.out HQ3.out HD.out⟩
theorem inR_fds (hF : InS (one1 50) fdR fdC [.int .i64 0, .int .i64 0]) : InS (one2 49 50) (rrow fdR) (Ks.row fdC) [.slice none 0 0] := by
  refine ⟨rfl, fun {W B0 g gr bx o st pre post ty Q} hp ho hx hb hne hq => ?_⟩
  obtain ⟨form, e, bs, h, hst⟩ := hp
  subst ho
  have hbl := lt_of_block hx
  have hgl := lt_of_block h.box
  have hgr := h.lt
  have hx0 : W.cell? ⟨bx, pre.length, none⟩ = some (.slice none 0 0) := by rw [(cell_row hx _).1]; exact mid_at _ _ _
  obtain ⟨o, ho⟩ : ∃ o, o = pre.length := ⟨_, rfl⟩
  obtain ⟨y, hy⟩ : ∃ y, y = zagOf (numR bs e).1 := ⟨_, rfl⟩
  have hv := int_in (bx := W.heap.size) (o := 0) (h.later (Later.alloc W (.cells #[.int .i64 0] 3))) (heap_alloc_new W _) (by simp) (by have := h.size; omega) (by omega)
  rw [← hy] at hv
  have HV := Lib.hid hv
  have HT := Lib.hid (fun (w1 : World) (hp : PIx w1 B0 g gr form (numR bs e).2.2 (numR bs e).2.1) => taken_fds hF (n := y) hp (by rw [hy]; exact zag_bad form e bs))
  have HX := Lib.hid (show ∀ w1 : World, PIx w1 B0 g gr form (numR bs e).2.2 (numR bs e).2.1 → Fr (Ne3 g gr W.heap.size) (W.alloc (.cells #[.int .i64 0] 3)) w1 → w1.cell? ⟨g, 1, none⟩ = some (.pointer (some ⟨gr, 0, none⟩)) ∧ w1.heap[bx]? = some (.cells (pre ++ [Value.slice none 0 0] ++ post).toArray ty (0, 0)) ∧ W.heap.size ≤ w1.heap.size ∧ Fr (Ne3 g gr bx) W w1 from fun w1 h1 f => by
    have hl := Later.alloc W (.cells #[.int .i64 0] 3)
    have hs := f.size
    rw [World.size_alloc] at hs
    refine ⟨?_, (f.block bx (by rw [World.size_alloc]; omega) ⟨hne, by omega, by omega⟩).trans (later_cells hl hx), by omega, ⟨f.os.trans hl.os, f.tape.trans hl.tape, f.output.trans hl.output, Nat.le_trans hl.size f.size, fun k hk hn => (f.block k (by rw [World.size_alloc]; omega) ⟨hn.1, hn.2.1, by omega⟩).trans (hl.block k hk)⟩⟩
    rw [(cell_row h1.box 1).1]; rfl)
  have HW := Lib.hid (show ∀ w1 w2 : World, w1.heap[bx]? = some (.cells (pre ++ [Value.slice none 0 0] ++ post).toArray ty (0, 0)) → Fr (Ne2 g gr) w1 w2 → w2.cell? ⟨bx, o, none⟩ = some (.slice none 0 0) ∧ w2.frozen? ⟨bx, o, none⟩ = false from fun w1 w2 h1 f => by
    have h2 : w2.heap[bx]? = some (.cells (pre ++ [Value.slice none 0 0] ++ post).toArray ty (0, 0)) := (f.block bx (lt_of_block h1) ⟨hne, by omega⟩).trans h1
    refine ⟨?_, (cell_row h2 o).2⟩
    rw [(cell_row h2 o).1, ho]; exact mid_at _ _ _)
  have HQ := Lib.hid (show ∀ (w1 w2 : World) (A : Option Addr) (n cap : Nat) (st' : Except Nat B), w1.heap[bx]? = some (.cells (pre ++ [Value.slice none 0 0] ++ post).toArray ty (0, 0)) → W.heap.size ≤ w1.heap.size → Fr (Ne3 g gr bx) W w1 → TkD fdR (tkN fdC (stE form (numR bs e).2.2 (numR bs e).2.1) y) w1 B0 g gr w2 A n cap st' → Q (w2.setCell ⟨bx, o, none⟩ (.slice A n cap)) from fun w1 w2 A n cap st' hb1 hsz hf hd => by
    have h2 : w2.heap[bx]? = some (.cells (pre ++ [Value.slice none 0 0] ++ post).toArray ty (0, 0)) := (hd.fr.block bx (lt_of_block hb1) ⟨hne, by omega⟩).trans hb1
    have hso := set_only w2 bx o (.slice A n cap)
    rw [hy] at hd
    refine hq _ st' [.slice A n cap] (hd.pi.stored hb hne _ _) ?_ ?_ (by rw [← hst]; exact row_stp hd hsz hso.size fun k hk hk2 => hso.block k hk2 fun e => by injection e with e; omega)
    · exact (hf.trans (hd.fr.sub fun i hi => ⟨hi.1, hi.2.1⟩)).trans (Fr.grown hso fun x e hx => hx.2.2 (by injection e with e; exact e.symm))
    · rw [set_row h2 o, ho, set_mid])
  unfold one2
  rw [← ho] at hx0 ⊢
  clear h hx hb hne hq hbl hgl hgr hst ho hy hv
  go_enter Try.func49, Try.ntmps49
  go_wp2_with (first
    | (go_at_call 35; (with_reducible refine HV.out.mono ?_); rintro r w1 ⟨rfl, h1, hn1, fr1⟩; obtain ⟨q1, q2, q3, q4⟩ := HX.out w1 h1 fr1; have q7 : w1.cell? ⟨W.heap.size, 0, none⟩ = some (.int .i64 y) := (by rw [(cell_row hn1 0).1]; rfl); (have HTK := Lib.hid (HT.out w1 h1)); (have HQ1 := Lib.hid q2); (have HQ2 := Lib.hid q3); (have HQ3 := Lib.hid q4); clear h1 fr1 hn1 q2 q3 q4)
    | (go_at_call 70; (with_reducible refine HTK.out.mono ?_); rintro r w2 ⟨A, n, cap, st', rfl, hd⟩; obtain ⟨q8, q9⟩ := HW.out w1 w2 HQ1.out hd.fr; (have HD := Lib.hid hd); clear hd))
  (try simp only [Exit.inBlock, Exit.then]); refine bodyPost_ret (results_none rfl _ _ _) rfl ?_
  exact ⟨rfl, HQ.out _ _ _ _ _ _ HQ1.out HQ2.out HQ3.out HD.out⟩
theorem inR_frames (hF : InS (one1 31) fmR fmC [.int .i64 0, .int .i64 0, .int .i64 0, .int .i64 0, .int .i64 0, .bool false, .int .i64 0, .int .i64 0, .string ⟨#[]⟩, .slice none 0 0, .slice none 0 0, .slice none 0 0, .slice none 0 0, .slice none 0 0, .int .i64 0, .string ⟨#[]⟩, .slice none 0 0, .slice none 0 0, .slice none 0 0]) : InS (one2 30 31) (rrow fmR) (Ks.row fmC) [.slice none 0 0] := by
  refine ⟨rfl, fun {W B0 g gr bx o st pre post ty Q} hp ho hx hb hne hq => ?_⟩
  obtain ⟨form, e, bs, h, hst⟩ := hp
  subst ho
  have hbl := lt_of_block hx
  have hgl := lt_of_block h.box
  have hgr := h.lt
  have hx0 : W.cell? ⟨bx, pre.length, none⟩ = some (.slice none 0 0) := by rw [(cell_row hx _).1]; exact mid_at _ _ _
  obtain ⟨o, ho⟩ : ∃ o, o = pre.length := ⟨_, rfl⟩
  obtain ⟨y, hy⟩ : ∃ y, y = zagOf (numR bs e).1 := ⟨_, rfl⟩
  have hv := int_in (bx := W.heap.size) (o := 0) (h.later (Later.alloc W (.cells #[.int .i64 0] 3))) (heap_alloc_new W _) (by simp) (by have := h.size; omega) (by omega)
  rw [← hy] at hv
  have HV := Lib.hid hv
  have HT := Lib.hid (fun (w1 : World) (hp : PIx w1 B0 g gr form (numR bs e).2.2 (numR bs e).2.1) => taken_frames hF (n := y) hp (by rw [hy]; exact zag_bad form e bs))
  have HX := Lib.hid (show ∀ w1 : World, PIx w1 B0 g gr form (numR bs e).2.2 (numR bs e).2.1 → Fr (Ne3 g gr W.heap.size) (W.alloc (.cells #[.int .i64 0] 3)) w1 → w1.cell? ⟨g, 1, none⟩ = some (.pointer (some ⟨gr, 0, none⟩)) ∧ w1.heap[bx]? = some (.cells (pre ++ [Value.slice none 0 0] ++ post).toArray ty (0, 0)) ∧ W.heap.size ≤ w1.heap.size ∧ Fr (Ne3 g gr bx) W w1 from fun w1 h1 f => by
    have hl := Later.alloc W (.cells #[.int .i64 0] 3)
    have hs := f.size
    rw [World.size_alloc] at hs
    refine ⟨?_, (f.block bx (by rw [World.size_alloc]; omega) ⟨hne, by omega, by omega⟩).trans (later_cells hl hx), by omega, ⟨f.os.trans hl.os, f.tape.trans hl.tape, f.output.trans hl.output, Nat.le_trans hl.size f.size, fun k hk hn => (f.block k (by rw [World.size_alloc]; omega) ⟨hn.1, hn.2.1, by omega⟩).trans (hl.block k hk)⟩⟩
    rw [(cell_row h1.box 1).1]; rfl)
  have HW := Lib.hid (show ∀ w1 w2 : World, w1.heap[bx]? = some (.cells (pre ++ [Value.slice none 0 0] ++ post).toArray ty (0, 0)) → Fr (Ne2 g gr) w1 w2 → w2.cell? ⟨bx, o, none⟩ = some (.slice none 0 0) ∧ w2.frozen? ⟨bx, o, none⟩ = false from fun w1 w2 h1 f => by
    have h2 : w2.heap[bx]? = some (.cells (pre ++ [Value.slice none 0 0] ++ post).toArray ty (0, 0)) := (f.block bx (lt_of_block h1) ⟨hne, by omega⟩).trans h1
    refine ⟨?_, (cell_row h2 o).2⟩
    rw [(cell_row h2 o).1, ho]; exact mid_at _ _ _)
  have HQ := Lib.hid (show ∀ (w1 w2 : World) (A : Option Addr) (n cap : Nat) (st' : Except Nat B), w1.heap[bx]? = some (.cells (pre ++ [Value.slice none 0 0] ++ post).toArray ty (0, 0)) → W.heap.size ≤ w1.heap.size → Fr (Ne3 g gr bx) W w1 → TkD fmR (tkN fmC (stE form (numR bs e).2.2 (numR bs e).2.1) y) w1 B0 g gr w2 A n cap st' → Q (w2.setCell ⟨bx, o, none⟩ (.slice A n cap)) from fun w1 w2 A n cap st' hb1 hsz hf hd => by
    have h2 : w2.heap[bx]? = some (.cells (pre ++ [Value.slice none 0 0] ++ post).toArray ty (0, 0)) := (hd.fr.block bx (lt_of_block hb1) ⟨hne, by omega⟩).trans hb1
    have hso := set_only w2 bx o (.slice A n cap)
    rw [hy] at hd
    refine hq _ st' [.slice A n cap] (hd.pi.stored hb hne _ _) ?_ ?_ (by rw [← hst]; exact row_stp hd hsz hso.size fun k hk hk2 => hso.block k hk2 fun e => by injection e with e; omega)
    · exact (hf.trans (hd.fr.sub fun i hi => ⟨hi.1, hi.2.1⟩)).trans (Fr.grown hso fun x e hx => hx.2.2 (by injection e with e; exact e.symm))
    · rw [set_row h2 o, ho, set_mid])
  unfold one2
  rw [← ho] at hx0 ⊢
  clear h hx hb hne hq hbl hgl hgr hst ho hy hv
  go_enter Try.func30, Try.ntmps30
  go_wp2_with (first
    | (go_at_call 35; (with_reducible refine HV.out.mono ?_); rintro r w1 ⟨rfl, h1, hn1, fr1⟩; obtain ⟨q1, q2, q3, q4⟩ := HX.out w1 h1 fr1; have q7 : w1.cell? ⟨W.heap.size, 0, none⟩ = some (.int .i64 y) := (by rw [(cell_row hn1 0).1]; rfl); (have HTK := Lib.hid (HT.out w1 h1)); (have HQ1 := Lib.hid q2); (have HQ2 := Lib.hid q3); (have HQ3 := Lib.hid q4); clear h1 fr1 hn1 q2 q3 q4)
    | (go_at_call 54; (with_reducible refine HTK.out.mono ?_); rintro r w2 ⟨A, n, cap, st', rfl, hd⟩; obtain ⟨q8, q9⟩ := HW.out w1 w2 HQ1.out hd.fr; (have HD := Lib.hid hd); clear hd))
  (try simp only [Exit.inBlock, Exit.then]); refine bodyPost_ret (results_none rfl _ _ _) rfl ?_
  exact ⟨rfl, HQ.out _ _ _ _ _ _ HQ1.out HQ2.out HQ3.out HD.out⟩
end Ks
end Go.Proofs.Yteljmlodbnfhbaa
