/- AppendSeq of a row's cells; Join. No premises. -/
import Derived.Test.YtghdimcdkjlpcaaJf
namespace Go.Proofs.Ytghdimcdkjlpcaa
open Go.RowKit Go.Maps Go.Shelf
attribute [local go_sem] Oper.semAt_some
namespace Jo
open Bu
/-- AppendSeq under way. -/
structure App (w0 : World) (base : Nat) (r : Rng) (st : LoopState) (lb b : Nat) (t m : L) (v0 : Value) (W : World) (v : Value) (z : Rw) : Prop where
  fr : Fr (fun k => v0.ownBlock ≠ some k) w0 W
  mv : Moved w0 v0 v
  at1 : r.At st none W
  lge : w0.heap.size ≤ lb
  dge : w0.heap.size ≤ r.D
  box : W.heap[lb]? = some (.cells #[v] 48 (0, 0))
  own : W.ownsRow base 51 2 v z.length (cs z)
  bx : RBox W b t m
section
variable {w0 W W' : World} {base : Nat} {r : Rng} {st st' : LoopState} {lb b : Nat} {t m : L} {v0 v : Value} {z : Rw}
theorem App.later (h : App w0 base r st lb b t m v0 W v z) (hl : Later W W') : App w0 base r st lb b t m v0 W' v z :=
  ⟨h.fr.thenLater hl, h.mv, ⟨later_cells hl h.at1.1, later_cells hl h.at1.2⟩, h.lge, h.dge, later_cells hl h.box, own_below h.own hl, later_cells hl h.bx⟩
theorem App.turn (h : App w0 base r st lb b t m v0 W v z) (ht : r.Turn W W') (h2 : r.At st' none W') : App w0 base r st' lb b t m v0 W' v z := by
  have hf : Fr (fun k => k ≠ r.D + 1) W W' := Fr.grown ht.grown fun x e hx => by injection e with e; exact hx e.symm
  have ob : ∀ {k : Nat} {c : Array Value} {ty : TypeId}, W.heap[k]? = some (.cells c ty (0, 0)) → k ≠ r.D + 1 := fun hk => ne_obj hk h.at1.1 (by simp)
  refine ⟨h.fr.new ht.grown (by have := h.dge; omega), h.mv, h2, h.lge, h.dge, hf.cells h.box (ob h.box), hf.row h.own (fun i e => ?_), hf.cells h.bx (ob h.bx)⟩
  obtain ⟨cs, hc⟩ := own_type h.own e; exact ob hc
/-- The row has grown, and is stored. -/
theorem App.push {p : C2} {w1 : World} {v' : Value} (h : App w0 base r st lb b t m v0 W v z) (hg : GrewK W w1 base 51 2 v v' (z.length + 1) (cs z ++ [bv p.1, bv p.2])) :
    App w0 base r st lb b t m v0 (w1.setCell ⟨lb, 0, none⟩ v') v' (z ++ [p]) ∧ w1.heap[lb]? = some (.cells #[v] 48 (0, 0)) := by
  have f1 : Fr (fun k => k ≠ lb ∧ v.ownBlock ≠ some k) W w1 := Fr.grown hg.grown fun x e hx => hx.2 e
  have f2 : Fr (fun k => k ≠ lb ∧ v.ownBlock ≠ some k) w1 (w1.setCell ⟨lb, 0, none⟩ v') := Fr.grown (set_only _ _ _ _) fun x e hx => by injection e with e; exact hx.1 e.symm
  have hf := f1.trans f2
  have hb1 : w1.heap[lb]? = some (.cells #[v] 48 (0, 0)) := (hg.grown.block lb (lt_of_block h.box) (fun e => ne_type h.own h.box (by decide) e.symm)).trans h.box
  have hne : v'.ownBlock ≠ some lb := ne_type hg.own hb1 (by decide)
  have ob : ∀ {k : Nat} {o : Obj}, W.heap[k]? = some o → (∀ c f, o ≠ .cells c 51 f) → (o ≠ .cells #[v] 48 (0, 0)) → k ≠ lb ∧ v.ownBlock ≠ some k := fun hk h1 h2 => ⟨ne_obj hk h.box h2, ne_own h.own hk h1⟩
  have f0 : Fr (fun k => v0.ownBlock ≠ some k) w0 w1 := by
    refine ⟨hg.grown.os.trans h.fr.os, hg.grown.tape.trans h.fr.tape, hg.grown.output.trans h.fr.output, Nat.le_trans h.fr.size hg.grown.size, fun k hk hx => ?_⟩
    refine (hg.grown.block k (Nat.lt_of_lt_of_le hk h.fr.size) fun e => ?_).trans (h.fr.block k hk hx)
    rcases h.mv with e1 | ⟨j, e1, hj⟩
    · exact hx (by rw [← e1, ← e])
    · rw [← e] at e1; injection e1 with e1; omega
  refine ⟨⟨f0.new (set_only _ _ _ _) h.lge, ?_, ⟨hf.cells h.at1.1 (ob h.at1.1 (fun c f => by simp) (by simp)), hf.cells h.at1.2 (ob h.at1.2 (fun c f => by simp) (by simp))⟩, h.lge, h.dge, set_row hb1 0 v', ?_, hf.cells h.bx (ob h.bx (fun c f => by simp) (by simp))⟩, hb1⟩
  · rcases hg.moved with e | ⟨k, e, hk⟩
    · rcases h.mv with e1 | ⟨j, e1, hj⟩
      · exact .inl (e.trans e1)
      · exact .inr ⟨j, e.trans e1, hj⟩
    · exact .inr ⟨k, e, Nat.le_trans h.fr.size hk⟩
  · have := hg.own.kept (set_only w1 lb 0 v') (.inr hne)
    rw [cs_app, List.length_append]
    exact this
end
set_option maxRecDepth 100000 in
set_option maxHeartbeats 6400000 in
theorem appendSeq_v (t m : L) (base b : Nat) (v : Value) (z0 : Rw) (w : World) (ht0 : t.length ≤ 9223372036854775807) (hlen : z0.length + (t.zip m).length ≤ 1000000) (hown : w.ownsRow base 51 2 v z0.length (cs z0)) (hbx : RBox w b t m) (hbase : base ≤ w.heap.size) :
    Calls Try.prog 21 #[v, .func (.func 31) #[] #[.pointer (some ⟨b, 0, none⟩)]] w fun e w' => ∃ v', e = .returned v' ∧ w'.ownsRow base 51 2 v' (z0 ++ t.zip m).length (cs (z0 ++ t.zip m)) ∧ Fr (fun k => v.ownBlock ≠ some k) w w' ∧ Moved w v v' := by
  obtain ⟨i0, hi, hz0, hz1, hz2⟩ := info_parts info_cell
  obtain ⟨A0, c0, rfl, _⟩ := own_any hown
  refine (callsIn_wide (n := 5)).1 ?_
  refine callsIn_of_wp_marks Try.func21 rfl trivial ?_ rfl
  simp only [Try.ntmps21, List.size_toArray, List.length_cons, List.length_nil, Nat.reduceAdd, Nat.reduceSub, Array.replicate_succ, Array.replicate_zero, List.push_toArray, List.append_toArray, List.nil_append, List.cons_append]
  gi_wp2
  obtain ⟨o1, ho1⟩ : ∃ o : Obj, o = .cells #[.slice A0 z0.length c0] 48 := ⟨_, rfl⟩
  rw [← ho1]
  have hl1 := Later.alloc w o1
  have hn1 := heap_alloc_new w o1
  have hz1' : (w.alloc o1).heap.size = w.heap.size + 1 := World.size_alloc ..
  obtain ⟨Wc, hWc⟩ : ∃ Wc, Wc = w.alloc o1 := ⟨_, rfl⟩
  rw [← hWc] at hl1 hn1 hz1' ⊢
  rw [ho1] at hn1
  clear hWc ho1
  refine wpIn_rangeFunc_at2 rfl (by omega) (gf := 31) (lb := #[.pointer (some ⟨b, 0, none⟩)]) rfl trivial (enters_of Try.func31 (by kernel_rfl) rfl) ?_
  intro fn hfn r hrr W1 hat hb1 hz9
  have hD : r.D = w.heap.size + 1 := by rw [hrr, ← hz1']
  have hps : r.ps = #[7] := by rw [hrr]
  have hl2 : Later Wc W1 := hb1
  have hl := hl1.trans hl2
  have h0 : ∃ v', App w base r .ready w.heap.size b t m (.slice A0 z0.length c0) W1 v' (z0 ++ (t.zip m).take 0) := by
    refine ⟨.slice A0 z0.length c0, ?_⟩
    rw [List.take_zero, List.append_nil]
    exact ⟨Fr.later hl, .inl rfl, hat, Nat.le_refl _, by omega, later_cells hl2 hn1, own_below hown hl, later_cells hl hbx⟩
  refine CallsIn.mono (cells_it (r.D + 1) b t m ht0 (fun i W' => ∃ v', App w base r .ready w.heap.size b t m (.slice A0 z0.length c0) W' v' (z0 ++ (t.zip m).take i)) (fun i W' ⟨_, h⟩ => h.bx) (fun i W' ⟨v', h⟩ => ⟨v', h.later (Later.drew _)⟩) ?hround W1 h0) ?done
  case hround =>
    rintro i hi' Wr ⟨v', hA⟩
    obtain ⟨p, hp⟩ : ∃ p, p = (t.zip m)[i] := ⟨_, rfl⟩
    rw [← hp]
    have HTK := Lib.hid (show z0 ++ (t.zip m).take (i + 1) = (z0 ++ (t.zip m).take i) ++ [p] by rw [List.take_succ_eq_append_getElem hi', hp, List.append_assoc])
    obtain ⟨z, hz⟩ : ∃ z, z = z0 ++ (t.zip m).take i := ⟨_, rfl⟩
    have HZL := Lib.hid (show z.length ≤ 1000000 by rw [hz, List.length_append, List.length_take]; omega)
    rw [← hz] at hA HTK
    refine Rng.yield hA.at1 hfn (by rw [hps]; rfl) ?_
    have e1 := congrArg Rng.assign hrr
    have e2 := congrArg Rng.body hrr
    have e3 := congrArg Rng.tmps hrr
    dsimp only at e1 e2 e3
    rw [e1, e2, e3, hps]
    obtain ⟨o, ho⟩ : ∃ o : Obj, o = .cells #[.int .u8 (p.1.toNat : Int), .int .u8 (p.2.toNat : Int)] 51 := ⟨_, rfl⟩
    have hlo := Later.alloc Wr o
    have HIA := Lib.hid (hA.later hlo)
    have HNW := Lib.hid (heap_alloc_new Wr o)
    rw [ho] at HIA HNW
    have hWl := hA.at1.lt
    have HD := Lib.hid hD
    obtain ⟨lb, hlb⟩ : ∃ lb, lb = w.heap.size := ⟨_, rfl⟩
    rw [← hlb] at HIA ⊢
    have hlbl : lb < Wr.heap.size := by rw [hlb]; exact lt_of_block hA.box

    have HBA := Lib.hid (show base ≤ Wr.heap.size by have := hA.fr.size; omega)
    clear e1 e2 e3 hps hrr hat hb1 h0 hlo ho hz9 hz1' hl1 hl2 hl hn1 hown hbx hA hp hz hD hi' hlen hbase hlb
    simp only [cl, bv, List.zip_toArray, List.zip_cons_cons, List.zip_nil_right, List.foldl_toArray', List.foldl_cons, List.foldl_nil, List.size_toArray, List.setIfInBounds_toArray, List.set_cons_succ, List.set_cons_zero]
    gi_wp2
    refine ⟨HIA.out.at1, ?_⟩
    have hsa : (Wr.alloc (.cells #[.int .u8 (p.1.toNat : Int), .int .u8 (p.2.toNat : Int)] 51)).heap.size = Wr.heap.size + 1 := World.size_alloc ..
    generalize Wr.alloc (.cells #[.int .u8 (p.1.toNat : Int), .int .u8 (p.2.toNat : Int)] 51) = Wa at HIA HNW hsa
    intro w1 ht2 hat2
    have hO := HIA.out.turn ht2 hat2
    have HOO := Lib.hid hO
    have hnw := (ht2.grown.block _ (lt_of_block HNW.out) (fun e => by injection e with e; omega)).trans HNW.out
    have HLD := Lib.hid (loadBx hnw)
    have f0 : w1.cell? ⟨Wr.heap.size, 0, none⟩ = some (.int .u8 (p.1.toNat : Int)) := (cell_row hnw 0).1
    have f1 : w1.cell? ⟨Wr.heap.size, 1, none⟩ = some (.int .u8 (p.2.toNat : Int)) := (cell_row hnw 1).1
    have b0 : w1.cell? ⟨lb, 0, none⟩ = some v' := (cell_row hO.box 0).1
    have hba : base ≤ w1.heap.size := by have := HBA.out; have := ht2.size; omega
    clear ht2 hat2 hO hnw hsa
    gi_wp2_with (gi_at_builtin; refine wpListIn_appK w1 #[.int .u8 (p.1.toNat : Int), .int .u8 (p.2.toNat : Int)] 2 (by omega) rfl (by intro u hu; simp at hu; rcases hu with rfl | rfl <;> rfl) rfl (.tmp 8) (.tmp 10) 48 51 rfl i0 _ 2 Try.underlying48 hi hz0 hz1 hz2 rfl base v' z.length (cs z) rfl HOO.out.own _ rfl rfl (by have := HZL.out; omega) (by have := HZL.out; omega) hba ?_; intro v2 w3 hg3; obtain ⟨A9, c9, hv9, _⟩ := own_any hg3.own; subst hv9; obtain ⟨hp1, hp3⟩ := HOO.out.push (p := p) hg3; (have k0 : w3.cell? ⟨lb, 0, none⟩ = some v' := (cell_row hp3 0).1); (have kz : w3.frozen? ⟨lb, 0, none⟩ = false := (cell_row hp3 0).2); (have HP1 := Lib.hid hp1); clear hg3 hp1 hp3)
    refine ⟨HP1.out.at1, fun w' ht h2 => ⟨rfl, .slice A9 (z.length + 1) c9, ?_⟩⟩
    rw [HTK.out]
    exact HP1.out.turn ht h2
  case done =>
    rintro e W2 ⟨⟨v0, rfl⟩, v', hA⟩
    rw [List.take_of_length_le (Nat.le_refl _)] at hA
    refine ⟨⟨_, rfl⟩, .ready, none, hA.at1, by simp, fun W3 ht hX => ?_⟩
    have hO := hA.turn ht hX
    have HOO := Lib.hid hO
    have b0 : W3.cell? ⟨w.heap.size, 0, none⟩ = some v' := (cell_row hO.box 0).1
    clear hO hA ht hX hrr hps hat hb1 h0 hz9 hz1' hl1 hl2 hl hn1 hown hbx hD
    dsimp only
    gi_wp2
    have hO := HOO.out
    have hK := hO.at1.2
    refine ⟨by simp, .inl ⟨_, _, rfl, run_takeDeferred hK, ?_⟩⟩
    refine ⟨_, results_tmp rfl _ _ _, v', rfl, ?_⟩
    have hg := grownBy_putObj' W3 r.D (.deferred none)
    have hne : v'.ownBlock ≠ some r.D := ne_own hO.own hK (fun c f => by simp)
    exact ⟨hO.own.kept hg (.inr hne), hO.fr.new hg hO.dge, hO.mv⟩
end Jo
end Go.Proofs.Ytghdimcdkjlpcaa
