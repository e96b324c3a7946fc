/- frame's Scan: what it tells of any bytes. -/
import Derived.Test.YtokcgbfncinilaaScn
namespace Go.Proofs.Ytokcgbfncinilaa
open Go.RowKit Go.Shelf
attribute [local go_sem] Oper.semAt_some
theorem info_sl : (Try.prog.info? 26).map (fun i => (i.zero, i.size, i.bytes)) = some (some (.slice none 0 0), 1, 24) := by kernel_rfl
set_option maxRecDepth 100000 in
theorem sc_start (w : World) (A : Option Addr) (n cap : Nat) :
    Sc w ((((((w.alloc (.cells #[.slice none 0 0] 22)).alloc (.cells #[.int .i64 0] 3)).alloc (.cells #[.int .i64 0] 30)).alloc (.cells #[.slice none 0 0] 22)).alloc (.cells #[.int .i64 0] 3)).alloc (.cells #[.slice A n cap] 26)) (.slice none 0 0) [] [] 0 (.slice A n cap) := by
  have s : ∀ (W : World) (o : Obj) (k : Nat), W.heap.size = k → (W.alloc o).heap.size = k + 1 := fun W o k h => by rw [World.size_alloc, h]
  have b : ∀ (W : World) (t : TypeId) (u : Value) (k : Nat), W.heap.size = k → Boxed (W.alloc (.cells #[u] t)) k t u := fun W t u k h => by subst h; exact Boxed.new W t u
  have s1 := s w (.cells #[.slice none 0 0] 22) _ rfl
  have s2 := s _ (.cells #[.int .i64 0] 3) _ s1
  have s3 := s _ (.cells #[.int .i64 0] 30) _ s2
  have s4 := s _ (.cells #[.slice none 0 0] 22) _ s3
  have s5 := s _ (.cells #[.int .i64 0] 3) _ s4
  refine ⟨?_, ((((((b w _ _ _ rfl).alloc _).alloc _).alloc _).alloc _).alloc _), (((((b _ _ _ _ s1).alloc _).alloc _).alloc _).alloc _), ((((b _ _ _ _ s2).alloc _).alloc _).alloc _), (((b _ _ _ _ s3).alloc _).alloc _), ((b _ _ _ _ s4).alloc _), b _ _ _ _ s5, Mat.nil _ _⟩
  exact ((((((Below.refl _ w).alloc (Nat.le_refl _) _).alloc (by rw [s1]; omega) _).alloc (by rw [s2]; omega) _).alloc (by rw [s3]; omega) _).alloc (by rw [s4]; omega) _).alloc (by rw [s5]; omega) _
theorem Fin.drew {w W : World} {v : Value} {rs : List Value} {ds : List (List UInt8)} {m er : Nat} (h : Fin w W v rs ds m er) : Fin w W.drew v rs ds m er := ⟨h.bel.drew, h.c2, h.c3, h.c4, h.mat.same fun _ _ _ _ hg => hg⟩
/-- The block for the rounds' deferred calls is shut. -/
theorem Fin.shut {w W : World} {v : Value} {rs : List Value} {ds : List (List UInt8)} {m er D : Nat} {x : Option (List Deferred)} (h : Fin w W v rs ds m er) (hK : W.heap[D]? = some (.deferred x)) (hD : w.heap.size ≤ D) : Fin w (W.putObj D (.deferred none)) v rs ds m er := by
  have hg := grownBy_putObj' W D (.deferred none)
  have kp : ∀ {B : Nat} {t : TypeId} {u : Value}, Boxed W B t u → Boxed (W.putObj D (.deferred none)) B t u := fun hb => hb.kept hg fun e => by
    injection e with e; subst e; rw [show W.heap[_]? = _ from hb] at hK; cases hK
  refine ⟨h.bel.grown hg h.bel.size fun k e => by injection e with e; omega, kp h.c2, kp h.c3, kp h.c4, h.mat.same fun g cur e _ hgc => (World.putObj_heap_other fun e' => ?_).trans hgc⟩
  subst e'; rw [hgc] at hK; cases hK
theorem Mat.mono {W : World} {base base' : Nat} {v : Value} {rs : List Value} {ls : List (List UInt8)} (h : Mat W base v rs ls) (hb : base' ≤ base) : Mat W base' v rs ls := ⟨h.own.mono hb, h.len, fun j hj r hr => (h.row j hj r hr).mono hb, h.apart⟩
/-- What the walk wants behind 'rows = append(rows, t.row)'. -/
theorem push_facts {w W2 w3 : World} {v v' rv src : Value} {rs : List Value} {ds : List (List UInt8)} {m tb : Nat} {row : List UInt8} {sz : Int} {ty : TypeId} (h : Sc w W2 v rs ds m src) (hr : W2.ownsRow (w.heap.size + 6) 5 1 rv row.length (row.map bv))
    (hap : ∀ (i : Nat) ri, rs[i]? = some ri → Apart ri rv) (hn : W2.heap[tb]? = some (.cells #[rv, .int .i64 sz] ty (0, 0))) (hlo : ∀ k, v.ownBlock = some k → k < tb)
    (hg : Grew (W2.alloc (.cells #[rv] 26)) w3 (w.heap.size + 6) 26 v v' (rs ++ [rv])) :
    ∃ g' cap', v' = .slice (some ⟨g', 0, none⟩) (rs.length + 1) cap' ∧ w3.cell? ⟨w.heap.size + 1 + 1 + 1, 0, none⟩ = some v ∧ w3.frozen? ⟨w.heap.size + 1 + 1 + 1, 0, none⟩ = false ∧ w3.cell? ⟨w.heap.size + 1 + 1 + 1 + 1, 0, none⟩ = some (.int .i64 (m : Int)) ∧ w3.frozen? ⟨w.heap.size + 1 + 1 + 1 + 1, 0, none⟩ = false ∧
      w3.cell? ⟨tb, 1, none⟩ = some (.int .i64 sz) ∧ Sc w (w3.setCell ⟨w.heap.size + 1 + 1 + 1, 0, none⟩ v') v' (rs ++ [rv]) (ds ++ [row]) m src ∧ KeepsOthers W2 w3 := by
  have htb := (Array.getElem?_eq_some_iff.1 hn).1
  obtain ⟨g', cap', rfl⟩ := ownsRow_succ (k := rs.length) (by have := hg.own; rw [List.length_append, List.length_singleton] at this; exact this)
  have hp := (h.below ((Below.refl _ W2).alloc (Nat.le_refl _) (.cells #[rv] 26))).push (hr.alloc _) hap hg
  have hn3 : w3.heap[tb]? = some (.cells #[rv, .int .i64 sz] ty (0, 0)) := (hg.grown.block _ (by rw [World.size_alloc]; omega) (fun e => by have := hlo _ e.symm; omega)).trans ((Below.heap_alloc W2 _ _ htb).trans hn)
  exact ⟨g', cap', rfl, hp.1.cell, hp.1.frozen, hp.2.1.cell, hp.2.1.frozen, by simp [World.cell?, hn3], hp.2.2.1, (KeepsOthers.alloc W2 _).trans hp.2.2.2⟩
set_option maxRecDepth 100000 in
set_option maxHeartbeats 2000000 in
theorem scan_w (res : List (List UInt8) × Nat × Nat) (A : Option Addr) (n cap B : Nat) (bs : List UInt8) (w : World) (hr : Rd w B A n (bs.map bv)) (hB : B ≤ w.heap.size) (hn : n ≤ 1000000000000) (hc : n ≤ cap) (hcm : cap ≤ maxLen) (hres : scanF n bs = res) :
    Calls Try.prog 10 #[.slice A n cap] w fun e w' => ∃ v rs, e = .returned (.tuple #[v, .int .i64 (res.2.1 : Int), .int .i64 (res.2.2 : Int)]) ∧ Below w.heap.size w w' ∧ Mat w' w.heap.size v rs res.1 := by
  obtain ⟨i0, hi, hz0, hz1, hz2⟩ := info_parts info_sl
  refine (callsIn_wide (n := 5)).1 ?_
  refine callsIn_of_wp_marks Try.func10 rfl trivial ?_ rfl
  simp only [Try.ntmps10, List.size_toArray, List.length_cons, List.length_nil, Nat.reduceAdd, Nat.reduceSub, Array.replicate_succ, Array.replicate_zero, List.push_toArray, List.append_toArray, List.nil_append, List.cons_append]
  have HR := Lib.hid hr
  clear hr
  gi_wp2_with (refine ⟨trivial, ?_⟩; gi_at_call 13; refine (callsIn_wide.2 (frames_v A n cap _)).mono ?_; rintro e w' ⟨rfl, rfl⟩)
  have HS := sc_start w A n cap
  obtain ⟨W0, hW0⟩ : ∃ W0, ((((((w.alloc (.cells #[.slice none 0 0] 22)).alloc (.cells #[.int .i64 0] 3)).alloc (.cells #[.int .i64 0] 30)).alloc (.cells #[.slice none 0 0] 22)).alloc (.cells #[.int .i64 0] 3)).alloc (.cells #[.slice A n cap] 26)) = W0 := ⟨_, rfl⟩
  have hz : W0.heap.size = w.heap.size + 6 := by rw [← hW0]; simp
  rw [hW0] at HS ⊢
  clear hW0
  have HSC := Lib.hid HS
  clear HS
  refine wpIn_rangeFunc_at rfl (by omega) (gf := 20) (lb := #[.pointer (some ⟨w.heap.size + 1 + 1 + 1 + 1 + 1, 0, none⟩)]) rfl trivial (enters_of Try.func20 (by kernel_rfl) rfl) ?_
  intro fn hfn r hrr W1 hat hb1 hs1
  have hD : r.D = w.heap.size + 6 := by rw [hrr, ← hz]
  have hps : r.ps = #[11, 12] := by rw [hrr]
  have HRR := Lib.hid hrr
  have hlen := HR.out.len
  refine CallsIn.mono (iter_v w r (by omega) B n cap bs hB hlen hn hcm ?hround W1 A hat (HSC.out.below hb1) (HR.out.below ((HSC.out.bel.mono hB).trans (hb1.mono (Nat.le_trans hB (by omega))))) hc) ?done
  case hround =>
    intro W v rs ds m src rv row sz er hatW hscW hrow hap hmsz hrsn
    refine Rng.yield hatW hfn (by rw [hps]; rfl) ?_
    have e1 := congrArg Rng.assign hrr
    have e2 := congrArg Rng.body hrr
    have e3 := congrArg Rng.tmps hrr
    dsimp only at e1 e2 e3
    rw [e1, e2, e3, hps]
    obtain ⟨Av, cv, rfl, hv1, hv2, hv3⟩ := own_map (f := bv) (xs := row) (by rw [List.length_map]; exact hrow)
    clear hv1 hv2 hv3
    have HATW := Lib.hid hatW
    have HSCW := Lib.hid hscW
    have HROW := Lib.hid hrow
    have HAP := Lib.hid hap
    clear e1 e2 e3 hps hrr hatW hscW hrow hap hat hb1
    simp only [List.zip_toArray, List.zip_cons_cons, List.zip_nil_right, List.foldl_toArray', List.foldl_cons, List.foldl_nil, List.size_toArray, List.setIfInBounds_toArray, List.set_cons_succ, List.set_cons_zero]
    gi_wp2
    have HAT2 := HATW.out.keep (KeepsOthers.alloc W (.cells #[.slice Av row.length cv, .int .i64 (sz : Int)] 43))
    have HSA := Lib.hid (HSCW.out.below ((Below.refl _ W).alloc (Nat.le_refl _) (.cells #[.slice Av row.length cv, .int .i64 (sz : Int)] 43)))
    have HRA := Lib.hid (HROW.out.alloc (.cells #[.slice Av row.length cv, .int .i64 (sz : Int)] 43))
    have hnew := World.alloc_heap_new W (.cells #[.slice Av row.length cv, .int .i64 (sz : Int)] 43)
    refine ⟨HAT2, ?_⟩
    generalize W.alloc (.cells #[.slice Av row.length cv, .int .i64 (sz : Int)] 43) = Wa at HAT2 HSA HRA hnew
    intro W2 ht2 hat2
    have hDl := hat2.lt
    have HS2 := Lib.hid (HSA.out.turn ht2 (by omega))
    have HR2 := Lib.hid (ht2.own HRA.out)
    have hWl := HATW.out.lt
    have hnew2 : W2.heap[W.heap.size]? = some (.cells #[.slice Av row.length cv, .int .i64 (sz : Int)] 43 (0, 0)) := (ht2.grown.block _ (Array.getElem?_eq_some_iff.1 hnew).1 (fun e => by injection e with e; omega)).trans hnew
    have ht0 : W2.cell? ⟨W.heap.size, 0, none⟩ = some (.slice Av row.length cv) := by simp [World.cell?, hnew2]
    have ht1 : W2.cell? ⟨W.heap.size, 1, none⟩ = some (.int .i64 (sz : Int)) := by simp [World.cell?, hnew2]
    have hb5 := HS2.out.c5.cell
    have hb6 := HS2.out.c6.cell
    have HNEW := Lib.hid hnew2
    have HAT3 := Lib.hid hat2
    have hlo : ∀ k, v.ownBlock = some k → k < W.heap.size := fun k hk => (HSCW.out.mat.own.lt k hk).2
    have HLO := Lib.hid hlo
    obtain ⟨A5, c5, rfl, hv1, hv2, hv3⟩ := own_slice HS2.out.mat.own
    clear hv1 hv2 hv3 hlo hat2 hnew hnew2 HAT2 ht2
    by_cases he0 : er = 0
    · subst he0
      gi_wp2_with (gi_at_builtin; refine wpListIn_appN _ rfl (.tmp 18) (.tmp 21) _ rfl (w.heap.size + 6) 26 i0 (.slice none 0 0) 24 Try.underlying22 hi hz0 hz1 hz2 rfl (.slice A5 rs.length c5) rs rfl (HS2.out.mat.own.alloc _) (W2.heap.size + 1) (some ⟨W2.heap.size, 0, none⟩) 1 1 [.slice Av row.length cv] rfl (Rd.lit W2 26 [.slice Av row.length cv]) (by simp [Value.oneCell']) (by omega) (by omega) (by simp; omega) ?_; intro v' w3 hg3; obtain ⟨g', cap', rfl, hb53, hf53, hb63, hf63, ht13, hp1, hp2⟩ := push_facts (row := row) HS2.out HR2.out HAP.out HNEW.out HLO.out hg3; have HP1 := Lib.hid hp1; have HP2 := Lib.hid hp2; clear hp1 hp2 hg3)
      have hS := HP1.out.setN (m + sz)
      rw [show ((m + sz : Nat) : Int) = (m : Int) + (sz : Int) from by omega] at hS
      exact ⟨HAT3.out.keep ((HP2.out.trans (KeepsOthers.setCell _ _ _)).trans (KeepsOthers.setCell _ _ _)), fun W' ht hat' => ⟨rfl, hat', _, hS.turn ht (by omega)⟩⟩
    · have hen : ((er : Int) != 0) = true := by simp; exact he0
      have hb2 := HS2.out.c2.cell
      have hf2 := HS2.out.c2.frozen
      have hb3 := HS2.out.c3.cell
      have hf3 := HS2.out.c3.frozen
      have hb4 := HS2.out.c4.cell
      have hf4 := HS2.out.c4.frozen
      have hmx : Try.prog.follows .mixedOrders = true := by kernel_rfl
      have HF := Lib.hid (HS2.out.fin er)
      gi_wp2
      gi_region_o
      all_goals gi_wp2
      all_goals exact ⟨(HAT3.out.keep (((KeepsOthers.setCell _ _ _).trans (KeepsOthers.setCell _ _ _)).trans (KeepsOthers.setCell _ _ _))).keep (KeepsOthers.drew _), fun W' ht hat' => .inr ⟨he0, rfl, hat', HF.out.drew.turn ht (by omega)⟩⟩
  case done =>
    rintro e W2 ⟨⟨v0, rfl⟩, (⟨v, rs, src, hat2, hsc, h0⟩ | ⟨v, rs, hat2, hfin⟩)⟩
    · refine ⟨⟨_, rfl⟩, .ready, none, hat2, by simp, fun W3 ht hK => ?_⟩
      have HS2 := Lib.hid (hsc.turn ht (by omega))
      rw [hres] at HS2 h0
      obtain ⟨sn, hsn⟩ : ∃ sn, res.2.1 = sn := ⟨_, rfl⟩
      rw [hsn] at HS2
      have H0 := Lib.hid h0
      have HSN := Lib.hid hsn
      obtain ⟨A5, c5, rfl, hv1, hv2, hv3⟩ := own_slice HS2.out.mat.own
      have HK0 := Lib.hid hK
      clear hv1 hv2 hv3 hsc ht hat hat2 hb1 h0 hsn hrr hps hres hK
      have hb5 := HS2.out.c5.cell
      have hb6 := HS2.out.c6.cell
      have hb2 := HS2.out.c2.cell
      have hf2 := HS2.out.c2.frozen
      have hb3 := HS2.out.c3.cell
      have hf3 := HS2.out.c3.frozen
      have hb4 := HS2.out.c4.cell
      have hf4 := HS2.out.c4.frozen
      have hmx : Try.prog.follows .mixedOrders = true := by kernel_rfl
      have HF := Lib.hid ((HS2.out.fin 0).drew)
      rw [show ((0 : Nat) : Int) = 0 from rfl] at HF
      dsimp only
      gi_wp2
      gi_region_o
      all_goals gi_wp2
      all_goals
        have hK := HK0.out
        rw [hD] at hK
        have hK' := (((((KeepsOthers.setCell W3 ⟨w.heap.size, 0, none⟩ (.slice A5 rs.length c5)).trans (KeepsOthers.setCell _ ⟨w.heap.size + 1, 0, none⟩ (.int .i64 (sn : Int)))).trans (KeepsOthers.setCell _ ⟨w.heap.size + 1 + 1, 0, none⟩ (.int .i64 0))).trans (KeepsOthers.drew _)).same _ _ hK rfl)
        refine ⟨by simp, .inl ⟨_, _, rfl, run_takeDeferred hK', ?_⟩⟩
        have hF := HF.out.shut hK' (by omega)
        refine ⟨_, ?_, _, rs, by rw [HSN.out, H0.out], hF.bel, hF.mat.mono (by omega)⟩
        simp [results, Try.f10, go_sem, hF.c2.cell, hF.c3.cell, hF.c4.cell]
    · refine ⟨⟨_, rfl⟩, .done, some .ret, hat2, by simp, fun W3 ht hK => ?_⟩
      have HF := Lib.hid (hfin.turn ht (by omega))
      rw [hres] at HF
      clear hfin ht hat hat2 hb1 hrr hps hres
      gi_wp2
      rw [hD] at hK
      refine ⟨by simp, .inl ⟨_, _, rfl, run_takeDeferred hK, ?_⟩⟩
      have hF := HF.out.shut hK (by omega)
      refine ⟨_, ?_, v, rs, rfl, hF.bel, hF.mat.mono (by omega)⟩
      simp [results, Try.f10, go_sem, hF.c2.cell, hF.c3.cell, hF.c4.cell]
/-- What Scan tells of any bytes: the rows, that are the call's own, each one in a block of its own. -/
theorem scan_v (A : Option Addr) (n cap B : Nat) (bs : List UInt8) (w : World) (hr : Rd w B A n (bs.map bv)) (hB : B ≤ w.heap.size) (hn : n ≤ 1000000000000) (hc : n ≤ cap) (hcm : cap ≤ maxLen) :
    Calls Try.prog 10 #[.slice A n cap] w fun e w' => ∃ v rs, e = .returned (.tuple #[v, .int .i64 ((scanF n bs).2.1 : Int), .int .i64 ((scanF n bs).2.2 : Int)]) ∧ Below w.heap.size w w' ∧ Mat w' w.heap.size v rs (scanF n bs).1 := scan_w _ A n cap B bs w hr hB hn hc hcm rfl
end Go.Proofs.Ytokcgbfncinilaa
