/- StateSame's walk. No premises. -/
import Derived.Test.YteljmlodbnfhbaaKud
namespace Go.Proofs.Yteljmlodbnfhbaa
open Go.RowKit
namespace Ks
set_option maxRecDepth 100000
/-- What stands behind the change. -/
structure Beh (s s' : St) (cs cs' : List Value) (T : Nat) (w6 : World) : Prop where
  ld : ∀ w, Later w6 w → (Instr.loadAt 40 (.pointer (some ⟨T, 0, none⟩))).run Try.prog w = .ok (.agg cs'.toArray) w
  s1 : ∀ w, Later w6 w → Calls Try.prog 13 #[.agg cs.toArray, .agg cs.toArray] w fun e w' => e = .returned (.bool true) ∧ Later w w'
  s2 : ∀ w, Later w6 w → Calls Try.prog 13 #[.agg cs.toArray, .agg cs'.toArray] w fun e w' => e = .returned (.bool false) ∧ Later w w'
  s3 : ∀ w, Later w6 w → Calls Try.prog 13 #[.agg cs'.toArray, .agg cs.toArray] w fun e w' => e = .returned (.bool false) ∧ Later w w'
theorem beh {s s' : St} {cs : List Value} {W w5 w6 : World} {T off : Nat} {v : Value} (h : stR.C W W.heap.size cs s) (hok : stC.ok s) (hx : (stC.put s).length ≤ 20000000) (hc : Chg s s') (hl : Later W w6)
    (hb : w5.heap[T]? = some (.cells cs.toArray 40 (0, 0))) (e6 : w6 = w5.setCell ⟨T, off, none⟩ v) (hu : ∀ w, Later w6 w → stR.C w w.heap.size (cs.set off v) s') : Beh s s' cs (cs.set off v) T w6 := by
  have hk : ∀ w, Later w6 w → stR.C w w.heap.size cs s := fun w hw => by
    have hlw := hl.trans hw
    exact stR.more (stR.keep h fun p hp => hlw.cell hp) hlw.size
  have hb6 : w6.heap[T]? = some (.cells (cs.set off v).toArray 40 (0, 0)) := by
    rw [e6, set_row hb off v, List.setIfInBounds_toArray]
  have hlen := hc.len
  refine ⟨fun w hw => loadO_run (P := Try.prog) 40 _ _ _ (later_cells hw hb6) Try.underlying40 rfl (by rw [List.size_toArray, List.length_set, stR.len h]; kernel_rfl), fun w hw => ?_, fun w hw => ?_, fun w hw => ?_⟩
  · refine (same_v s s cs cs w (hk w hw) (hk w hw) hok hok (by omega) (by omega)).mono fun e w' hq => ⟨?_, hq.2⟩
    rw [hq.1, decide_eq_true rfl]
  · refine (same_v s s' cs _ w (hk w hw) (hu w hw) hok hc.ok (by omega) (by omega)).mono fun e w' hq => ⟨?_, hq.2⟩
    rw [hq.1, decide_eq_false hc.ne]
  · refine (same_v s' s _ cs w (hu w hw) (hk w hw) hc.ok hok (by omega) (by omega)).mono fun e w' hq => ⟨?_, hq.2⟩
    rw [hq.1, decide_eq_false fun e => hc.ne e.symm]
theorem upd_later {s s' : St} {cs : List Value} {W w6 : World} {off : Nat} {v : Value} (h : stR.C W W.heap.size cs s) (hl : Later W w6) (hu : ∀ (w : World) (n : Nat), Upd w n stR off v s s') : ∀ w, Later w6 w → stR.C w w.heap.size (cs.set off v) s' := fun w hw => by
  have hlw := hl.trans hw
  exact (hu w _).go (stR.more (stR.keep h fun p hp => hlw.cell hp) hlw.size)
set_option maxHeartbeats 3200000 in
theorem same_none (s : St) (cs : List Value) (W : World) (h : stR.C W W.heap.size cs s) (hx : (stC.put s).length ≤ 20000000) (q : Int) (hf : ¬ fewN s ≤ 300) :
    Calls Try.prog 6 #[.agg cs.toArray, .int .u8 q] W fun e W' => e = .returned (.bool true) ∧ Later W W' := by
  have HB := Lib.hid (fun w1 hb hl => box_facts h (by omega) w1 hb hl)
  rw [decide_eq_false hf] at HB
  clear h hx hf
  go_enter Try.func6, Try.ntmps6
  go_wp2_with (first
    | (refine wpList_boxO rfl 40 (.tmp 0) rfl _ rfl ?_; intro w1 hb1 hl1 hs1; obtain ⟨ha1, hld1⟩ := HB.out w1 hb1 hl1; (have HB1 := Lib.hid hb1); (have HL1 := Lib.hid hl1); (have HLD := Lib.hid hld1); (have HFW := Lib.hid ha1); clear hb1 hl1 hs1 ha1 hld1)
    | (go_at_call 7; (with_reducible refine (awake_v _).mono ?_); rintro e w2 ⟨rfl, hl2⟩; (have HL2 := Lib.hid hl2); clear hl2)
    | (refine wpList_loadRun rfl 40 (.tmp 2) rfl _ _ rfl (HLD.out _ HL2.out) ?_)
    | (go_at_call 8; (with_reducible refine (HFW.out _ HL2.out).mono ?_); rintro e w3 ⟨rfl, hl3⟩; (have HL3 := Lib.hid (HL2.out.trans hl3)); clear hl3))
  go_ret
  exact ⟨rfl, HL1.out.trans HL3.out⟩
set_option maxHeartbeats 6400000 in
theorem same_law0 (s : St) (cs : List Value) (W : World) (h : stR.C W W.heap.size cs s) (hx : (stC.put s).length ≤ 20000000) (q : Nat) (hq : q % 8 = 0) (hf : fewN s ≤ 300) :
    Calls Try.prog 6 #[.agg cs.toArray, .int .u8 (q : Int)] W fun e W' => e = .returned (.bool true) ∧ Later W W' := by
  have HB := Lib.hid (fun w1 hb hl => box_facts h (by omega) w1 hb hl)
  rw [decide_eq_true hf] at HB
  have hok := ok_st h hf
  have hch := chg0 hok hx
  have hm1 : Int.tmod (q : Int) 8 = 0 := by rw [show (8 : Int) = ((8 : Nat) : Int) from rfl, ← Int.ofNat_tmod, hq]; rfl
  have hm2 : (q : Int) % 8 = 0 := by omega
  obtain ⟨y, hy⟩ : ∃ y, y = s.done := ⟨_, rfl⟩
  have HOLD := Lib.hid (show ∀ (w : World) (b : Nat), w.heap[b]? = some (.cells cs.toArray 40 (0, 0)) → w.cell? ⟨b, 27, none⟩ = some (.bool y) ∧ w.frozen? ⟨b, 27, none⟩ = false from fun w b hb => by
    obtain ⟨B1, d1, B2, d2, B3, d3, B4, d4, B5, d5, A1, c1, A2, c2, Q1, e1, Q2, e2, A3, c3, hcs, _⟩ := st_cells h
    refine ⟨?_, (cell_row hb 27).2⟩
    rw [(cell_row hb 27).1, hcs, hy]; rfl)
  have HBE := Lib.hid (show ∀ (w3 w5 : World), Later W w3 → Later w3 w5 → w5.heap[w3.heap.size]? = some (.cells cs.toArray 40 (0, 0)) → Later W (w5.setCell ⟨w3.heap.size, 27, none⟩ (.bool (!y))) ∧ Beh s (s0 s) cs (cs.set 27 (.bool (!y))) w3.heap.size (w5.setCell ⟨w3.heap.size, 27, none⟩ (.bool (!y))) from fun w3 w5 h3 h5 hb => by
    have hl6 : Later W (w5.setCell ⟨w3.heap.size, 27, none⟩ (.bool (!y))) := later_of_new (h3.trans h5) (set_only w5 w3.heap.size 27 _) h3.size
    exact ⟨hl6, beh h hok hx hch hl6 hb rfl (upd_later h hl6 (fun w n => by have := upd0 (w := w) (n := n) (s := s); rw [← hy] at this; exact this))⟩)
  have hcs29 : cs.toArray.size = 29 := by rw [List.size_toArray]; exact stR.len h
  have HI := Lib.hid (show (Try.prog.info? 40).map (·.size) = some cs.toArray.size by rw [hcs29]; kernel_rfl)
  have HSZ := Lib.hid (show (#[.slice none 0 0, .slice none 0 0, .int .i64 0, .string ⟨#[]⟩, .slice none 0 0, .slice none 0 0, .slice none 0 0, .slice none 0 0, .slice none 0 0, .int .i64 0, .int .i64 0, .int .i64 0, .string ⟨#[]⟩, .slice none 0 0, .int .i64 0, .int .i64 0, .int .i64 0, .int .i64 0, .string ⟨#[]⟩, .slice none 0 0, .int .i64 0, .slice none 0 0, .int .i64 0, .int .i64 0, .int .i64 0, .bool false, .bool false, .bool false, .int .i64 0] : Array Value).size = cs.toArray.size by rw [hcs29]; rfl)
  have HONE := Lib.hid (show cs.toArray.all (·.oneCell') = true by
    obtain ⟨B1, d1, B2, d2, B3, d3, B4, d4, B5, d5, A1, c1, A2, c2, Q1, e1, Q2, e2, A3, c3, rfl, _⟩ := st_cells h
    simp [Value.oneCell'])
  clear h hx hf hok hch hcs29 hq hy
  go_enter Try.func6, Try.ntmps6
  go_wp2_with (first
    | (refine wpList_boxO rfl 40 (.tmp 0) rfl _ rfl ?_; intro w1 hb1 hl1 hs1; obtain ⟨ha1, hld1⟩ := HB.out w1 hb1 hl1; (have HB1 := Lib.hid hb1); (have HL1 := Lib.hid hl1); (have HLD := Lib.hid hld1); (have HFW := Lib.hid ha1); clear hb1 hl1 hs1 ha1 hld1)
    | (go_at_call 7; (with_reducible refine (awake_v _).mono ?_); rintro e w2 ⟨rfl, hl2⟩; (have HL2 := Lib.hid hl2); clear hl2)
    | (refine wpList_loadRun rfl 40 (.tmp 2) rfl _ _ rfl (HLD.out _ HL2.out) ?_)
    | (go_at_call 8; (with_reducible refine (HFW.out _ HL2.out).mono ?_); rintro e w3 ⟨rfl, hl3⟩; (have HL3 := Lib.hid (HL2.out.trans hl3)); clear hl3)
    | (refine wpList_loadRun rfl 40 (.tmp 2) rfl _ _ rfl (HLD.out _ HL3.out) ?_)
    | (refine wpList_allocO 7 rfl rfl 40 rfl #[.slice none 0 0, .slice none 0 0, .int .i64 0, .string ⟨#[]⟩, .slice none 0 0, .slice none 0 0, .slice none 0 0, .slice none 0 0, .slice none 0 0, .int .i64 0, .int .i64 0, .int .i64 0, .string ⟨#[]⟩, .slice none 0 0, .int .i64 0, .int .i64 0, .int .i64 0, .int .i64 0, .string ⟨#[]⟩, .slice none 0 0, .int .i64 0, .slice none 0 0, .int .i64 0, .int .i64 0, .int .i64 0, .bool false, .bool false, .bool false, .int .i64 0] 29 (by kernel_rfl) ?_; intro w4 hw4 hl4 hs4; (have HW4 := Lib.hid hw4); (have HL4 := Lib.hid hl4); clear hw4 hl4 hs4)
    | (refine wpList_storeO rfl 40 (.tmp 7) (.tmp 15) rfl w3.heap.size _ cs.toArray rfl rfl HW4.out HI.out HSZ.out HONE.out ?_; intro w5 hw5 hg5 hs5; obtain ⟨hl6, hbe⟩ := HBE.out w3 w5 (HL1.out.trans HL3.out) (later_of_new HL4.out hg5 (Nat.le_refl _)) hw5; obtain ⟨qa, qz⟩ := HOLD.out w5 w3.heap.size hw5; obtain ⟨qb, _⟩ := HOLD.out w5 W.heap.size (later_cells (HL3.out.trans (later_of_new HL4.out hg5 (Nat.le_refl _))) HB1.out); (have HL6 := Lib.hid hl6); (have HBH := Lib.hid hbe); (have HL16 := Lib.hid (show Later w1 (w5.setCell ⟨w3.heap.size, 27, none⟩ (.bool (!y))) from later_of_new (HL3.out.trans (later_of_new HL4.out hg5 (Nat.le_refl _))) (set_only w5 w3.heap.size 27 _) HL3.out.size)); clear hw5 hg5 hs5 hl6 hbe)
    | (refine wpList_loadRun rfl 40 (.tmp 2) rfl _ _ rfl (HLD.out _ HL16.out) ?_)
    | (go_at_call 13; (with_reducible refine (HBH.out.s1 _ (Later.refl _)).mono ?_); rintro e w7 ⟨rfl, hl7⟩; (have HL7 := Lib.hid hl7); clear hl7)
    | (refine wpList_loadRunG rfl 40 (.tmp 2) rfl _ _ rfl (HLD.out _ (HL16.out.trans HL7.out)) ?_)
    | (refine wpList_loadRunG rfl 40 (.tmp 7) rfl _ _ rfl (HBH.out.ld _ HL7.out) ?_)
    | (go_at_call 13; (with_reducible refine (HBH.out.s2 w7 HL7.out).mono ?_); rintro e w8 ⟨rfl, hl8⟩; (have HL8 := Lib.hid (HL7.out.trans hl8)); clear hl8)
    | (refine wpList_loadRunG rfl 40 (.tmp 7) rfl _ _ rfl (HBH.out.ld _ HL8.out) ?_)
    | (refine wpList_loadRunG rfl 40 (.tmp 2) rfl _ _ rfl (HLD.out _ (HL16.out.trans HL8.out)) ?_)
    | (go_at_call 13; (with_reducible refine (HBH.out.s3 w8 HL8.out).mono ?_); rintro e w9 ⟨rfl, hl9⟩; (have HL9 := Lib.hid (HL8.out.trans hl9)); clear hl9))
  go_ret
  exact ⟨rfl, HL6.out.trans HL9.out⟩
set_option maxHeartbeats 6400000 in
theorem same_law1 (s : St) (cs : List Value) (W : World) (h : stR.C W W.heap.size cs s) (hx : (stC.put s).length ≤ 20000000) (q : Nat) (hq : q % 8 = 1) (hf : fewN s ≤ 300) :
    Calls Try.prog 6 #[.agg cs.toArray, .int .u8 (q : Int)] W fun e W' => e = .returned (.bool true) ∧ Later W W' := by
  have HB := Lib.hid (fun w1 hb hl => box_facts h (by omega) w1 hb hl)
  rw [decide_eq_true hf] at HB
  have hok := ok_st h hf
  have hch := chg1 hok hx
  have hm1 : Int.tmod (q : Int) 8 = 1 := by rw [show (8 : Int) = ((8 : Nat) : Int) from rfl, ← Int.ofNat_tmod, hq]; rfl
  have hm2 : (q : Int) % 8 = 1 := by omega
  obtain ⟨y, hy⟩ : ∃ y, y = s.keep.status := ⟨_, rfl⟩
  obtain ⟨y', hy'⟩ : ∃ y', y' = wrap64 (y + 1) := ⟨_, rfl⟩
  have HY := Lib.hid hy'.symm
  have HOLD := Lib.hid (show ∀ (w : World) (b : Nat), w.heap[b]? = some (.cells cs.toArray 40 (0, 0)) → w.cell? ⟨b, 2, none⟩ = some (.int .i64 y) ∧ w.frozen? ⟨b, 2, none⟩ = false from fun w b hb => by
    obtain ⟨B1, d1, B2, d2, B3, d3, B4, d4, B5, d5, A1, c1, A2, c2, Q1, e1, Q2, e2, A3, c3, hcs, _⟩ := st_cells h
    refine ⟨?_, (cell_row hb 2).2⟩
    rw [(cell_row hb 2).1, hcs, hy]; rfl)
  have HBE := Lib.hid (show ∀ (w3 w5 : World), Later W w3 → Later w3 w5 → w5.heap[w3.heap.size]? = some (.cells cs.toArray 40 (0, 0)) → Later W (w5.setCell ⟨w3.heap.size, 2, none⟩ (.int .i64 (wrap64 (y + 1)))) ∧ Beh s (s1 s) cs (cs.set 2 (.int .i64 (wrap64 (y + 1)))) w3.heap.size (w5.setCell ⟨w3.heap.size, 2, none⟩ (.int .i64 (wrap64 (y + 1)))) from fun w3 w5 h3 h5 hb => by
    have hl6 : Later W (w5.setCell ⟨w3.heap.size, 2, none⟩ (.int .i64 (wrap64 (y + 1)))) := later_of_new (h3.trans h5) (set_only w5 w3.heap.size 2 _) h3.size
    exact ⟨hl6, beh h hok hx hch hl6 hb rfl (upd_later h hl6 (fun w n => by have := upd1 (w := w) (n := n) (s := s); rw [← hy] at this; exact this))⟩)
  have hcs29 : cs.toArray.size = 29 := by rw [List.size_toArray]; exact stR.len h
  have HI := Lib.hid (show (Try.prog.info? 40).map (·.size) = some cs.toArray.size by rw [hcs29]; kernel_rfl)
  have HSZ := Lib.hid (show (#[.slice none 0 0, .slice none 0 0, .int .i64 0, .string ⟨#[]⟩, .slice none 0 0, .slice none 0 0, .slice none 0 0, .slice none 0 0, .slice none 0 0, .int .i64 0, .int .i64 0, .int .i64 0, .string ⟨#[]⟩, .slice none 0 0, .int .i64 0, .int .i64 0, .int .i64 0, .int .i64 0, .string ⟨#[]⟩, .slice none 0 0, .int .i64 0, .slice none 0 0, .int .i64 0, .int .i64 0, .int .i64 0, .bool false, .bool false, .bool false, .int .i64 0] : Array Value).size = cs.toArray.size by rw [hcs29]; rfl)
  have HONE := Lib.hid (show cs.toArray.all (·.oneCell') = true by
    obtain ⟨B1, d1, B2, d2, B3, d3, B4, d4, B5, d5, A1, c1, A2, c2, Q1, e1, Q2, e2, A3, c3, rfl, _⟩ := st_cells h
    simp [Value.oneCell'])
  clear h hx hf hok hch hcs29 hq hy hy'
  go_enter Try.func6, Try.ntmps6
  go_wp2_with (first
    | (refine wpList_boxO rfl 40 (.tmp 0) rfl _ rfl ?_; intro w1 hb1 hl1 hs1; obtain ⟨ha1, hld1⟩ := HB.out w1 hb1 hl1; (have HB1 := Lib.hid hb1); (have HL1 := Lib.hid hl1); (have HLD := Lib.hid hld1); (have HFW := Lib.hid ha1); clear hb1 hl1 hs1 ha1 hld1)
    | (go_at_call 7; (with_reducible refine (awake_v _).mono ?_); rintro e w2 ⟨rfl, hl2⟩; (have HL2 := Lib.hid hl2); clear hl2)
    | (refine wpList_loadRun rfl 40 (.tmp 2) rfl _ _ rfl (HLD.out _ HL2.out) ?_)
    | (go_at_call 8; (with_reducible refine (HFW.out _ HL2.out).mono ?_); rintro e w3 ⟨rfl, hl3⟩; (have HL3 := Lib.hid (HL2.out.trans hl3)); clear hl3)
    | (refine wpList_loadRun rfl 40 (.tmp 2) rfl _ _ rfl (HLD.out _ HL3.out) ?_)
    | (refine wpList_allocO 7 rfl rfl 40 rfl #[.slice none 0 0, .slice none 0 0, .int .i64 0, .string ⟨#[]⟩, .slice none 0 0, .slice none 0 0, .slice none 0 0, .slice none 0 0, .slice none 0 0, .int .i64 0, .int .i64 0, .int .i64 0, .string ⟨#[]⟩, .slice none 0 0, .int .i64 0, .int .i64 0, .int .i64 0, .int .i64 0, .string ⟨#[]⟩, .slice none 0 0, .int .i64 0, .slice none 0 0, .int .i64 0, .int .i64 0, .int .i64 0, .bool false, .bool false, .bool false, .int .i64 0] 29 (by kernel_rfl) ?_; intro w4 hw4 hl4 hs4; (have HW4 := Lib.hid hw4); (have HL4 := Lib.hid hl4); clear hw4 hl4 hs4)
    | (refine wpList_storeO rfl 40 (.tmp 7) (.tmp 15) rfl w3.heap.size _ cs.toArray rfl rfl HW4.out HI.out HSZ.out HONE.out ?_; intro w5 hw5 hg5 hs5; obtain ⟨hl6, hbe⟩ := HBE.out w3 w5 (HL1.out.trans HL3.out) (later_of_new HL4.out hg5 (Nat.le_refl _)) hw5; obtain ⟨qa, qz⟩ := HOLD.out w5 w3.heap.size hw5; obtain ⟨qb, _⟩ := HOLD.out w5 W.heap.size (later_cells (HL3.out.trans (later_of_new HL4.out hg5 (Nat.le_refl _))) HB1.out); (have HL6 := Lib.hid hl6); (have HBH := Lib.hid hbe); (have HL16 := Lib.hid (show Later w1 (w5.setCell ⟨w3.heap.size, 2, none⟩ (.int .i64 (wrap64 (y + 1)))) from later_of_new (HL3.out.trans (later_of_new HL4.out hg5 (Nat.le_refl _))) (set_only w5 w3.heap.size 2 _) HL3.out.size)); clear hw5 hg5 hs5 hl6 hbe)
    | (refine wpList_loadRun rfl 40 (.tmp 2) rfl _ _ rfl (HLD.out _ HL16.out) ?_)
    | (go_at_call 13; (with_reducible refine (HBH.out.s1 _ (Later.refl _)).mono ?_); rintro e w7 ⟨rfl, hl7⟩; (have HL7 := Lib.hid hl7); clear hl7)
    | (refine wpList_loadRunG rfl 40 (.tmp 2) rfl _ _ rfl (HLD.out _ (HL16.out.trans HL7.out)) ?_)
    | (refine wpList_loadRunG rfl 40 (.tmp 7) rfl _ _ rfl (HBH.out.ld _ HL7.out) ?_)
    | (go_at_call 13; (with_reducible refine (HBH.out.s2 w7 HL7.out).mono ?_); rintro e w8 ⟨rfl, hl8⟩; (have HL8 := Lib.hid (HL7.out.trans hl8)); clear hl8)
    | (refine wpList_loadRunG rfl 40 (.tmp 7) rfl _ _ rfl (HBH.out.ld _ HL8.out) ?_)
    | (refine wpList_loadRunG rfl 40 (.tmp 2) rfl _ _ rfl (HLD.out _ (HL16.out.trans HL8.out)) ?_)
    | (go_at_call 13; (with_reducible refine (HBH.out.s3 w8 HL8.out).mono ?_); rintro e w9 ⟨rfl, hl9⟩; (have HL9 := Lib.hid (HL8.out.trans hl9)); clear hl9))
  go_ret
  exact ⟨rfl, HL6.out.trans HL9.out⟩
set_option maxHeartbeats 6400000 in
theorem same_law3 (s : St) (cs : List Value) (W : World) (h : stR.C W W.heap.size cs s) (hx : (stC.put s).length ≤ 20000000) (q : Nat) (hq : q % 8 = 3) (hf : fewN s ≤ 300) :
    Calls Try.prog 6 #[.agg cs.toArray, .int .u8 (q : Int)] W fun e W' => e = .returned (.bool true) ∧ Later W W' := by
  have HB := Lib.hid (fun w1 hb hl => box_facts h (by omega) w1 hb hl)
  rw [decide_eq_true hf] at HB
  have hok := ok_st h hf
  have hch := chg3 hok hx
  have hm1 : Int.tmod (q : Int) 8 = 3 := by rw [show (8 : Int) = ((8 : Nat) : Int) from rfl, ← Int.ofNat_tmod, hq]; rfl
  have hm2 : (q : Int) % 8 = 3 := by omega
  have hfl : (s.asked.text ++ [120]).length ≤ 9223372036854775807 := by
    have h1 := txt_len_le s.asked.text
    have h2 := st_len s
    have h3 := kp_len s.keep
    rw [List.length_append]
    show _ + 1 ≤ _
    omega
  have hfs : (mkS s.asked.text).size ≤ 20000000 := by
    have h1 := txt_len_le s.asked.text
    have h2 := st_len s
    have h3 := kp_len s.keep
    rw [mkS_size]
    omega
  obtain ⟨y, hy⟩ : ∃ y, y = s.asked.text := ⟨_, rfl⟩
  rw [← hy] at hfs
  have hadd : mkS y ++ ⟨#[120]⟩ = mkS (y ++ [120]) := mkS_add y [120]
  have hsum : ¬ 9223372036854775807 < (mkS y).size + 1 := by omega
  have HOLD := Lib.hid (show ∀ (w : World) (b : Nat), w.heap[b]? = some (.cells cs.toArray 40 (0, 0)) → w.cell? ⟨b, 12, none⟩ = some (.string (mkS y)) ∧ w.frozen? ⟨b, 12, none⟩ = false from fun w b hb => by
    obtain ⟨B1, d1, B2, d2, B3, d3, B4, d4, B5, d5, A1, c1, A2, c2, Q1, e1, Q2, e2, A3, c3, hcs, _⟩ := st_cells h
    refine ⟨?_, (cell_row hb 12).2⟩
    rw [(cell_row hb 12).1, hcs, hy]; rfl)
  have HBE := Lib.hid (show ∀ (w3 w5 : World), Later W w3 → Later w3 w5 → w5.heap[w3.heap.size]? = some (.cells cs.toArray 40 (0, 0)) → Later W (w5.setCell ⟨w3.heap.size, 12, none⟩ (.string (mkS (y ++ [120])))) ∧ Beh s (s3 s) cs (cs.set 12 (.string (mkS (y ++ [120])))) w3.heap.size (w5.setCell ⟨w3.heap.size, 12, none⟩ (.string (mkS (y ++ [120])))) from fun w3 w5 h3 h5 hb => by
    have hl6 : Later W (w5.setCell ⟨w3.heap.size, 12, none⟩ (.string (mkS (y ++ [120])))) := later_of_new (h3.trans h5) (set_only w5 w3.heap.size 12 _) h3.size
    exact ⟨hl6, beh h hok hx hch hl6 hb rfl (upd_later h hl6 (fun w n => by have := upd3 (w := w) (n := n) (s := s) hfl; rw [← hy] at this; exact this))⟩)
  have hcs29 : cs.toArray.size = 29 := by rw [List.size_toArray]; exact stR.len h
  have HI := Lib.hid (show (Try.prog.info? 40).map (·.size) = some cs.toArray.size by rw [hcs29]; kernel_rfl)
  have HSZ := Lib.hid (show (#[.slice none 0 0, .slice none 0 0, .int .i64 0, .string ⟨#[]⟩, .slice none 0 0, .slice none 0 0, .slice none 0 0, .slice none 0 0, .slice none 0 0, .int .i64 0, .int .i64 0, .int .i64 0, .string ⟨#[]⟩, .slice none 0 0, .int .i64 0, .int .i64 0, .int .i64 0, .int .i64 0, .string ⟨#[]⟩, .slice none 0 0, .int .i64 0, .slice none 0 0, .int .i64 0, .int .i64 0, .int .i64 0, .bool false, .bool false, .bool false, .int .i64 0] : Array Value).size = cs.toArray.size by rw [hcs29]; rfl)
  have HONE := Lib.hid (show cs.toArray.all (·.oneCell') = true by
    obtain ⟨B1, d1, B2, d2, B3, d3, B4, d4, B5, d5, A1, c1, A2, c2, Q1, e1, Q2, e2, A3, c3, rfl, _⟩ := st_cells h
    simp [Value.oneCell'])
  clear h hx hf hok hch hcs29 hq hy hfl hfs
  go_enter Try.func6, Try.ntmps6
  go_wp2_with (first
    | (refine wpList_boxO rfl 40 (.tmp 0) rfl _ rfl ?_; intro w1 hb1 hl1 hs1; obtain ⟨ha1, hld1⟩ := HB.out w1 hb1 hl1; (have HB1 := Lib.hid hb1); (have HL1 := Lib.hid hl1); (have HLD := Lib.hid hld1); (have HFW := Lib.hid ha1); clear hb1 hl1 hs1 ha1 hld1)
    | (go_at_call 7; (with_reducible refine (awake_v _).mono ?_); rintro e w2 ⟨rfl, hl2⟩; (have HL2 := Lib.hid hl2); clear hl2)
    | (refine wpList_loadRun rfl 40 (.tmp 2) rfl _ _ rfl (HLD.out _ HL2.out) ?_)
    | (go_at_call 8; (with_reducible refine (HFW.out _ HL2.out).mono ?_); rintro e w3 ⟨rfl, hl3⟩; (have HL3 := Lib.hid (HL2.out.trans hl3)); clear hl3)
    | (refine wpList_loadRun rfl 40 (.tmp 2) rfl _ _ rfl (HLD.out _ HL3.out) ?_)
    | (refine wpList_allocO 7 rfl rfl 40 rfl #[.slice none 0 0, .slice none 0 0, .int .i64 0, .string ⟨#[]⟩, .slice none 0 0, .slice none 0 0, .slice none 0 0, .slice none 0 0, .slice none 0 0, .int .i64 0, .int .i64 0, .int .i64 0, .string ⟨#[]⟩, .slice none 0 0, .int .i64 0, .int .i64 0, .int .i64 0, .int .i64 0, .string ⟨#[]⟩, .slice none 0 0, .int .i64 0, .slice none 0 0, .int .i64 0, .int .i64 0, .int .i64 0, .bool false, .bool false, .bool false, .int .i64 0] 29 (by kernel_rfl) ?_; intro w4 hw4 hl4 hs4; (have HW4 := Lib.hid hw4); (have HL4 := Lib.hid hl4); clear hw4 hl4 hs4)
    | (refine wpList_storeO rfl 40 (.tmp 7) (.tmp 15) rfl w3.heap.size _ cs.toArray rfl rfl HW4.out HI.out HSZ.out HONE.out ?_; intro w5 hw5 hg5 hs5; obtain ⟨hl6, hbe⟩ := HBE.out w3 w5 (HL1.out.trans HL3.out) (later_of_new HL4.out hg5 (Nat.le_refl _)) hw5; obtain ⟨qa, qz⟩ := HOLD.out w5 w3.heap.size hw5; obtain ⟨qb, _⟩ := HOLD.out w5 W.heap.size (later_cells (HL3.out.trans (later_of_new HL4.out hg5 (Nat.le_refl _))) HB1.out); (have HL6 := Lib.hid hl6); (have HBH := Lib.hid hbe); (have HL16 := Lib.hid (show Later w1 (w5.setCell ⟨w3.heap.size, 12, none⟩ (.string (mkS (y ++ [120])))) from later_of_new (HL3.out.trans (later_of_new HL4.out hg5 (Nat.le_refl _))) (set_only w5 w3.heap.size 12 _) HL3.out.size)); clear hw5 hg5 hs5 hl6 hbe)
    | (refine wpList_loadRun rfl 40 (.tmp 2) rfl _ _ rfl (HLD.out _ HL16.out) ?_)
    | (go_at_call 13; (with_reducible refine (HBH.out.s1 _ (Later.refl _)).mono ?_); rintro e w7 ⟨rfl, hl7⟩; (have HL7 := Lib.hid hl7); clear hl7)
    | (refine wpList_loadRunG rfl 40 (.tmp 2) rfl _ _ rfl (HLD.out _ (HL16.out.trans HL7.out)) ?_)
    | (refine wpList_loadRunG rfl 40 (.tmp 7) rfl _ _ rfl (HBH.out.ld _ HL7.out) ?_)
    | (go_at_call 13; (with_reducible refine (HBH.out.s2 w7 HL7.out).mono ?_); rintro e w8 ⟨rfl, hl8⟩; (have HL8 := Lib.hid (HL7.out.trans hl8)); clear hl8)
    | (refine wpList_loadRunG rfl 40 (.tmp 7) rfl _ _ rfl (HBH.out.ld _ HL8.out) ?_)
    | (refine wpList_loadRunG rfl 40 (.tmp 2) rfl _ _ rfl (HLD.out _ (HL16.out.trans HL8.out)) ?_)
    | (go_at_call 13; (with_reducible refine (HBH.out.s3 w8 HL8.out).mono ?_); rintro e w9 ⟨rfl, hl9⟩; (have HL9 := Lib.hid (HL8.out.trans hl9)); clear hl9))
  go_ret
  exact ⟨rfl, HL6.out.trans HL9.out⟩
end Ks
end Go.Proofs.Yteljmlodbnfhbaa
