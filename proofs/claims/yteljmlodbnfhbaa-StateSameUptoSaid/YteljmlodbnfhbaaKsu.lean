/- StateSame's walk: a signal more. No premises. -/
import Derived.Test.YteljmlodbnfhbaaKss
namespace Go.Proofs.Yteljmlodbnfhbaa
open Go.RowKit
namespace Ks
set_option maxRecDepth 100000
theorem flatN : ∀ (xs : List (List Value)) (l : List Int), xs.length = l.length → (∀ (k : Nat) (x : List Value) (a : Int), xs[k]? = some x → l[k]? = some a → x = [Value.int .i64 a]) → xs.flatten = l.map (Value.int .i64 ·)
  | [], [], _, _ => rfl
  | [], _ :: _, h, _ => by simp at h
  | _ :: _, [], h, _ => by simp at h
  | x :: xs, a :: l, h, hk => by
    rw [List.flatten_cons, flatN xs l (by simpa using h) (fun k y b hy hb => hk (k + 1) y b (by simpa using hy) (by simpa using hb)), hk 0 x a rfl rfl]
    rfl
theorem row_nums {w : World} {n : Nat} {A : Option Addr} {l : List Int} (h : Row rnum w n A l) : Rd w n A l.length (l.map (Value.int .i64 ·)) := by
  obtain ⟨xs, h1, h2, h3⟩ := h
  rw [flatN xs l h1 fun k x a hx ha => (h3 k x a hx ha).1] at h2
  simpa [rnum] using h2
theorem rrow_own {w : World} {b : Nat} {v : Value} {l : List Int} (h : w.ownsRow b 3 1 v (l.map (Value.int .i64 ·)).length (l.map (Value.int .i64 ·))) (hI : ∀ x ∈ l, I64 x) : (rrow rnum).C w w.heap.size [v] l := by
  have hh : ∃ A cap, v = .slice A l.length cap ∧ l.length ≤ cap ∧ cap ≤ 9223372036854775807 := by
    rcases h.2 with ⟨rfl, h0⟩ | ⟨g, cap, cur, rfl, _, _, hnc, hcm, _⟩
    · rw [List.length_map] at h0; exact ⟨none, 0, by rw [h0], by omega, by omega⟩
    · rw [List.length_map] at hnc ⊢; exact ⟨_, cap, rfl, hnc, hcm⟩
  obtain ⟨A, cap, rfl, h1, h2⟩ := hh
  have hr := Rd.of_own (n := l.length) (c := cap) (by have := h; rw [List.length_map] at this; exact this)
  refine ⟨A, cap, rfl, h1, h2, l.map fun x => [.int .i64 x], by simp, ?_, fun k x a hx ha => ?_⟩
  · rw [flatN (l.map fun x => [.int .i64 x]) l (by simp) fun k x a hx ha => by
      rw [List.getElem?_map, ha] at hx
      simpa using hx.symm]
    simpa [rnum] using hr
  · rw [List.getElem?_map, ha] at hx
    obtain rfl : [Value.int .i64 a] = x := by simpa using hx
    exact ⟨rfl, hI a (List.mem_of_getElem? ha)⟩
theorem own_lit1 (w : World) (t : TypeId) (u : Value) : (w.alloc (.cells #[u] t)).ownsRow 0 t 1 (.slice (some ⟨w.heap.size, 0, none⟩) 1 1) [u].length [u] :=
  ⟨rfl, .inr ⟨w.heap.size, 1, #[u], rfl, Nat.zero_le _, heap_alloc_new w _, Nat.le_refl _, by unfold maxLen; omega, rfl, rfl⟩⟩
theorem info_int : (Try.prog.info? 3).map (fun i => (i.zero, i.size, i.bytes)) = some (some (.int .i64 0), 1, 8) := by kernel_rfl
set_option maxHeartbeats 6400000 in
theorem same_law7 (s : St) (cs : List Value) (W : World) (h : stR.C W W.heap.size cs s) (hx : (stC.put s).length ≤ 20000000) (q : Nat) (hq : q % 8 = 7) (hf : fewN s ≤ 300) :
    Calls Try.prog 6 #[.agg cs.toArray, .int .u8 (q : Int)] W fun e W' => e = .returned (.bool true) ∧ Later W W' := by
  have HB := Lib.hid (fun w1 hb hl => box_facts h (by omega) w1 hb hl)
  rw [decide_eq_true hf] at HB
  have hok := ok_st h hf
  have hl300 : s.sigs.length ≤ 300 := by unfold fewN topN at hf; omega
  have hch := chg7 hok hx hl300
  have hm1 : Int.tmod (q : Int) 8 = 7 := by rw [show (8 : Int) = ((8 : Nat) : Int) from rfl, ← Int.ofNat_tmod, hq]; rfl
  have hm2 : (q : Int) % 8 = 7 := by omega
  obtain ⟨n3, hn3⟩ : ∃ n, n = s.sigs.length := ⟨_, rfl⟩
  obtain ⟨A3, c3, hro, HCS⟩ : ∃ A3 c3, Row rnum W W.heap.size A3 s.sigs ∧ Hid (∀ (w : World) (b : Nat), w.heap[b]? = some (.cells cs.toArray 40 (0, 0)) → w.cell? ⟨b, 21, none⟩ = some (.slice A3 n3 c3) ∧ w.frozen? ⟨b, 21, none⟩ = false) := by
    obtain ⟨B1, d1, B2, d2, B3, d3, B4, d4, B5, d5, A1, c1, A2, c2, Q1, e1, Q2, e2, A3, c3, hcs, _, _, _, ⟨_, _, hr3⟩, _⟩ := st_cells h
    refine ⟨A3, c3, hr3, Lib.hid fun w b hb => ⟨?_, (cell_row hb 21).2⟩⟩
    rw [(cell_row hb 21).1, hcs, hn3]; rfl
  have hrd := row_nums hro
  rw [← hn3] at hrd hl300
  have HRD := Lib.hid hrd
  have HBE := Lib.hid (show ∀ (w3 w5 w6 : World) (v : Value), Later W w3 → Later w3 w5 → w5.heap[w3.heap.size]? = some (.cells cs.toArray 40 (0, 0)) → Grew (w5.alloc (.cells #[.int .i64 1] 3)) w6 0 3 (.slice (some ⟨w5.heap.size, 0, none⟩) 1 1) v ([.int .i64 1] ++ s.sigs.map (Value.int .i64 ·)) →
      (∃ A9 n9 c9, v = .slice A9 n9 c9) ∧ Later W (w6.setCell ⟨w3.heap.size, 21, none⟩ v) ∧ Later w3 (w6.setCell ⟨w3.heap.size, 21, none⟩ v) ∧ Beh s (s7 s) cs (cs.set 21 v) w3.heap.size (w6.setCell ⟨w3.heap.size, 21, none⟩ v) ∧ w6.heap[w3.heap.size]? = some (.cells cs.toArray 40 (0, 0)) from fun w3 w5 w6 v h3 h5 hb hg => by
    have hla := Later.alloc w5 (.cells #[.int .i64 1] 3)
    have hlt := lt_of_block hb
    have hsa : (w5.alloc (.cells #[.int .i64 1] 3)).heap.size = w5.heap.size + 1 := by simp
    have hl56 : Later w5 w6 := ⟨hg.grown.os.trans hla.os, hg.grown.tape.trans hla.tape, hg.grown.output.trans hla.output, Nat.le_trans hla.size hg.grown.size, fun k hk => (hg.grown.block k (by omega) (fun e => by injection e with e; have e : k = w5.heap.size := e; omega)).trans (hla.block k hk)⟩
    have hb6 := later_cells hl56 hb
    have hso := set_only w6 w3.heap.size 21 v
    have hl36 : Later w3 (w6.setCell ⟨w3.heap.size, 21, none⟩ v) := later_of_new (h5.trans hl56) hso (Nat.le_refl _)
    have hl6 : Later W (w6.setCell ⟨w3.heap.size, 21, none⟩ v) := h3.trans hl36
    have hvb : ∀ k, v.ownBlock = some k → w5.heap.size ≤ k := fun k hk => by
      rcases hg.moved with e | ⟨j, e, hj⟩
      · rw [e] at hk; injection hk with hk; have hk : w5.heap.size = k := hk; omega
      · rw [e] at hk; injection hk with hk; omega
    obtain ⟨A9, c9, hv9, _⟩ := own_any hg.own
    have hown : ∀ w, Later (w6.setCell ⟨w3.heap.size, 21, none⟩ v) w → w.ownsRow 0 3 1 v ((1 :: s.sigs).map (Value.int .i64 ·)).length ((1 :: s.sigs).map (Value.int .i64 ·)) := fun w hw => by
      refine own_below (own_kept hg.own hso fun k hk => ?_) hw
      have := hvb k hk
      omega
    refine ⟨⟨A9, _, c9, hv9⟩, hl6, hl36, beh h hok hx hch hl6 hb6 rfl fun w hw => ?_, hb6⟩
    have hlw := hl6.trans hw
    exact (upd7 (rrow_own (hown w hw) (sig_ok hok.2.2.2.2.2.1.2))).go (stR.more (stR.keep h fun p hp => hlw.cell hp) hlw.size))
  have hcs29 : cs.toArray.size = 29 := by rw [List.size_toArray]; exact stR.len h
  have HI := Lib.hid (show (Try.prog.info? 40).map (·.size) = some cs.toArray.size by rw [hcs29]; kernel_rfl)
  have HSZ := Lib.hid (show (#[.slice none 0 0, .slice none 0 0, .int .i64 0, .string ⟨#[]⟩, .slice none 0 0, .slice none 0 0, .slice none 0 0, .slice none 0 0, .slice none 0 0, .int .i64 0, .int .i64 0, .int .i64 0, .string ⟨#[]⟩, .slice none 0 0, .int .i64 0, .int .i64 0, .int .i64 0, .int .i64 0, .string ⟨#[]⟩, .slice none 0 0, .int .i64 0, .slice none 0 0, .int .i64 0, .int .i64 0, .int .i64 0, .bool false, .bool false, .bool false, .int .i64 0] : Array Value).size = cs.toArray.size by rw [hcs29]; rfl)
  have HONE := Lib.hid (show cs.toArray.all (·.oneCell') = true by
    obtain ⟨B1, d1, B2, d2, B3, d3, B4, d4, B5, d5, A1, c1, A2, c2, Q1, e1, Q2, e2, A3, c3, rfl, _⟩ := st_cells h
    simp [Value.oneCell'])
  obtain ⟨i0, hi, hz0, hz1, hz2⟩ := info_parts info_int
  clear h hx hf hok hch hcs29 hq hro hrd hn3
  go_enter Try.func6, Try.ntmps6
  go_wp2_with (first
    | (refine wpList_boxO rfl 40 (.tmp 0) rfl _ rfl ?_; intro w1 hb1 hl1 hs1; obtain ⟨ha1, hld1⟩ := HB.out w1 hb1 hl1; (have HB1 := Lib.hid hb1); (have HL1 := Lib.hid hl1); (have HLD := Lib.hid hld1); (have HFW := Lib.hid ha1); clear hb1 hl1 hs1 ha1 hld1)
    | (go_at_call 7; (with_reducible refine (awake_v _).mono ?_); rintro e w2 ⟨rfl, hl2⟩; (have HL2 := Lib.hid hl2); clear hl2)
    | (refine wpList_loadRun rfl 40 (.tmp 2) rfl _ _ rfl (HLD.out _ HL2.out) ?_)
    | (go_at_call 8; (with_reducible refine (HFW.out _ HL2.out).mono ?_); rintro e w3 ⟨rfl, hl3⟩; (have HL3 := Lib.hid (HL2.out.trans hl3)); clear hl3)
    | (refine wpList_loadRun rfl 40 (.tmp 2) rfl _ _ rfl (HLD.out _ HL3.out) ?_)
    | (refine wpList_allocO 7 rfl rfl 40 rfl #[.slice none 0 0, .slice none 0 0, .int .i64 0, .string ⟨#[]⟩, .slice none 0 0, .slice none 0 0, .slice none 0 0, .slice none 0 0, .slice none 0 0, .int .i64 0, .int .i64 0, .int .i64 0, .string ⟨#[]⟩, .slice none 0 0, .int .i64 0, .int .i64 0, .int .i64 0, .int .i64 0, .string ⟨#[]⟩, .slice none 0 0, .int .i64 0, .slice none 0 0, .int .i64 0, .int .i64 0, .int .i64 0, .bool false, .bool false, .bool false, .int .i64 0] 29 (by kernel_rfl) ?_; intro w4 hw4 hl4 hs4; (have HW4 := Lib.hid hw4); (have HL4 := Lib.hid hl4); clear hw4 hl4 hs4)
    | (refine wpList_storeO rfl 40 (.tmp 7) (.tmp 15) rfl w3.heap.size _ cs.toArray rfl rfl HW4.out HI.out HSZ.out HONE.out ?_; intro w5 hw5 hg5 hs5; (have HL35 := Lib.hid (show Later w3 w5 from later_of_new HL4.out hg5 (Nat.le_refl _))); have qb : (w5.alloc (.cells #[.int .i64 1] 3)).cell? ⟨W.heap.size, 21, none⟩ = some (.slice A3 n3 c3) := cell_keeps (Later.alloc w5 _) (HCS.out w5 W.heap.size (later_cells (HL3.out.trans HL35.out) HB1.out)).1; (have HW5 := Lib.hid hw5); clear hw5 hg5 hs5)
    | (at_builtin; refine wpList_appN (w5.alloc (.cells #[.int .i64 1] 3)) rfl (.tmp 74) (.tmp 76) _ rfl 0 3 i0 _ 8 Try.underlying37 hi hz0 hz1 hz2 rfl (.slice (some ⟨w5.heap.size, 0, none⟩) 1 1) [.int .i64 1] rfl (own_lit1 w5 _ _) W.heap.size A3 n3 c3 (s.sigs.map (Value.int .i64 ·)) rfl (HRD.out.below ((HL1.out.trans HL3.out).trans (HL35.out.trans (Later.alloc w5 _)))) (by intro u hu; obtain ⟨y, _, rfl⟩ := List.mem_map.1 hu; rfl) (by show (1 + n3) * 8 ≤ _; omega) (by show 1 + n3 ≤ _; omega) (Nat.zero_le _) ?_; intro v6 w6 hg6; obtain ⟨⟨A9, n9, c9, rfl⟩, hl6, hl36, hbe, hb6⟩ := HBE.out w3 w5 w6 v6 (HL1.out.trans HL3.out) HL35.out HW5.out hg6; obtain ⟨qa, qz⟩ := HCS.out w6 w3.heap.size hb6; (have HL6 := Lib.hid hl6); (have HBH := Lib.hid hbe); (have HL16 := Lib.hid (HL3.out.trans hl36)); clear hg6 hl6 hl36 hbe hb6)
    | (refine wpList_loadRun rfl 40 (.tmp 2) rfl _ _ rfl (HLD.out _ HL16.out) ?_)
    | (go_at_call 13; (with_reducible refine (HBH.out.s1 _ (Later.refl _)).mono ?_); rintro e w7 ⟨rfl, hl7⟩; (have HL7 := Lib.hid hl7); clear hl7)
    | (refine wpList_loadRunG rfl 40 (.tmp 2) rfl _ _ rfl (HLD.out _ (HL16.out.trans HL7.out)) ?_)
    | (refine wpList_loadRunG rfl 40 (.tmp 7) rfl _ _ rfl (HBH.out.ld _ HL7.out) ?_)
    | (go_at_call 13; (with_reducible refine (HBH.out.s2 w7 HL7.out).mono ?_); rintro e w8 ⟨rfl, hl8⟩; (have HL8 := Lib.hid (HL7.out.trans hl8)); clear hl8)
    | (refine wpList_loadRunG rfl 40 (.tmp 7) rfl _ _ rfl (HBH.out.ld _ HL8.out) ?_)
    | (refine wpList_loadRunG rfl 40 (.tmp 2) rfl _ _ rfl (HLD.out _ (HL16.out.trans HL8.out)) ?_)
    | (go_at_call 13; (with_reducible refine (HBH.out.s3 w8 HL8.out).mono ?_); rintro e w9 ⟨rfl, hl9⟩; (have HL9 := Lib.hid (HL8.out.trans hl9)); clear hl9))
  go_ret
  exact ⟨rfl, HL6.out.trans HL9.out⟩
end Ks
end Go.Proofs.Yteljmlodbnfhbaa
