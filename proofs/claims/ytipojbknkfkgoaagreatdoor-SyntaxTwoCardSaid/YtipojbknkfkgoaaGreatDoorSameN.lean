/- The document's Node: nodes that read alike are the same, but for their lines. No premises. -/
import Derived.Test.YtipojbknkfkgoaaGreatDoorSameT
namespace Go.Proofs.YtipojbknkfkgoaaGreatDoor
open Go.RowKit Go.Maps
open Lx (nl Tok)
open Pz
/-- Redirections, as the walks read them. -/
def RdR (w : World) (B : Nat) (A : Option Addr) (n : Nat) (rs : List Sx.Arw) : Prop := rs.length = n ∧ ∀ (k : Nat) (h : k < rs.length), ∃ g, A = some ⟨g, 0, none⟩ ∧ g < B ∧ w.cell? ⟨g, k * 4, none⟩ = some (.int .i64 (rs[k].fd : Int)) ∧ w.cell? ⟨g, k * 4 + 1, none⟩ = some (.string (mkS rs[k].op)) ∧ w.cell? ⟨g, k * 4 + 2, none⟩ = some (.string (mkS rs[k].word)) ∧ w.cell? ⟨g, k * 4 + 3, none⟩ = some (.string (mkS rs[k].body))
theorem RdR.below {w w' : World} {B n : Nat} {A : Option Addr} {rs : List Sx.Arw} (h : RdR w B A n rs) (hb : Below B w w') : RdR w' B A n rs := by
  refine ⟨h.1, fun k hk => ?_⟩
  obtain ⟨g, e, hg, c0, c1, c2, c3⟩ := h.2 k hk
  exact ⟨g, e, hg, (hb.cell (p := ⟨g, k * 4, none⟩) hg).trans c0, (hb.cell (p := ⟨g, k * 4 + 1, none⟩) hg).trans c1, (hb.cell (p := ⟨g, k * 4 + 2, none⟩) hg).trans c2, (hb.cell (p := ⟨g, k * 4 + 3, none⟩) hg).trans c3⟩
theorem RdR.more {w : World} {B B' n : Nat} {A : Option Addr} {rs : List Sx.Arw} (h : RdR w B A n rs) (hB : B ≤ B') : RdR w B' A n rs := by
  refine ⟨h.1, fun k hk => ?_⟩
  obtain ⟨g, e, hg, c⟩ := h.2 k hk
  exact ⟨g, e, Nat.lt_of_lt_of_le hg hB, c⟩
theorem rcs_at : ∀ (rs : List Sx.Arw) (k : Nat) (hk : k < rs.length) (i : Nat) (_ : i < 4), (rs.flatMap rcs)[k * 4 + i]? = (rcs rs[k])[i]?
  | [], k, hk, _, _ => by simp at hk
  | x :: rs, 0, _, i, hi => by
    rw [List.flatMap_cons, List.getElem?_append_left (by simp [rcs]; omega)]
    simp
  | x :: rs, k + 1, hk, i, hi => by
    have hl : (rcs x).length = 4 := rfl
    rw [List.flatMap_cons, List.getElem?_append_right (by omega), hl, show (k + 1) * 4 + i - 4 = k * 4 + i by omega, rcs_at rs k (by simpa using hk) i hi]
    rfl
theorem RdR.of_own {w : World} {A : Option Addr} {c : Nat} {rs : List Sx.Arw} (h : w.ownsRow 0 63 4 (.slice A rs.length c) rs.length (rs.flatMap rcs)) : RdR w w.heap.size A rs.length rs := by
  refine ⟨rfl, fun k hk => ?_⟩
  rcases h.2 with ⟨hv, hn⟩ | ⟨g, cap, cur, hv, hb, hh, hnc, hcm, hcs, htake⟩
  · omega
  · injection hv with e1 e2 e3
    subst e1
    have hat : ∀ i, i < 4 → ∀ u, (rcs rs[k])[i]? = some u → w.cell? ⟨g, k * 4 + i, none⟩ = some u := fun i hi u hu => by
      have hc := h.cells (g := g) rfl (k * 4 + i) u (by rw [rcs_at rs k hk i hi]; exact hu)
      rwa [add_lit0] at hc
    have c0 := hat 0 (by omega) _ rfl
    exact ⟨g, rfl, World.block_lt_of_cell? w _ c0, c0, hat 1 (by omega) _ rfl, hat 2 (by omega) _ rfl, hat 3 (by omega) _ rfl⟩
set_option maxHeartbeats 3200000 in
set_option maxRecDepth 100000 in
theorem node_v (w : World) (kd st ln ln' : Int) (t : List UInt8) (f : Bool) (ws : List (List UInt8)) (rs : List Sx.Arw) (ks : List Nat) (Aw Ar Ak Aw' Ar' Ak' : Option Addr) (nw nr nk cw cr ck cw' cr' ck' : Nat)
    (hw : Rd w w.heap.size Aw nw (ws.map sv)) (hw' : Rd w w.heap.size Aw' nw (ws.map sv)) (hr : RdR w w.heap.size Ar nr rs) (hr' : RdR w w.heap.size Ar' nr rs) (hk : Rd w w.heap.size Ak nk (ks.map iv)) (hk' : Rd w w.heap.size Ak' nk (ks.map iv)) (hnw : nw ≤ maxLen) (hnr : nr ≤ maxLen) (hnk : nk ≤ maxLen) :
    Calls Tryz.prog 13 #[.agg #[.int .i64 kd, .string (mkS t), .bool f, .slice Aw nw cw, .int .i64 st, .slice Ar nr cr, .slice Ak nk ck, .int .i64 ln], .agg #[.int .i64 kd, .string (mkS t), .bool f, .slice Aw' nw cw', .int .i64 st, .slice Ar' nr cr', .slice Ak' nk ck', .int .i64 ln']] w fun e w' => e = .returned (.bool true) ∧ Later w w' := by
  have HW := Lib.hid hw
  have HW' := Lib.hid hw'
  have HR := Lib.hid hr
  have HR' := Lib.hid hr'
  have HK := Lib.hid hk
  have HK' := Lib.hid hk'
  have HNW := Lib.hid hnw
  have e0 : (kd != kd) = false := by simp
  have e1 := self_text t
  have e2 : (f != f) = false := by simp
  have e3 : (st != st) = false := by simp
  have e4 : ((nk : Int) != (nk : Int)) = false := by simp
  have e5 : ((nr : Int) != (nr : Int)) = false := by simp
  clear hw hw' hr hr' hk hk'
  unfold maxLen at hnw hnr hnk
  have HT := Lib.hid (show ∀ W, Later w W → Calls Tryz.prog 26 #[.slice Aw nw cw, .slice Aw' nw cw'] W fun e W' => e = .returned (.bool true) ∧ Later W W' from fun W hW => texts_v Aw Aw' nw cw cw' ws W ((HW.out.below hW).more hW.size) ((HW'.out.below hW).more hW.size) HNW.out)
  go_enter Tryz.func13, Tryz.ntmps13
  go_wp2_with (go_at_call 26; fail)
  (with_reducible refine (HT.out _ ((Later.alloc _ _).trans (Later.alloc _ _))).mono ?_)
  rintro e w1 ⟨rfl, hl1⟩
  have hb1 := later_cells ((Later.alloc (w.alloc (.cells #[.int .i64 kd, .string (mkS t), .bool f, .slice Aw nw cw, .int .i64 st, .slice Ar nr cr, .slice Ak nk ck, .int .i64 ln] 35)) (.cells #[.int .i64 kd, .string (mkS t), .bool f, .slice Aw' nw cw', .int .i64 st, .slice Ar' nr cr', .slice Ak' nk ck', .int .i64 ln'] 35)).trans hl1) (heap_alloc_new w (.cells #[.int .i64 kd, .string (mkS t), .bool f, .slice Aw nw cw, .int .i64 st, .slice Ar nr cr, .slice Ak nk ck, .int .i64 ln] 35))
  have hb2 : w1.heap[w.heap.size + 1]? = some (.cells #[.int .i64 kd, .string (mkS t), .bool f, .slice Aw' nw cw', .int .i64 st, .slice Ar' nr cr', .slice Ak' nk ck', .int .i64 ln'] 35 (0, 0)) := by (have h := later_cells hl1 (heap_alloc_new (w.alloc (.cells #[.int .i64 kd, .string (mkS t), .bool f, .slice Aw nw cw, .int .i64 st, .slice Ar nr cr, .slice Ak nk ck, .int .i64 ln] 35)) (.cells #[.int .i64 kd, .string (mkS t), .bool f, .slice Aw' nw cw', .int .i64 st, .slice Ar' nr cr', .slice Ak' nk ck', .int .i64 ln'] 35)); simpa using h)
  have HL1 := Lib.hid (((Later.alloc w (.cells #[.int .i64 kd, .string (mkS t), .bool f, .slice Aw nw cw, .int .i64 st, .slice Ar nr cr, .slice Ak nk ck, .int .i64 ln] 35)).trans (Later.alloc _ (.cells #[.int .i64 kd, .string (mkS t), .bool f, .slice Aw' nw cw', .int .i64 st, .slice Ar' nr cr', .slice Ak' nk ck', .int .i64 ln'] 35))).trans hl1)
  have HB1 := Lib.hid hb1
  have HB2 := Lib.hid hb2
  have x0 : w1.cell? ⟨w.heap.size, 0, none⟩ = some (.int .i64 kd) := (cell_row hb1 0).1
  have x1 : w1.cell? ⟨w.heap.size, 1, none⟩ = some (.string (mkS t)) := (cell_row hb1 1).1
  have x2 : w1.cell? ⟨w.heap.size, 2, none⟩ = some (.bool f) := (cell_row hb1 2).1
  have x3 : w1.cell? ⟨w.heap.size, 3, none⟩ = some (.slice Aw nw cw) := (cell_row hb1 3).1
  have x4 : w1.cell? ⟨w.heap.size, 4, none⟩ = some (.int .i64 st) := (cell_row hb1 4).1
  have x5 : w1.cell? ⟨w.heap.size, 5, none⟩ = some (.slice Ar nr cr) := (cell_row hb1 5).1
  have x6 : w1.cell? ⟨w.heap.size, 6, none⟩ = some (.slice Ak nk ck) := (cell_row hb1 6).1
  have y0 : w1.cell? ⟨w.heap.size + 1, 0, none⟩ = some (.int .i64 kd) := (cell_row hb2 0).1
  have y1 : w1.cell? ⟨w.heap.size + 1, 1, none⟩ = some (.string (mkS t)) := (cell_row hb2 1).1
  have y2 : w1.cell? ⟨w.heap.size + 1, 2, none⟩ = some (.bool f) := (cell_row hb2 2).1
  have y3 : w1.cell? ⟨w.heap.size + 1, 3, none⟩ = some (.slice Aw' nw cw') := (cell_row hb2 3).1
  have y4 : w1.cell? ⟨w.heap.size + 1, 4, none⟩ = some (.int .i64 st) := (cell_row hb2 4).1
  have y5 : w1.cell? ⟨w.heap.size + 1, 5, none⟩ = some (.slice Ar' nr cr') := (cell_row hb2 5).1
  have y6 : w1.cell? ⟨w.heap.size + 1, 6, none⟩ = some (.slice Ak' nk ck') := (cell_row hb2 6).1
  clear hl1 hb1 hb2
  go_wp2
  go_loopw [6] (fun i wr => ∃ k : Nat, k ≤ nk ∧ i = .int .i64 (k : Int) ∧ Later w1 wr) (fun i _ => nk - (intOf i).toNat)
  case atStart => exact ⟨0, by omega, rfl, Later.refl _⟩
  case round =>
    obtain ⟨k, hk, rfl, hb⟩ := hrel
    have HB := Lib.hid hb
    have hb1 := later_cells hb HB1.out
    have hb2 := later_cells hb HB2.out
    have x6 : wr.cell? ⟨w.heap.size, 6, none⟩ = some (.slice Ak nk ck) := (cell_row hb1 6).1
    have y6 : wr.cell? ⟨w.heap.size + 1, 6, none⟩ = some (.slice Ak' nk ck') := (cell_row hb2 6).1
    have hk0 : (0 : Int) ≤ (k : Int) := by omega
    by_cases hlt : k < nk
    · obtain ⟨ad, hl1, rfl, _, hc⟩ := (HK.out.below (HL1.out.trans HB.out)).at_map (k := k) hlt
      obtain ⟨ad', hl2, rfl, _, hc'⟩ := (HK'.out.below (HL1.out.trans HB.out)).at_map (k := k) hlt
      have hk1 : (k : Int) < (nk : Int) := by omega
      obtain ⟨x, hx⟩ : ∃ x, x = ks[k] := ⟨_, rfl⟩
      rw [← hx] at hc hc'
      have hc1 : wr.cell? (ad.add k) = some (.int .i64 (x : Int)) := hc
      have hc2 : wr.cell? (ad'.add k) = some (.int .i64 (x : Int)) := hc'
      have e9 : ((x : Int) != (x : Int)) = false := by simp
      clear hc hc' hx hl1 hl2 hb1 hb2 hb
      go_wp2
      go_quiet (fail)
      go_wp2
      go_roundw
      case rel => exact ⟨k + 1, by omega, by go_num, Later.trans HB.out (Below.drewN _ _ _)⟩
      case measure => simp [intOf]; omega
    · have hk1 : ¬ (k : Int) < (nk : Int) := by omega
      clear hb1 hb2 hb
      go_wp2
      obtain ⟨wA, rfl⟩ : ∃ wA, wA = wr := ⟨_, rfl⟩
      clear x6 y6
      go_loopw [7] (fun i wr => ∃ k : Nat, k ≤ nr ∧ i = .int .i64 (k : Int) ∧ Later wA wr) (fun i _ => nr - (intOf i).toNat)
      case atStart => exact ⟨0, by omega, rfl, Later.refl _⟩
      case round =>
        obtain ⟨j, hj, rfl, hb⟩ := hrel
        have HBB := Lib.hid hb
        have hb1 := later_cells hb (later_cells HB.out HB1.out)
        have hb2 := later_cells hb (later_cells HB.out HB2.out)
        have x5 : wr.cell? ⟨w.heap.size, 5, none⟩ = some (.slice Ar nr cr) := (cell_row hb1 5).1
        have y5 : wr.cell? ⟨w.heap.size + 1, 5, none⟩ = some (.slice Ar' nr cr') := (cell_row hb2 5).1
        have hj0 : (0 : Int) ≤ (j : Int) := by omega
        by_cases hlt2 : j < nr
        · have hlr := (HL1.out.trans HB.out).trans HBB.out
          obtain ⟨g, rfl, _, a0, a1, a2, a3⟩ := (HR.out.below hlr).2 j (by have := HR.out.1; omega)
          obtain ⟨g', rfl, _, b0, b1, b2, b3⟩ := (HR'.out.below hlr).2 j (by have := HR.out.1; omega)
          have hj1 : (j : Int) < (nr : Int) := by omega
          obtain ⟨x, hx⟩ : ∃ x, x = rs[j]'(by have := HR.out.1; omega) := ⟨_, rfl⟩
          rw [← hx] at a0 a1 a2 a3 b0 b1 b2 b3
          have f1 := self_text x.op
          have f2 := self_text x.word
          have f3 := self_text x.body
          clear hx hb1 hb2 hb hlr
          go_wp2
          go_quiet (fail)
          go_wp2
          go_roundw
          case rel => exact ⟨j + 1, by omega, by go_num, Later.trans HBB.out (Below.drewN _ _ _)⟩
          case measure => simp [intOf]; omega
        · have hj1 : ¬ (j : Int) < (nr : Int) := by omega
          clear hb1 hb2 hb
          go_wp2
          go_ret
          exact ⟨rfl, (HL1.out.trans HB.out).trans HBB.out⟩
end Go.Proofs.YtipojbknkfkgoaaGreatDoor
