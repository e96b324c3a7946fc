/- The document's Asked, walked. -/
import Derived.Test.YtbgojfgapbcanaaDoorEvP
namespace Go.Proofs.YtbgojfgapbcanaaDoor
open Go.RowKit
theorem readK {bs b : List UInt8} {t : List UInt8} {row : List (List UInt8)} {nums : List Nat} {long behind : Bool} {e ahead : Nat} (h : readM bs ahead behind = (nums, t, row, long, b, e)) (w : World) (hn : bs.length ≤ 140737488351232) (ha : ahead ≤ 4) (i : Int) (hi : i = (ahead : Int)) (q : Nat) (hq : nums.length = q) :
    Calls Tryd.prog 45 #[.string (mkS bs), .int .i64 i, .bool behind] w fun r w' => ∃ (A : Option Addr) (c : Nat) (A2 : Option Addr) (c2 : Nat),
      r = .returned (.agg (L6 b e A q c t A2 row.length c2 long)) ∧ Rd w' w'.heap.size A q (nums.map nv) ∧ q ≤ c ∧ Rd w' w'.heap.size A2 row.length (row.map sv) ∧ row.length ≤ c2 ∧ Later w w' ∧ (∀ ad, A2 = some ad → w.heap.size ≤ ad.block) := by
  subst hi
  subst hq
  refine (read_v w bs hn ahead ha behind).mono ?_
  rintro r w' ⟨A, c, nums', t', A2, c2, row', b', e', long', rfl, h1, h2, h3, h4, h5, h6, h7⟩
  rw [h] at h1
  simp only [Prod.mk.injEq] at h1
  obtain ⟨rfl, rfl, rfl, rfl, rfl, rfl⟩ := h1
  exact ⟨A, c, A2, c2, rfl, h2, h3, h4, h5, h6, h7⟩
theorem l6cells (w : World) (b : List UInt8) (e : Nat) (A : Option Addr) (n c : Nat) (t : List UInt8) (A2 : Option Addr) (n2 c2 : Nat) (long : Bool) {W : World} (hb : Later (w.alloc (.cells (L6 b e A n c t A2 n2 c2 long) 75)) W) :
    (W.cell? ⟨w.heap.size, 0, none⟩ = some (.string (mkS b)) ∧ W.cell? ⟨w.heap.size, 1, none⟩ = some (.int .i64 (e : Int)) ∧ W.cell? ⟨w.heap.size, 2, none⟩ = some (.slice A n c) ∧ W.cell? ⟨w.heap.size, 3, none⟩ = some (.string (mkS t)) ∧ W.cell? ⟨w.heap.size, 4, none⟩ = some (.slice A2 n2 c2) ∧ W.cell? ⟨w.heap.size, 5, none⟩ = some (.bool long)) ∧ w.heap.size < W.heap.size := by
  obtain ⟨h, hz⟩ := one_cells w (L6 b e A n c t A2 n2 c2 long) 75 (w1 := W) (by have := hb; unfold Later at this; rwa [World.size_alloc] at this)
  exact ⟨⟨h 0, h 1, h 2, h 3, h 4, h 5⟩, hz⟩
set_option maxRecDepth 100000 in
set_option maxHeartbeats 2000000 in
theorem refAsked_v (w : World) (bs : List UInt8) (hn : bs.length ≤ 140737488351232) :
    Calls Tryd.prog 23 #[.string (mkS bs)] w fun r w' => ∃ (k : Nat) (n m : Int) (t : List UInt8) (l : List (List UInt8)) (A' : Option Addr) (c' : Nat) (f : Nat),
      r = .returned (.tuple #[reqV (k : Int) n m t A' l.length c', .int .i64 (f : Int)]) ∧ askedM bs = ((k, n, m, t, l), f) ∧ Rd w' w'.heap.size A' l.length (l.map sv) ∧ l.length ≤ c' ∧ Later w w' := by
  obtain ⟨⟨nums, t, row, long, b, e⟩, hM⟩ : ∃ x, readM bs 3 false = x := ⟨_, rfl⟩
  obtain ⟨kk, hkk⟩ : ∃ kk, kk = kk := ⟨0, rfl⟩
  clear hkk kk
  have hq := fun kk er => askedM_read (kk := kk) (er := er) hM
  obtain ⟨x0, x1, x2, hnums, ⟨l0, l1, l2⟩, _⟩ := hq 0 0
  obtain ⟨kk, hkk⟩ : ∃ kk, kk = if x0 < 12 then x0 else 0 := ⟨_, rfl⟩
  obtain ⟨er, her⟩ : ∃ er, er = faultOf b e long (decide (0 < kk)) := ⟨_, rfl⟩
  obtain ⟨y0, y1, y2, hnums2, _, hfin⟩ := hq kk er
  subst hnums
  simp only [List.cons.injEq, and_true] at hnums2
  obtain ⟨rfl, rfl, rfl⟩ := hnums2
  have HE := Lib.hid (hfin hkk her)
  have crd := fun W => readK hM W hn (by omega) 3 rfl 3 rfl
  have czag1 := fun W => zag4_v x1 W l1
  have czag2 := fun W => zag4_v x2 W l2
  have cfau := fun A n c A2 n2 c2 W => fault_v b e A n c t A2 n2 c2 long (decide (0 < kk)) W
  rw [← her] at cfau
  obtain ⟨z1, hz1⟩ : ∃ z, z = zagZ x1 := ⟨_, rfl⟩
  obtain ⟨z2, hz2⟩ : ∃ z, z = zagZ x2 := ⟨_, rfl⟩
  rw [← hz1] at czag1
  rw [← hz2] at czag2
  rw [← hz1, ← hz2] at HE
  have CRD := Lib.hid crd
  have CZ1 := Lib.hid czag1
  have CZ2 := Lib.hid czag2
  have CFA := Lib.hid cfau
  have HKK := Lib.hid hkk
  have HB0 : Hid (∀ W, Later (w.alloc (.cells Z5 24)) W → (∀ i, W.cell? ⟨w.heap.size, i, none⟩ = Z5[i]?) ∧ (∀ i, W.frozen? ⟨w.heap.size, i, none⟩ = false) ∧ w.heap.size < W.heap.size) := fun W hW => by
    have h0 := heap_alloc_new w (.cells Z5 24)
    have h1 := hW.block w.heap.size (by simp)
    rw [h0] at h1
    exact ⟨fun i => (cell_row h1 i).1, fun i => (cell_row h1 i).2, (Array.getElem?_eq_some_iff.1 h1).1⟩
  have HLT := Lib.hid (And.intro l0 (And.intro l1 l2))
  clear hq hfin crd czag1 czag2 cfau hz1 hz2 hM hn her hkk l0 l1 l2
  go_enter Tryd.func23, Tryd.ntmps23
  go_wp2_with (go_at_call 45; (with_reducible refine (CRD.out _).mono ?_); rintro r w1 ⟨A, c, A2, c2, rfl, hr1, hc1, hr2, hc2, hl1, hlo2⟩)
  obtain ⟨ad, hA0, hadb, hcell⟩ := hr1.2 (by omega)
  subst hA0
  have n0 : w1.cell? ad = some (.int .u64 (x0 : Int)) := hcell 0 _ rfl
  have n1 : w1.cell? ⟨ad.block, ad.off + 1, none⟩ = some (.int .u64 (x1 : Int)) := hcell 1 _ rfl
  have n2 : w1.cell? ⟨ad.block, ad.off + 2, none⟩ = some (.int .u64 (x2 : Int)) := hcell 2 _ rfl
  obtain ⟨wz, hwz⟩ : ∃ wz, wz = w1.alloc (.cells (L6 b e (some ad) 3 c t A2 row.length c2 long) 75) := ⟨_, rfl⟩
  have hLz : Later w1 wz := by rw [hwz]; exact Later.alloc _ _
  have hk0 : ∀ W, Later wz W → Hid (Later wz W) ∧ W.cell? ⟨w1.heap.size, 2, none⟩ = some (.slice (some ad) 3 c) ∧ W.cell? ⟨w1.heap.size, 3, none⟩ = some (.string (mkS t)) ∧ W.cell? ⟨w1.heap.size, 4, none⟩ = some (.slice A2 row.length c2) ∧ W.cell? ⟨ad.block, ad.off + 1, none⟩ = some (.int .u64 (x1 : Int)) ∧ W.cell? ⟨ad.block, ad.off + 2, none⟩ = some (.int .u64 (x2 : Int)) := fun W hW => by
    obtain ⟨⟨h0, h1, h2, h3, h4, h5⟩, _⟩ := l6cells w1 b e (some ad) 3 c t A2 row.length c2 long (W := W) (by rw [← hwz]; exact hW)
    exact ⟨hW, h2, h3, h4, cell_keeps (Later.trans hLz hW) n1, cell_keeps (Later.trans hLz hW) n2⟩
  have hk1 : ∀ W, Later wz W → (W.cell? ⟨w1.heap.size, 0, none⟩ = some (.string (mkS b)) ∧ W.cell? ⟨w1.heap.size, 1, none⟩ = some (.int .i64 (e : Int)) ∧ W.cell? ⟨w1.heap.size, 2, none⟩ = some (.slice (some ad) 3 c) ∧ W.cell? ⟨w1.heap.size, 3, none⟩ = some (.string (mkS t)) ∧ W.cell? ⟨w1.heap.size, 4, none⟩ = some (.slice A2 row.length c2) ∧ W.cell? ⟨w1.heap.size, 5, none⟩ = some (.bool long)) ∧ w1.heap.size < W.heap.size ∧ W.cell? ad = some (.int .u64 (x0 : Int)) := fun W hW => by
    obtain ⟨h, hz⟩ := l6cells w1 b e (some ad) 3 c t A2 row.length c2 long (W := W) (by rw [← hwz]; exact hW)
    exact ⟨h, hz, cell_keeps (Later.trans hLz hW) n0⟩
  have HK := Lib.hid hk0
  have HK1 := Lib.hid hk1
  have HR2 := Lib.hid (rd_later hr2 hLz)
  have HLZ := Lib.hid (Later.trans (Later.trans (Later.alloc w (.cells Z5 24)) hl1) hLz)
  have hb1 : 3 ≤ c := hc1
  have hwsz := Lib.hid hLz.size
  have HL0 := Lib.hid (Later.trans hl1 hLz)
  have HLO := Lib.hid (show ∀ ad, A2 = some ad → w.heap.size + 1 ≤ ad.block from fun ad e => by have := hlo2 ad e; rwa [World.size_alloc] at this)
  rw [← hwz]
  clear hk0 hk1 hwz hLz n0 n1 n2 hr1 hr2 hl1 hcell hadb
  go_region_held (fun W => Hid (Later wz W) ∧ W.cell? ⟨w1.heap.size, 2, none⟩ = some (.slice (some ad) 3 c) ∧ W.cell? ⟨w1.heap.size, 3, none⟩ = some (.string (mkS t)) ∧ W.cell? ⟨w1.heap.size, 4, none⟩ = some (.slice A2 row.length c2) ∧ W.cell? ⟨ad.block, ad.off + 1, none⟩ = some (.int .u64 (x1 : Int)) ∧ W.cell? ⟨ad.block, ad.off + 2, none⟩ = some (.int .u64 (x2 : Int))) (first | assumption | exact HK.out _ (Later.drew _) | exact HK.out _ (Later.trans (Later.alloc _ _) (Later.drew _))) (first
    | (go_at_call 46; (first | (with_reducible refine (CZ1.out _).mono ?_) | (with_reducible refine (CZ2.out _).mono ?_)); rintro r w' ⟨rfl, rfl⟩))
  all_goals
    obtain ⟨⟨q0, q1, q2, q3, q4, q5⟩, qz, n0⟩ := HK1.out wz (Later.refl _)
    have hadz := World.block_lt_of_cell? wz ad n0
    have hl0 := HLT.out.1
    by_cases hx : x0 < 12
    · have hxi : (x0 : Int) < 12 := by omega
      have hkx : kk = x0 := by rw [HKK.out, if_pos hx]
      subst hkx
      have hwx : IntKind.i64.wrap (kk : Int) = (kk : Int) := by rw [IntKind.wrap_i64]; omega
      clear HKK HK HK1 CRD CZ1 CZ2 HLT hl0
      by_cases he0 : er = 0
      · subst he0
        go_wp2_with (go_at_call 47; (with_reducible refine (CFA.out (some ad) 3 c A2 row.length c2 _).mono ?_); rintro r w3 ⟨rfl, hb3⟩; have L3 := Lib.hid (Later.trans (Later.drew _) hb3); obtain ⟨g0, g1, g2, g3, g4⟩ := qcellsK wz (kk : Int) z1 z2 t A2 row.length c2 L3.out; obtain ⟨hc, hfz, hz3⟩ := HB0.out w3 (Later.trans (Later.trans HL0.out (Later.alloc wz _)) L3.out); have p0 := hc 0; have p1 := hc 1; have p2 := hc 2; have p3 := hc 3; have p4 := hc 4; simp only [lit5_0, lit5_1, lit5_2, lit5_3, lit5_4] at p0 p1 p2 p3 p4; have hz4 := Nat.lt_of_lt_of_le (Nat.lt_succ_self wz.heap.size) (by have := L3.out.size; rw [World.size_alloc] at this; exact this); clear hc hb3)
        refine bodyPost_ret (v := .tuple #[.agg #[.int .i64 (kk : Int), .int .i64 z1, .int .i64 z2, .string (mkS t), .slice A2 row.length c2], .int .i64 0]) (by simp [results, Tryd.results23, go_sem, p0, p1, p2, p3, p4]) rfl
          ⟨kk, z1, z2, t, row, A2, c2, 0, rfl, HE.out.2 trivial, ?_, hc2, ?_⟩
        · have h9 := rd_later HR2.out (Later.trans (Later.alloc wz _) L3.out)
          have hne : ∀ ad, A2 = some ad → ad.block ≠ w.heap.size := fun ad e => by have := HLO.out ad e; omega
          have := rd_set (rd_set (rd_set (rd_set (rd_set h9 hne 0 (.int .i64 (kk : Int))) hne 1 (.int .i64 z1)) hne 2 (.int .i64 z2)) hne 3 (.string (mkS t))) hne 4 (.slice A2 row.length c2)
          exact this.more (by simp)
        · exact (((((Later.trans HLZ.out (Later.trans (Later.alloc wz _) L3.out)).setCell (by simp) _).setCell (by simp) _).setCell (by simp) _).setCell (by simp) _).setCell (by simp) _
      · have hne : (er != 0) = true := by simpa using he0
        obtain ⟨hA, her0⟩ := HE.out.1 he0
        obtain ⟨eN, rfl⟩ : ∃ eN : Nat, er = (eN : Int) := ⟨er.toNat, by omega⟩
        have HAE := Lib.hid hA
        clear HE he0 hA her0
        go_wp2_with (go_at_call 47; (with_reducible refine (CFA.out (some ad) 3 c A2 row.length c2 _).mono ?_); rintro r w3 ⟨rfl, hb3⟩; have L3 := Lib.hid (Later.trans (Later.drew _) hb3); obtain ⟨g0, g1, g2, g3, g4⟩ := qcellsK wz (kk : Int) z1 z2 t A2 row.length c2 L3.out; obtain ⟨hc, hfz, hz3⟩ := HB0.out w3 (Later.trans (Later.trans HL0.out (Later.alloc wz _)) L3.out); have p0 := hc 0; have p1 := hc 1; have p2 := hc 2; have p3 := hc 3; have p4 := hc 4; simp only [lit5_0, lit5_1, lit5_2, lit5_3, lit5_4] at p0 p1 p2 p3 p4; have hz4 := Nat.lt_of_lt_of_le (Nat.lt_succ_self wz.heap.size) (by have := L3.out.size; rw [World.size_alloc] at this; exact this); clear hc hb3)
        refine bodyPost_ret (v := .tuple #[.agg Z5, .int .i64 (eN : Int)]) (by simp [results, Tryd.results23, go_sem, p0, p1, p2, p3, p4]) rfl
          ⟨0, 0, 0, [], [], none, 0, eN, rfl, by rw [HAE.out]; rfl, Rd.nil_, Nat.le_refl _, ?_⟩
        exact (((((Later.trans HLZ.out (Later.trans (Later.alloc wz _) L3.out)).setCell (by simp) _).setCell (by simp) _).setCell (by simp) _).setCell (by simp) _).setCell (by simp) _
    · have hxi : ¬ (x0 : Int) < 12 := by omega
      have hkx : kk = 0 := by rw [HKK.out, if_neg hx]
      subst hkx
      have cf := CFA.out
      rw [show decide (0 < 0) = false from rfl] at cf
      clear CFA
      have CFA := Lib.hid cf
      clear HKK HK HK1 CRD CZ1 CZ2 HLT hl0 cf
      by_cases he0 : er = 0
      · subst he0
        go_wp2_with (go_at_call 47; (with_reducible refine (CFA.out (some ad) 3 c A2 row.length c2 _).mono ?_); rintro r w3 ⟨rfl, hb3⟩; have L3 := Lib.hid (Later.trans (Later.drew _) hb3); obtain ⟨g0, g1, g2, g3, g4⟩ := qcellsK wz (0 : Int) z1 z2 t A2 row.length c2 L3.out; obtain ⟨hc, hfz, hz3⟩ := HB0.out w3 (Later.trans (Later.trans HL0.out (Later.alloc wz _)) L3.out); have p0 := hc 0; have p1 := hc 1; have p2 := hc 2; have p3 := hc 3; have p4 := hc 4; simp only [lit5_0, lit5_1, lit5_2, lit5_3, lit5_4] at p0 p1 p2 p3 p4; have hz4 := Nat.lt_of_lt_of_le (Nat.lt_succ_self wz.heap.size) (by have := L3.out.size; rw [World.size_alloc] at this; exact this); clear hc hb3)
        refine bodyPost_ret (v := .tuple #[.agg #[.int .i64 (0 : Int), .int .i64 z1, .int .i64 z2, .string (mkS t), .slice A2 row.length c2], .int .i64 0]) (by simp [results, Tryd.results23, go_sem, p0, p1, p2, p3, p4]) rfl
          ⟨0, z1, z2, t, row, A2, c2, 0, rfl, HE.out.2 trivial, ?_, hc2, ?_⟩
        · have h9 := rd_later HR2.out (Later.trans (Later.alloc wz _) L3.out)
          have hne : ∀ ad, A2 = some ad → ad.block ≠ w.heap.size := fun ad e => by have := HLO.out ad e; omega
          have := rd_set (rd_set (rd_set (rd_set (rd_set h9 hne 0 (.int .i64 (0 : Int))) hne 1 (.int .i64 z1)) hne 2 (.int .i64 z2)) hne 3 (.string (mkS t))) hne 4 (.slice A2 row.length c2)
          exact this.more (by simp)
        · exact (((((Later.trans HLZ.out (Later.trans (Later.alloc wz _) L3.out)).setCell (by simp) _).setCell (by simp) _).setCell (by simp) _).setCell (by simp) _).setCell (by simp) _
      · have hne : (er != 0) = true := by simpa using he0
        obtain ⟨hA, her0⟩ := HE.out.1 he0
        obtain ⟨eN, rfl⟩ : ∃ eN : Nat, er = (eN : Int) := ⟨er.toNat, by omega⟩
        have HAE := Lib.hid hA
        clear HE he0 hA her0
        go_wp2_with (go_at_call 47; (with_reducible refine (CFA.out (some ad) 3 c A2 row.length c2 _).mono ?_); rintro r w3 ⟨rfl, hb3⟩; have L3 := Lib.hid (Later.trans (Later.drew _) hb3); obtain ⟨g0, g1, g2, g3, g4⟩ := qcellsK wz (0 : Int) z1 z2 t A2 row.length c2 L3.out; obtain ⟨hc, hfz, hz3⟩ := HB0.out w3 (Later.trans (Later.trans HL0.out (Later.alloc wz _)) L3.out); have p0 := hc 0; have p1 := hc 1; have p2 := hc 2; have p3 := hc 3; have p4 := hc 4; simp only [lit5_0, lit5_1, lit5_2, lit5_3, lit5_4] at p0 p1 p2 p3 p4; have hz4 := Nat.lt_of_lt_of_le (Nat.lt_succ_self wz.heap.size) (by have := L3.out.size; rw [World.size_alloc] at this; exact this); clear hc hb3)
        refine bodyPost_ret (v := .tuple #[.agg Z5, .int .i64 (eN : Int)]) (by simp [results, Tryd.results23, go_sem, p0, p1, p2, p3, p4]) rfl
          ⟨0, 0, 0, [], [], none, 0, eN, rfl, by rw [HAE.out]; rfl, Rd.nil_, Nat.le_refl _, ?_⟩
        exact (((((Later.trans HLZ.out (Later.trans (Later.alloc wz _) L3.out)).setCell (by simp) _).setCell (by simp) _).setCell (by simp) _).setCell (by simp) _).setCell (by simp) _
end Go.Proofs.YtbgojfgapbcanaaDoor
