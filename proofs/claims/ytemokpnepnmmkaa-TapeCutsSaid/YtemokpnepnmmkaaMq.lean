/- The document's Told, walked. -/
import Derived.Test.YtemokpnepnmmkaaMp
import Derived.Test.YtemokpnepnmmkaaMm
import Derived.Test.YtemokpnepnmmkaaMn
namespace Go.Proofs.Ytemokpnepnmmkaa
open Go.RowKit
theorem rightT_cases {x0 x1 x4 q : Nat} (hq : q = 4 ∨ q = 5) : (¬ 0 < x0 ∧ rightT x0 x1 x4 q = false) ∨ (0 < x0 ∧ ¬ x0 < 12 ∧ rightT x0 x1 x4 q = false) ∨ (0 < x0 ∧ x0 < 12 ∧ ¬ x1 < 256 ∧ rightT x0 x1 x4 q = false) ∨ (0 < x0 ∧ x0 < 12 ∧ x1 < 256 ∧ q = 4 ∧ rightT x0 x1 x4 q = false) ∨ (0 < x0 ∧ x0 < 12 ∧ x1 < 256 ∧ q = 5 ∧ ¬ x4 < 65 ∧ rightT x0 x1 x4 q = false) ∨ (0 < x0 ∧ x0 < 12 ∧ x1 < 256 ∧ q = 5 ∧ x4 < 65 ∧ rightT x0 x1 x4 q = true) := by
  unfold rightT
  by_cases h1 : 0 < x0
  case neg => exact .inl ⟨h1, decide_eq_false (by omega)⟩
  by_cases h2 : x0 < 12
  case neg => exact .inr (.inl ⟨h1, h2, decide_eq_false (by omega)⟩)
  by_cases h3 : x1 < 256
  case neg => exact .inr (.inr (.inl ⟨h1, h2, h3, decide_eq_false (by omega)⟩))
  rcases hq with rfl | rfl
  · exact .inr (.inr (.inr (.inl ⟨h1, h2, h3, rfl, decide_eq_false (by omega)⟩)))
  by_cases h5 : x4 < 65
  case neg => exact .inr (.inr (.inr (.inr (.inl ⟨h1, h2, h3, rfl, h5, decide_eq_false (by omega)⟩))))
  exact .inr (.inr (.inr (.inr (.inr ⟨h1, h2, h3, rfl, h5, decide_eq_true (by omega)⟩))))
set_option maxRecDepth 100000 in
set_option maxHeartbeats 8000000 in
theorem refTold_v (w : World) (bs : List UInt8) (hn : bs.length ≤ 140737488351232) :
    Calls Try.prog 36 #[.string (mkS bs)] w fun r w' => ∃ (k e : Nat) (n m : Int) (t : List UInt8) (l : List (List UInt8)) (s : Nat) (A' : Option Addr) (c' : Nat) (f : Nat),
      r = .returned (.tuple #[ansV (k : Int) (e : Int) n m t A' l.length c' (s : Int), .int .i64 (f : Int)]) ∧ toldM bs = ((k, e, n, m, t, l, s), f) ∧ Rd w' w'.heap.size A' l.length (l.map sv) ∧ l.length ≤ c' ∧ Later w w' ∧ (∀ ad, A' = some ad → w.heap.size ≤ ad.block) := by
  obtain ⟨⟨nums, t, row, long, b, e⟩, hM⟩ : ∃ x, readM bs 4 true = x := ⟨_, rfl⟩
  obtain ⟨x0, x1, x2, x3, x4, q, hlt, hnums, hfin⟩ := toldM_read hM
  have hq4 : 4 ≤ q := by rcases hnums with ⟨h, _⟩ | ⟨h, _⟩ <;> omega
  have hql : nums.length = q := by rcases hnums with ⟨rfl, rfl⟩ | ⟨rfl, rfl⟩ <;> rfl
  have g0 : nums[0]? = some x0 := by rcases hnums with ⟨_, rfl⟩ | ⟨_, rfl⟩ <;> rfl
  have g1 : nums[1]? = some x1 := by rcases hnums with ⟨_, rfl⟩ | ⟨_, rfl⟩ <;> rfl
  have g2 : nums[2]? = some x2 := by rcases hnums with ⟨_, rfl⟩ | ⟨_, rfl⟩ <;> rfl
  have g3 : nums[3]? = some x3 := by rcases hnums with ⟨_, rfl⟩ | ⟨_, rfl⟩ <;> rfl
  have g4 : q = 5 → nums[4]? = some x4 := fun h5 => by
    rcases hnums with ⟨h, _⟩ | ⟨_, rfl⟩
    · omega
    · rfl
  have hq45 : q = 4 ∨ q = 5 := by rcases hnums with ⟨h, _⟩ | ⟨h, _⟩ <;> simp [h]
  obtain ⟨er, her⟩ : ∃ er, er = faultOf b e long (rightT x0 x1 x4 q) := ⟨_, rfl⟩
  have HE := Lib.hid (hfin er her)
  obtain ⟨l0, l1, l2, l3, l4⟩ := hlt
  have crd := fun W => readK hM W hn (by omega) 4 rfl q hql
  have czag1 := fun W => zag4_v x2 W l2
  have czag2 := fun W => zag4_v x3 W l3
  have cfau := fun A n c A2 n2 c2 W => fault_v b e A n c t A2 n2 c2 long (rightT x0 x1 x4 q) W
  rw [← her] at cfau
  obtain ⟨z1, hz1⟩ : ∃ z, z = zagZ x2 := ⟨_, rfl⟩
  obtain ⟨z2, hz2⟩ : ∃ z, z = zagZ x3 := ⟨_, rfl⟩
  rw [← hz1] at czag1
  rw [← hz2] at czag2
  rw [← hz1, ← hz2] at HE
  have CRD := Lib.hid crd
  have CZ1 := Lib.hid czag1
  have CZ2 := Lib.hid czag2
  have CFA := Lib.hid cfau
  have HB0 : Hid (∀ W, Later (w.alloc (.cells Z7 34)) W → (∀ i, W.cell? ⟨w.heap.size, i, none⟩ = Z7[i]?) ∧ (∀ i, W.frozen? ⟨w.heap.size, i, none⟩ = false) ∧ w.heap.size < W.heap.size) := fun W hW => by
    have h0 := heap_alloc_new w (.cells Z7 34)
    have h1 := hW.block w.heap.size (by simp)
    rw [h0] at h1
    exact ⟨fun i => (cell_row h1 i).1, fun i => (cell_row h1 i).2, (Array.getElem?_eq_some_iff.1 h1).1⟩
  have HG := Lib.hid (And.intro g0 (And.intro g1 (And.intro g2 (And.intro g3 g4))))
  have HLT := Lib.hid (And.intro l0 (And.intro l1 (And.intro l4 hq45)))
  clear hfin crd czag1 czag2 cfau hz1 hz2 hM hn her l0 l1 l2 l3 l4 hnums hql g0 g1 g2 g3 g4 hq45
  go_enter Try.func36, Try.ntmps36
  go_wp2_with (go_at_call 51; (with_reducible refine (CRD.out _).mono ?_); rintro r w1 ⟨A, c, A2, c2, rfl, hr1, hc1, hr2, hc2, hl1, hlo2⟩)
  obtain ⟨ad, hA0, hadb, hcell⟩ := hr1.2 (by omega)
  subst hA0
  have n0 : w1.cell? ad = some (.int .u64 (x0 : Int)) := hcell 0 (nv x0) (by rw [List.getElem?_map, HG.out.1]; rfl)
  have n1 : w1.cell? ⟨ad.block, ad.off + 1, none⟩ = some (.int .u64 (x1 : Int)) := hcell 1 (nv x1) (by rw [List.getElem?_map, HG.out.2.1]; rfl)
  have n2 : w1.cell? ⟨ad.block, ad.off + 2, none⟩ = some (.int .u64 (x2 : Int)) := hcell 2 (nv x2) (by rw [List.getElem?_map, HG.out.2.2.1]; rfl)
  have n3 : w1.cell? ⟨ad.block, ad.off + 3, none⟩ = some (.int .u64 (x3 : Int)) := hcell 3 (nv x3) (by rw [List.getElem?_map, HG.out.2.2.2.1]; rfl)
  have n4 : q = 5 → w1.cell? ⟨ad.block, ad.off + 4, none⟩ = some (.int .u64 (x4 : Int)) := fun h5 => hcell 4 (nv x4) (by rw [List.getElem?_map, HG.out.2.2.2.2 h5]; rfl)
  obtain ⟨wz, hwz⟩ : ∃ wz, wz = w1.alloc (.cells (L6 b e (some ad) q c t A2 row.length c2 long) 98) := ⟨_, rfl⟩
  have hLz : Later w1 wz := by rw [hwz]; exact Later.alloc _ _
  have hk0 : ∀ W, Later wz W → Hid (Later wz W) ∧ W.cell? ⟨w1.heap.size, 2, none⟩ = some (.slice (some ad) q c) ∧ W.cell? ⟨w1.heap.size, 3, none⟩ = some (.string (mkS t)) ∧ W.cell? ⟨w1.heap.size, 4, none⟩ = some (.slice A2 row.length c2) ∧ W.cell? ⟨ad.block, ad.off + 2, none⟩ = some (.int .u64 (x2 : Int)) ∧ W.cell? ⟨ad.block, ad.off + 3, none⟩ = some (.int .u64 (x3 : Int)) := fun W hW => by
    obtain ⟨⟨h0, h1, h2, h3, h4, h5⟩, _⟩ := l6cells w1 b e (some ad) q c t A2 row.length c2 long (W := W) (by rw [← hwz]; exact hW)
    exact ⟨hW, h2, h3, h4, cell_keeps (Later.trans hLz hW) n2, cell_keeps (Later.trans hLz hW) n3⟩
  have hk1 : ((wz.cell? ⟨w1.heap.size, 0, none⟩ = some (.string (mkS b)) ∧ wz.cell? ⟨w1.heap.size, 1, none⟩ = some (.int .i64 (e : Int)) ∧ wz.cell? ⟨w1.heap.size, 2, none⟩ = some (.slice (some ad) q c) ∧ wz.cell? ⟨w1.heap.size, 3, none⟩ = some (.string (mkS t)) ∧ wz.cell? ⟨w1.heap.size, 4, none⟩ = some (.slice A2 row.length c2) ∧ wz.cell? ⟨w1.heap.size, 5, none⟩ = some (.bool long)) ∧ w1.heap.size < wz.heap.size) ∧ wz.cell? ad = some (.int .u64 (x0 : Int)) ∧ wz.cell? ⟨ad.block, ad.off + 1, none⟩ = some (.int .u64 (x1 : Int)) ∧ (q = 5 → wz.cell? ⟨ad.block, ad.off + 4, none⟩ = some (.int .u64 (x4 : Int))) :=
    ⟨l6cells w1 b e (some ad) q c t A2 row.length c2 long (W := wz) (by rw [← hwz]; exact Later.refl _), cell_keeps hLz n0, cell_keeps hLz n1, fun h5 => cell_keeps hLz (n4 h5)⟩
  have HK := Lib.hid hk0
  have HK1 := Lib.hid hk1
  have HR2 := Lib.hid (rd_later hr2 hLz)
  have HLZ := Lib.hid (Later.trans (Later.trans (Later.alloc w (.cells Z7 34)) hl1) hLz)
  have HL0 := Lib.hid (Later.trans hl1 hLz)
  have HLO := Lib.hid (show ∀ ad, A2 = some ad → w.heap.size + 1 ≤ ad.block from fun ad e => by have := hlo2 ad e; rwa [World.size_alloc] at this)
  have hbq : q ≤ c := hc1
  have k1 : (1 : Int) < (q : Int) := by omega
  have k2 : (2 : Int) < (q : Int) := by omega
  have k3 : (3 : Int) < (q : Int) := by omega
  have k0 : (0 : Int) < (q : Int) := by omega
  rw [← hwz]
  clear hk0 hk1 hwz hLz n0 n1 n2 n3 n4 hr1 hr2 hl1 hcell hadb hlo2 HG CRD
  go_region_held (fun W => Hid (Later wz W) ∧ W.cell? ⟨w1.heap.size, 2, none⟩ = some (.slice (some ad) q c) ∧ W.cell? ⟨w1.heap.size, 3, none⟩ = some (.string (mkS t)) ∧ W.cell? ⟨w1.heap.size, 4, none⟩ = some (.slice A2 row.length c2) ∧ W.cell? ⟨ad.block, ad.off + 2, none⟩ = some (.int .u64 (x2 : Int)) ∧ W.cell? ⟨ad.block, ad.off + 3, none⟩ = some (.int .u64 (x3 : Int))) (first | assumption | exact HK.out _ (Later.drew _) | exact HK.out _ (Later.trans (Later.alloc _ _) (Later.drew _))) (first
    | (go_at_call 52; (first | (with_reducible refine (CZ1.out _).mono ?_) | (with_reducible refine (CZ2.out _).mono ?_)); rintro r w' ⟨rfl, rfl⟩))
  all_goals
    obtain ⟨⟨⟨q0, q1, q2, q3, q4, q5⟩, qz⟩, n0, n1, n4⟩ := HK1.out
    have hadz := World.block_lt_of_cell? wz ad n0
    have hcs : (¬ 0 < x0 ∧ rightT x0 x1 x4 q = false) ∨ (0 < x0 ∧ ¬ x0 < 12 ∧ rightT x0 x1 x4 q = false) ∨ (0 < x0 ∧ x0 < 12 ∧ ¬ x1 < 256 ∧ rightT x0 x1 x4 q = false) ∨ (0 < x0 ∧ x0 < 12 ∧ x1 < 256 ∧ q = 4 ∧ rightT x0 x1 x4 q = false) ∨ (0 < x0 ∧ x0 < 12 ∧ x1 < 256 ∧ q = 5 ∧ ¬ x4 < 65 ∧ rightT x0 x1 x4 q = false) ∨ (0 < x0 ∧ x0 < 12 ∧ x1 < 256 ∧ q = 5 ∧ x4 < 65 ∧ rightT x0 x1 x4 q = true) := rightT_cases HLT.out.2.2.2
    have cf := CFA.out
    clear HK HK1 CZ1 CZ2 HLT CFA
    rcases hcs with ⟨i1, hrt⟩ | ⟨i1, i2, hrt⟩ | ⟨i1, i2, i3, hrt⟩ | ⟨i1, i2, i3, rfl, hrt⟩ | ⟨i1, i2, i3, rfl, i5, hrt⟩ | ⟨i1, i2, i3, rfl, i5, hrt⟩
    · have he0 : ¬ er = 0 := fun h0 => by have := (HE.out.2 h0).1; rw [hrt] at this; cases this
      rw [hrt] at cf
      have CFA := Lib.hid cf
      have j1 : ¬ (0 : Int) < (x0 : Int) := by omega
      clear cf hrt n4
      have hne : (er != 0) = true := by simpa using he0
      obtain ⟨hA, her0⟩ := HE.out.1 he0
      obtain ⟨eN, rfl⟩ : ∃ eN : Nat, er = (eN : Int) := ⟨er.toNat, by omega⟩
      have HAE := Lib.hid hA
      clear HE he0 hA her0
      go_wp2_with (go_at_call 53; (with_reducible refine (CFA.out (some ad) q c A2 row.length c2 _).mono ?_); rintro r w3 ⟨rfl, hb3⟩; have L3 := Lib.hid (Later.trans (Later.drew _) hb3); obtain ⟨hc, hfz, hz3⟩ := HB0.out w3 (Later.trans (Later.trans HL0.out (Later.alloc wz _)) L3.out); have p0 := hc 0; have p1 := hc 1; have p2 := hc 2; have p3 := hc 3; have p4 := hc 4; have p5 := hc 5; have p6 := hc 6; simp only [lit7_0, lit7_1, lit7_2, lit7_3, lit7_4, lit7_5, lit7_6] at p0 p1 p2 p3 p4 p5 p6; have hz4 := Nat.lt_of_lt_of_le (Nat.lt_succ_self wz.heap.size) (by have := L3.out.size; rw [World.size_alloc] at this; exact this); clear hc hb3)
      refine bodyPost_ret (v := .tuple #[.agg Z7, .int .i64 (eN : Int)]) (by simp [results, Try.results36, go_sem, p0, p1, p2, p3, p4, p5, p6]) rfl
        ⟨0, 0, 0, 0, [], [], 0, none, 0, eN, rfl, by rw [HAE.out]; rfl, Rd.nil_, Nat.le_refl _, ?_, fun ad e => by cases e⟩
      exact (((((((Later.trans HLZ.out (Later.trans (Later.alloc wz _) L3.out)).setCell (by simp) _).setCell (by simp) _).setCell (by simp) _).setCell (by simp) _).setCell (by simp) _).setCell (by simp) _).setCell (by simp) _
    · have he0 : ¬ er = 0 := fun h0 => by have := (HE.out.2 h0).1; rw [hrt] at this; cases this
      rw [hrt] at cf
      have CFA := Lib.hid cf
      have j1 : (0 : Int) < (x0 : Int) := by omega
      have j2 : ¬ (x0 : Int) < 12 := by omega
      clear cf hrt n4
      have hne : (er != 0) = true := by simpa using he0
      obtain ⟨hA, her0⟩ := HE.out.1 he0
      obtain ⟨eN, rfl⟩ : ∃ eN : Nat, er = (eN : Int) := ⟨er.toNat, by omega⟩
      have HAE := Lib.hid hA
      clear HE he0 hA her0
      go_wp2_with (go_at_call 53; (with_reducible refine (CFA.out (some ad) q c A2 row.length c2 _).mono ?_); rintro r w3 ⟨rfl, hb3⟩; have L3 := Lib.hid (Later.trans (Later.drew _) hb3); obtain ⟨hc, hfz, hz3⟩ := HB0.out w3 (Later.trans (Later.trans HL0.out (Later.alloc wz _)) L3.out); have p0 := hc 0; have p1 := hc 1; have p2 := hc 2; have p3 := hc 3; have p4 := hc 4; have p5 := hc 5; have p6 := hc 6; simp only [lit7_0, lit7_1, lit7_2, lit7_3, lit7_4, lit7_5, lit7_6] at p0 p1 p2 p3 p4 p5 p6; have hz4 := Nat.lt_of_lt_of_le (Nat.lt_succ_self wz.heap.size) (by have := L3.out.size; rw [World.size_alloc] at this; exact this); clear hc hb3)
      refine bodyPost_ret (v := .tuple #[.agg Z7, .int .i64 (eN : Int)]) (by simp [results, Try.results36, go_sem, p0, p1, p2, p3, p4, p5, p6]) rfl
        ⟨0, 0, 0, 0, [], [], 0, none, 0, eN, rfl, by rw [HAE.out]; rfl, Rd.nil_, Nat.le_refl _, ?_, fun ad e => by cases e⟩
      exact (((((((Later.trans HLZ.out (Later.trans (Later.alloc wz _) L3.out)).setCell (by simp) _).setCell (by simp) _).setCell (by simp) _).setCell (by simp) _).setCell (by simp) _).setCell (by simp) _).setCell (by simp) _
    · have he0 : ¬ er = 0 := fun h0 => by have := (HE.out.2 h0).1; rw [hrt] at this; cases this
      rw [hrt] at cf
      have CFA := Lib.hid cf
      have j1 : (0 : Int) < (x0 : Int) := by omega
      have j2 : (x0 : Int) < 12 := by omega
      have j3 : ¬ (x1 : Int) < 256 := by omega
      clear cf hrt n4
      have hne : (er != 0) = true := by simpa using he0
      obtain ⟨hA, her0⟩ := HE.out.1 he0
      obtain ⟨eN, rfl⟩ : ∃ eN : Nat, er = (eN : Int) := ⟨er.toNat, by omega⟩
      have HAE := Lib.hid hA
      clear HE he0 hA her0
      go_wp2_with (go_at_call 53; (with_reducible refine (CFA.out (some ad) q c A2 row.length c2 _).mono ?_); rintro r w3 ⟨rfl, hb3⟩; have L3 := Lib.hid (Later.trans (Later.drew _) hb3); obtain ⟨hc, hfz, hz3⟩ := HB0.out w3 (Later.trans (Later.trans HL0.out (Later.alloc wz _)) L3.out); have p0 := hc 0; have p1 := hc 1; have p2 := hc 2; have p3 := hc 3; have p4 := hc 4; have p5 := hc 5; have p6 := hc 6; simp only [lit7_0, lit7_1, lit7_2, lit7_3, lit7_4, lit7_5, lit7_6] at p0 p1 p2 p3 p4 p5 p6; have hz4 := Nat.lt_of_lt_of_le (Nat.lt_succ_self wz.heap.size) (by have := L3.out.size; rw [World.size_alloc] at this; exact this); clear hc hb3)
      refine bodyPost_ret (v := .tuple #[.agg Z7, .int .i64 (eN : Int)]) (by simp [results, Try.results36, go_sem, p0, p1, p2, p3, p4, p5, p6]) rfl
        ⟨0, 0, 0, 0, [], [], 0, none, 0, eN, rfl, by rw [HAE.out]; rfl, Rd.nil_, Nat.le_refl _, ?_, fun ad e => by cases e⟩
      exact (((((((Later.trans HLZ.out (Later.trans (Later.alloc wz _) L3.out)).setCell (by simp) _).setCell (by simp) _).setCell (by simp) _).setCell (by simp) _).setCell (by simp) _).setCell (by simp) _).setCell (by simp) _
    · have he0 : ¬ er = 0 := fun h0 => by have := (HE.out.2 h0).1; rw [hrt] at this; cases this
      rw [hrt] at cf
      have CFA := Lib.hid cf
      have j1 : (0 : Int) < (x0 : Int) := by omega
      have j2 : (x0 : Int) < 12 := by omega
      have j3 : (x1 : Int) < 256 := by omega
      clear cf hrt n4
      have hne : (er != 0) = true := by simpa using he0
      obtain ⟨hA, her0⟩ := HE.out.1 he0
      obtain ⟨eN, rfl⟩ : ∃ eN : Nat, er = (eN : Int) := ⟨er.toNat, by omega⟩
      have HAE := Lib.hid hA
      clear HE he0 hA her0
      go_wp2_with (go_at_call 53; (with_reducible refine (CFA.out (some ad) 4 c A2 row.length c2 _).mono ?_); rintro r w3 ⟨rfl, hb3⟩; have L3 := Lib.hid (Later.trans (Later.drew _) hb3); obtain ⟨hc, hfz, hz3⟩ := HB0.out w3 (Later.trans (Later.trans HL0.out (Later.alloc wz _)) L3.out); have p0 := hc 0; have p1 := hc 1; have p2 := hc 2; have p3 := hc 3; have p4 := hc 4; have p5 := hc 5; have p6 := hc 6; simp only [lit7_0, lit7_1, lit7_2, lit7_3, lit7_4, lit7_5, lit7_6] at p0 p1 p2 p3 p4 p5 p6; have hz4 := Nat.lt_of_lt_of_le (Nat.lt_succ_self wz.heap.size) (by have := L3.out.size; rw [World.size_alloc] at this; exact this); clear hc hb3)
      refine bodyPost_ret (v := .tuple #[.agg Z7, .int .i64 (eN : Int)]) (by simp [results, Try.results36, go_sem, p0, p1, p2, p3, p4, p5, p6]) rfl
        ⟨0, 0, 0, 0, [], [], 0, none, 0, eN, rfl, by rw [HAE.out]; rfl, Rd.nil_, Nat.le_refl _, ?_, fun ad e => by cases e⟩
      exact (((((((Later.trans HLZ.out (Later.trans (Later.alloc wz _) L3.out)).setCell (by simp) _).setCell (by simp) _).setCell (by simp) _).setCell (by simp) _).setCell (by simp) _).setCell (by simp) _).setCell (by simp) _
    · have he0 : ¬ er = 0 := fun h0 => by have := (HE.out.2 h0).1; rw [hrt] at this; cases this
      rw [hrt] at cf
      have CFA := Lib.hid cf
      have j1 : (0 : Int) < (x0 : Int) := by omega
      have j2 : (x0 : Int) < 12 := by omega
      have j3 : (x1 : Int) < 256 := by omega
      have j5 : ¬ (x4 : Int) < 65 := by omega
      have n4' := n4 rfl
      clear cf hrt n4
      have hne : (er != 0) = true := by simpa using he0
      obtain ⟨hA, her0⟩ := HE.out.1 he0
      obtain ⟨eN, rfl⟩ : ∃ eN : Nat, er = (eN : Int) := ⟨er.toNat, by omega⟩
      have HAE := Lib.hid hA
      clear HE he0 hA her0
      go_wp2_with (go_at_call 53; (with_reducible refine (CFA.out (some ad) 5 c A2 row.length c2 _).mono ?_); rintro r w3 ⟨rfl, hb3⟩; have L3 := Lib.hid (Later.trans (Later.drew _) hb3); obtain ⟨hc, hfz, hz3⟩ := HB0.out w3 (Later.trans (Later.trans HL0.out (Later.alloc wz _)) L3.out); have p0 := hc 0; have p1 := hc 1; have p2 := hc 2; have p3 := hc 3; have p4 := hc 4; have p5 := hc 5; have p6 := hc 6; simp only [lit7_0, lit7_1, lit7_2, lit7_3, lit7_4, lit7_5, lit7_6] at p0 p1 p2 p3 p4 p5 p6; have hz4 := Nat.lt_of_lt_of_le (Nat.lt_succ_self wz.heap.size) (by have := L3.out.size; rw [World.size_alloc] at this; exact this); clear hc hb3)
      refine bodyPost_ret (v := .tuple #[.agg Z7, .int .i64 (eN : Int)]) (by simp [results, Try.results36, go_sem, p0, p1, p2, p3, p4, p5, p6]) rfl
        ⟨0, 0, 0, 0, [], [], 0, none, 0, eN, rfl, by rw [HAE.out]; rfl, Rd.nil_, Nat.le_refl _, ?_, fun ad e => by cases e⟩
      exact (((((((Later.trans HLZ.out (Later.trans (Later.alloc wz _) L3.out)).setCell (by simp) _).setCell (by simp) _).setCell (by simp) _).setCell (by simp) _).setCell (by simp) _).setCell (by simp) _).setCell (by simp) _
    · rw [hrt] at cf
      have CFA := Lib.hid cf
      have j1 : (0 : Int) < (x0 : Int) := by omega
      have j2 : (x0 : Int) < 12 := by omega
      have j3 : (x1 : Int) < 256 := by omega
      have j5 : (x4 : Int) < 65 := by omega
      have n4' := n4 rfl
      have hw0 : IntKind.i64.wrap (x0 : Int) = (x0 : Int) := by rw [IntKind.wrap_i64]; omega
      have hw1 : IntKind.i64.wrap (x1 : Int) = (x1 : Int) := by rw [IntKind.wrap_i64]; omega
      have hw4 : IntKind.i64.wrap (x4 : Int) = (x4 : Int) := by rw [IntKind.wrap_i64]; omega
      clear cf n4 hrt
      by_cases he0 : er = 0
      · subst he0
        go_wp2_with (go_at_call 53; (with_reducible refine (CFA.out (some ad) 5 c A2 row.length c2 _).mono ?_); rintro r w3 ⟨rfl, hb3⟩; have L3 := Lib.hid (Later.trans (Later.drew _) hb3); obtain ⟨g0, g1, g2, g3, g4, g5, g6⟩ := acellsK wz (x0 : Int) (x1 : Int) z1 z2 t A2 row.length c2 (x4 : Int) L3.out; obtain ⟨hc, hfz, hz3⟩ := HB0.out w3 (Later.trans (Later.trans HL0.out (Later.alloc wz _)) L3.out); have p0 := hc 0; have p1 := hc 1; have p2 := hc 2; have p3 := hc 3; have p4 := hc 4; have p5 := hc 5; have p6 := hc 6; simp only [lit7_0, lit7_1, lit7_2, lit7_3, lit7_4, lit7_5, lit7_6] at p0 p1 p2 p3 p4 p5 p6; have hz4 := Nat.lt_of_lt_of_le (Nat.lt_succ_self wz.heap.size) (by have := L3.out.size; rw [World.size_alloc] at this; exact this); clear hc hb3)
        refine bodyPost_ret (v := .tuple #[.agg #[.int .i64 (x0 : Int), .int .i64 (x1 : Int), .int .i64 z1, .int .i64 z2, .string (mkS t), .slice A2 row.length c2, .int .i64 (x4 : Int)], .int .i64 0]) (by simp [results, Try.results36, go_sem, p0, p1, p2, p3, p4, p5, p6]) rfl
          ⟨x0, x1, z1, z2, t, row, x4, A2, c2, 0, rfl, (HE.out.2 trivial).2, ?_, hc2, ?_, fun ad e => by have := HLO.out ad e; omega⟩
        · have h9 := rd_later HR2.out (Later.trans (Later.alloc wz _) L3.out)
          have hne : ∀ ad, A2 = some ad → ad.block ≠ w.heap.size := fun ad e => by have := HLO.out ad e; omega
          have := rd_set (rd_set (rd_set (rd_set (rd_set (rd_set (rd_set h9 hne 0 (.int .i64 (x0 : Int))) hne 1 (.int .i64 (x1 : Int))) hne 2 (.int .i64 z1)) hne 3 (.int .i64 z2)) hne 4 (.string (mkS t))) hne 5 (.slice A2 row.length c2)) hne 6 (.int .i64 (x4 : Int))
          exact this.more (by simp)
        · exact (((((((Later.trans HLZ.out (Later.trans (Later.alloc wz _) L3.out)).setCell (by simp) _).setCell (by simp) _).setCell (by simp) _).setCell (by simp) _).setCell (by simp) _).setCell (by simp) _).setCell (by simp) _
      · have hne : (er != 0) = true := by simpa using he0
        obtain ⟨hA, her0⟩ := HE.out.1 he0
        obtain ⟨eN, rfl⟩ : ∃ eN : Nat, er = (eN : Int) := ⟨er.toNat, by omega⟩
        have HAE := Lib.hid hA
        clear HE he0 hA her0
        go_wp2_with (go_at_call 53; (with_reducible refine (CFA.out (some ad) 5 c A2 row.length c2 _).mono ?_); rintro r w3 ⟨rfl, hb3⟩; have L3 := Lib.hid (Later.trans (Later.drew _) hb3); obtain ⟨hc, hfz, hz3⟩ := HB0.out w3 (Later.trans (Later.trans HL0.out (Later.alloc wz _)) L3.out); have p0 := hc 0; have p1 := hc 1; have p2 := hc 2; have p3 := hc 3; have p4 := hc 4; have p5 := hc 5; have p6 := hc 6; simp only [lit7_0, lit7_1, lit7_2, lit7_3, lit7_4, lit7_5, lit7_6] at p0 p1 p2 p3 p4 p5 p6; have hz4 := Nat.lt_of_lt_of_le (Nat.lt_succ_self wz.heap.size) (by have := L3.out.size; rw [World.size_alloc] at this; exact this); clear hc hb3)
        refine bodyPost_ret (v := .tuple #[.agg Z7, .int .i64 (eN : Int)]) (by simp [results, Try.results36, go_sem, p0, p1, p2, p3, p4, p5, p6]) rfl
          ⟨0, 0, 0, 0, [], [], 0, none, 0, eN, rfl, by rw [HAE.out]; rfl, Rd.nil_, Nat.le_refl _, ?_, fun ad e => by cases e⟩
        exact (((((((Later.trans HLZ.out (Later.trans (Later.alloc wz _) L3.out)).setCell (by simp) _).setCell (by simp) _).setCell (by simp) _).setCell (by simp) _).setCell (by simp) _).setCell (by simp) _).setCell (by simp) _
end Go.Proofs.Ytemokpnepnmmkaa
/- What the document's Asked and Told tell where the answer is known; how long rows are. -/
namespace Go.Proofs.Ytemokpnepnmmkaa
open Go.RowKit
theorem asked_len {bs : List UInt8} {k f : Nat} {n m : Int} {t : List UInt8} {l : List (List UInt8)} (he : askedM bs = ((k, n, m, t, l), f)) : l.length ≤ 4096 := by
  by_cases hf : f = 0
  · subst hf
    obtain ⟨k', n', m', t', l', h1, h2, hk1, hk2, hl, hn, hm, hx⟩ := asked_own (bs := bs) (by rw [he])
    rw [he] at h1
    simp only [Prod.mk.injEq, and_true] at h1
    obtain ⟨rfl, rfl, rfl, rfl, rfl⟩ := h1
    exact hl
  · have h := asked_err (bs := bs) (by rw [he]; exact hf)
    rw [he] at h
    have h2 : l = [] := by simpa [noAsked] using (congrArg (fun x => x.2.2.2.2) h)
    rw [h2]; simp
theorem told_len {bs : List UInt8} {k e f s : Nat} {n m : Int} {t : List UInt8} {l : List (List UInt8)} (he : toldM bs = ((k, e, n, m, t, l, s), f)) : l.length ≤ 4096 := by
  by_cases hf : f = 0
  · subst hf
    obtain ⟨k', e', n', m', t', l', s', h1, h2, hk, hee, hs, hl, hn, hm, hx⟩ := told_own (bs := bs) (by rw [he])
    rw [he] at h1
    simp only [Prod.mk.injEq, and_true] at h1
    obtain ⟨rfl, rfl, rfl, rfl, rfl, rfl, rfl⟩ := h1
    exact hl
  · have h := told_err (bs := bs) (by rw [he]; exact hf)
    rw [he] at h
    have h2 : l = [] := by simpa [noTold] using (congrArg (fun x => x.2.2.2.2.2.1) h)
    rw [h2]; simp
theorem refToldK {bs : List UInt8} {k e f s : Nat} {n m : Int} {t : List UInt8} {l : List (List UInt8)} (he : toldM bs = ((k, e, n, m, t, l, s), f)) (w : World) (hn : bs.length ≤ 140737488351232) :
    Calls Try.prog 36 #[.string (mkS bs)] w fun r w' => ∃ (A' : Option Addr) (c' : Nat), r = .returned (.tuple #[.agg #[.int .i64 (k : Int), .int .i64 (e : Int), .int .i64 n, .int .i64 m, .string (mkS t), .slice A' l.length c', .int .i64 (s : Int)], .int .i64 (f : Int)]) ∧ Rd w' w'.heap.size A' l.length (l.map sv) ∧ Later w w' := by
  refine (refTold_v w bs hn).mono ?_
  rintro r w' ⟨k', e', n', m', t', l', s', A', c', f', rfl, h, h1, h2, h3, _⟩
  rw [he] at h
  simp only [Prod.mk.injEq] at h
  obtain ⟨⟨rfl, rfl, rfl, rfl, rfl, rfl, rfl⟩, rfl⟩ := h
  exact ⟨A', c', rfl, h1, h3⟩
theorem refToldK2 {bs : List UInt8} {k e f s : Nat} {n m : Int} {t : List UInt8} {l : List (List UInt8)} (he : toldM bs = ((k, e, n, m, t, l, s), f)) (w : World) (hn : bs.length ≤ 140737488351232) :
    Calls Try.prog 36 #[.string (mkS bs)] w fun r w' => ∃ (A' : Option Addr) (c' : Nat), r = .returned (.tuple #[.agg #[.int .i64 (k : Int), .int .i64 (e : Int), .int .i64 n, .int .i64 m, .string (mkS t), .slice A' l.length c', .int .i64 (s : Int)], .int .i64 (f : Int)]) ∧ Rd w' w'.heap.size A' l.length (l.map sv) ∧ Later w w' ∧ (∀ ad, A' = some ad → w.heap.size ≤ ad.block) := by
  refine (refTold_v w bs hn).mono ?_
  rintro r w' ⟨k', e', n', m', t', l', s', A', c', f', rfl, h, h1, h2, h3, h4⟩
  rw [he] at h
  simp only [Prod.mk.injEq] at h
  obtain ⟨⟨rfl, rfl, rfl, rfl, rfl, rfl, rfl⟩, rfl⟩ := h
  exact ⟨A', c', rfl, h1, h3, h4⟩
theorem sameAK {k e n m s : Int} {t : List UInt8} {A A' : Option Addr} {c c' : Nat} {l : List (List UInt8)} (W : World) (ha : Rd W W.heap.size A l.length (l.map sv)) (hb : Rd W W.heap.size A' l.length (l.map sv)) (hl : l.length ≤ maxLen) :
    Calls Try.prog 37 #[.agg #[.int .i64 k, .int .i64 e, .int .i64 n, .int .i64 m, .string (mkS t), .slice A l.length c, .int .i64 s], .agg #[.int .i64 k, .int .i64 e, .int .i64 n, .int .i64 m, .string (mkS t), .slice A' l.length c', .int .i64 s]] W fun r w' => r = .returned (.bool true) ∧ Later W w' := by
  refine (refSameA_v k e n m s k e n m s t t A A' l.length c l.length c' l l W ha hb hl hl).mono ?_
  rintro r w' ⟨rfl, h⟩
  exact ⟨ret_bool (decide_eq_true ⟨rfl, rfl, rfl, rfl, rfl, rfl, rfl⟩), h⟩
end Go.Proofs.Ytemokpnepnmmkaa
