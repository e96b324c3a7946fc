/- The walk of SyntaxTwo, all cases. -/
import Derived.Test.YtipojbknkfkgoaaGreatDoorSTwoW
namespace Go.Proofs.YtipojbknkfkgoaaGreatDoor
open Go.RowKit Go.Maps
open Lx (nl Tok)
open Pz
namespace syntaxTwo

set_option maxHeartbeats 6400000 in
set_option maxRecDepth 100000 in
theorem walkM1 (w : World) (hg : Sgn w) (m : L) (ch : UInt8) (hc : ch ≠ 92) (b : L) (h1 : ¬ (1000 : Int) < ((mkS (m ++ [ch])).size : Int)) (h2 : ¬ (1000 : Int) < ((mkS b).size : Int)) (xs ys nsV : List Sx.Node) (kA kB : List Nat) (lA lB : Nat)
    (tA : Sx.tree ((m ++ [ch]) ++ [10]) = .ok (xs ++ [{ kind := 5, kids := kA, left := lA }])) (tB : Sx.tree b = .ok (ys ++ [{ kind := 5, kids := kB, left := lB }])) (tV : Sx.tree ((m ++ [ch]) ++ 10 :: b) = .ok nsV) (hV : nsV.map Sx.strip = (Sx.joined xs ys kA kB).map Sx.strip) :
    Calls Tryz.prog 4 #[.string (mkS (m ++ [ch])), .string (mkS b)] w fun e w' => e = .returned (.bool true) ∧ Below w.heap.size w w' := by
  have HA := Lib.hid (awake_v w hg)
  have HG := Lib.hid hg
  obtain ⟨S0, hS0⟩ : ∃ S, S = mkS (m ++ [ch]) := ⟨_, rfl⟩
  obtain ⟨SB, hSB⟩ : ∃ S, S = mkS b := ⟨_, rfl⟩
  obtain ⟨S1, hS1⟩ : ∃ S, S = mkS ((m ++ [ch]) ++ [10]) := ⟨_, rfl⟩
  obtain ⟨S3, hS3⟩ : ∃ S, S = mkS ((m ++ [ch]) ++ 10 :: b) := ⟨_, rfl⟩
  have al : ((m ++ [ch])).length ≤ 1000 := by rw [mkS_size] at h1; omega
  have bl : b.length ≤ 1000 := by rw [mkS_size] at h2; omega
  have a1 : S0 ++ (⟨#[10]⟩ : ByteArray) = S1 := by rw [hS0, hS1]; exact mkS_add _ [10]
  have a2 : S1 ++ SB = S3 := by rw [hS1, hSB, hS3, mkS_add]; simp
  have zz1 : S1.size ≤ 1001 := by rw [hS1, mkS_size, List.length_append, List.length_singleton]; omega
  have zz2 : SB.size ≤ 1000 := by rw [hSB, mkS_size]; omega
  have zz0 : S0.size ≤ 1000 := by rw [hS0, mkS_size]; omega
  obtain ⟨z, hz⟩ : ∃ z, z = m.length := ⟨_, rfl⟩
  obtain ⟨z1, hz1⟩ : ∃ z1, z1 = z + 1 := ⟨_, rfl⟩
  have hsz : S0.size = z1 := by rw [hS0, mkS_size, List.length_append]; simp; omega
  have hgx : ∀ h, S0[z]'h = ch := by
    subst hS0
    subst hz
    have e : (m ++ [ch])[m.length]'(by simp) = ch := by simp
    exact fun h => (sgetk (m ++ [ch]) m.length (by simp) h).trans e
  have hcq : ((ch.toNat : Int) == 92) = false := by
    rw [beq_eq_false_iff_ne]
    intro e
    exact hc (UInt8.toNat_inj.1 (by have : (92 : UInt8).toNat = 92 := rfl; omega))
  have i0 : (0 : Int) < (z1 : Int) := by omega
  have i1 : (0 : Int) ≤ (z : Int) := by omega
  have i2 : (z : Int) < (z1 : Int) := by omega
  have hz1000 : z1 ≤ 1000 := by
    have h1' := h1
    rw [← hS0, hsz] at h1'
    omega
  have HVZ := Lib.hid (minus hz1 (by omega))
  obtain ⟨nA, hnA⟩ : ∃ n, xs.length = n := ⟨_, rfl⟩
  obtain ⟨nB, hnB⟩ : ∃ n, ys.length = n := ⟨_, rfl⟩
  obtain ⟨n1, hn1⟩ : ∃ n, n = nA + 1 := ⟨_, rfl⟩
  obtain ⟨n2, hn2⟩ : ∃ n, n = nB + 1 := ⟨_, rfl⟩
  obtain ⟨nS, hnS⟩ : ∃ n, n = nA + nB := ⟨_, rfl⟩
  obtain ⟨n3, hn3⟩ : ∃ n, n = nS + 1 := ⟨_, rfl⟩
  have smA := Sx.tree_small tA
  have smB := Sx.tree_small tB
  have lnA : (xs ++ [({ kind := 5, kids := kA, left := lA } : Sx.Node)]).length = nA + 1 := by simp; omega
  have lnB : (ys ++ [({ kind := 5, kids := kB, left := lB } : Sx.Node)]).length = nB + 1 := by simp; omega
  have bA : nA ≤ 9000 := by have := smA.1; rw [lnA, List.length_append, List.length_singleton] at this; omega
  have bB : nB ≤ 9000 := by have := smB.1; rw [lnB] at this; omega
  have kAs := smA.2 _ (List.mem_append_right _ (List.mem_singleton_self _))
  have kBs := smB.2 _ (List.mem_append_right _ (List.mem_singleton_self _))
  rw [lnA] at kAs
  have HSB2 := Lib.hid (show ∀ y ∈ ys ++ [({ kind := 5, kids := kB, left := lB } : Sx.Node)], y.kids.length ≤ 9001 ∧ ∀ j ∈ y.kids, j < 9001 from fun y hy => by
    have := smB.2 y hy
    rw [lnB] at this
    exact ⟨by omega, fun j hj => by have := this.2 j hj; omega⟩)
  have hkA : kA.length ≤ 9001 := by have := kAs.1; simp only at this; omega
  have lnV : nsV.length = n3 := by
    have := congrArg List.length hV
    unfold Sx.joined at this
    simp only [List.length_map, List.length_append, List.length_singleton] at this
    omega
  have P1 := Lib.hid (show ∀ W, Later w W → Calls Tryz.prog 6 #[.string S1] W fun e W' => ∃ g c, e = .returned (.tuple #[.agg #[.slice (some ⟨g, 0, none⟩) n1 c], .int .i64 0, .int .i64 0]) ∧ n1 ≤ c ∧ TreeM W' (nl ((m ++ [ch]) ++ [10])) (.slice (some ⟨g, 0, none⟩) n1 c) (xs ++ [{ kind := 5, kids := kA, left := lA }]) ∧ Later W W' from fun W hW => by rw [hS1]; exact parse_tree hg (by rw [List.length_append, List.length_singleton]; omega) tA hnA hn1 W hW)
  have P2 := Lib.hid (show ∀ W, Later w W → Calls Tryz.prog 6 #[.string SB] W fun e W' => ∃ g c, e = .returned (.tuple #[.agg #[.slice (some ⟨g, 0, none⟩) n2 c], .int .i64 0, .int .i64 0]) ∧ n2 ≤ c ∧ TreeM W' (nl b) (.slice (some ⟨g, 0, none⟩) n2 c) (ys ++ [{ kind := 5, kids := kB, left := lB }]) ∧ Later W W' from fun W hW => by rw [hSB]; exact parse_tree hg (by omega) tB hnB hn2 W hW)
  have P3 := Lib.hid (show ∀ W, Later w W → Calls Tryz.prog 6 #[.string S3] W fun e W' => ∃ A c ln, e = .returned (.tuple #[.agg #[.slice A n3 c], .int .i64 0, .int .i64 ln]) ∧ n3 ≤ maxLen ∧ RdN W' A n3 nsV ∧ Later W W' from fun W hW => by rw [hS3]; have g := gives_ok hg (by rw [List.length_append, List.length_cons]; omega) tV W hW; rwa [lnV] at g)
  have HV := Lib.hid hV
  have HNA := Lib.hid hnA
  have HNB := Lib.hid hnB
  have HN1 := Lib.hid hn1
  have HN2 := Lib.hid hn2
  have HBA := Lib.hid bA
  have HBB := Lib.hid bB
  have HKA := Lib.hid hkA
  have HW := Lib.hid (show (wrap64 ((n1 : Int) - 1) = (nA : Int) ∧ IntKind.i64.wrap ((n1 : Int) - 1) = (nA : Int)) ∧ (wrap64 ((n2 : Int) - 1) = (nB : Int) ∧ IntKind.i64.wrap ((n2 : Int) - 1) = (nB : Int)) ∧ (wrap64 ((nA : Int) + (nB : Int)) = (nS : Int) ∧ IntKind.i64.wrap ((nA : Int) + (nB : Int)) = (nS : Int)) ∧ (wrap64 ((nS : Int) + 1) = (n3 : Int) ∧ IntKind.i64.wrap ((nS : Int) + 1) = (n3 : Int)) from ⟨minus hn1 (by omega), minus hn2 (by omega), plus hnS (by omega), plus1 hn3 (by omega)⟩)
  have j0 : ¬ (nA : Int) < 0 := by omega
  have j1 : ¬ (nB : Int) < 0 := by omega
  have j2 : ((n3 : Int) != (n3 : Int)) = false := by simp
  have j3 : (0 : Int) ≤ (nA : Int) := by omega
  have j4 : (nA : Int) < (n1 : Int) := by omega
  rw [← hS0] at h1 ⊢
  rw [← hSB] at h2 ⊢
  clear hg hS0 hSB hS1 hS3 tA tB tV hV al bl hnA hnB hn1 hn2 hnS hn3 smA smB lnA lnB bA bB kAs kBs hkA lnV hz hz1 hc
  obtain ⟨va, vb⟩ := HVZ.out
  obtain ⟨⟨wa1, wa2⟩, ⟨wa3, wa4⟩, ⟨wa5, wa6⟩, ⟨wa7, wa8⟩⟩ := HW.out
  go_enter Tryz.func4, Tryz.ntmps4
  go_wp2_with (first
    | (go_at_call 5; (with_reducible refine HA.out.mono ?_); rintro e w1 ⟨rfl, hb1⟩; have HB1 := Lib.hid hb1; clear hb1)
    | (go_at_call 6; (with_reducible refine (P1.out _ HB1.out).mono ?_); rintro e w2 ⟨g1, c1, rfl, hc, hm, hl⟩; have HC1 := Lib.hid hc; have HM1 := Lib.hid hm; have HL2 := Lib.hid (HB1.out.trans (hl.trans (Later.alloc w2 (.cells #[.slice (some ⟨g1, 0, none⟩) n1 c1] 26)))); clear hc hm hl))
  · (with_reducible refine (P2.out _ HL2.out).mono ?_)
    rintro e w3 ⟨g2, c2, rfl, hc, hm, hl⟩
    have HC2 := Lib.hid hc
    have HM2 := Lib.hid hm
    have HL23 := Lib.hid ((Later.alloc w2 (.cells #[.slice (some ⟨g1, 0, none⟩) n1 c1] 26)).trans hl)
    have HL3 := Lib.hid (HL2.out.trans (hl.trans (Later.alloc w3 (.cells #[.slice (some ⟨g2, 0, none⟩) n2 c2] 26))))
    have Q1 := Lib.hid (later_cells hl (heap_alloc_new w2 (.cells #[.slice (some ⟨g1, 0, none⟩) n1 c1] 26)))
    clear hc hm hl
    go_wp2_with (go_at_call 6; fail)
    (with_reducible refine (P3.out _ HL3.out).mono ?_)
    rintro e w4 ⟨A3, c3, ln3, rfl, hn3, hr3, hl⟩
    have HN3 := Lib.hid hn3
    have HR3 := Lib.hid hr3
    have HL34 := Lib.hid ((Later.alloc w3 (.cells #[.slice (some ⟨g2, 0, none⟩) n2 c2] 26)).trans hl)
    have HL4 := Lib.hid (HL3.out.trans hl)
    have q1 := later_cells HL34.out Q1.out
    have q2 := later_cells hl (heap_alloc_new w3 (.cells #[.slice (some ⟨g2, 0, none⟩) n2 c2] 26))
    obtain ⟨W0, hW0⟩ : ∃ W0, W0 = w4.alloc (.cells #[.slice A3 n3 c3] 26) := ⟨_, rfl⟩
    have l4 : Later w4 W0 := by rw [hW0]; exact Later.alloc _ _
    have q3 : W0.heap[w4.heap.size]? = some (.cells #[.slice A3 n3 c3] 26 (0, 0)) := by rw [hW0]; exact heap_alloc_new w4 _
    have m1 := (HM1.out.later ((HL23.out.trans HL34.out).trans l4))
    have m2 := (HM2.out.later (HL34.out.trans l4))
    have HMB := Lib.hid m2
    have HRV := Lib.hid (HR3.out.later l4)
    have T1 := Lib.hid (later_cells l4 q1)
    have T2 := Lib.hid (later_cells l4 q2)
    have T3 := Lib.hid q3
    have HLW0 := Lib.hid (HL4.out.trans l4)
    rw [HN1.out] at m1
    obtain ⟨g1', eg, hg1, itemsA, iA1, iA2, iA3, Ak, ck, iA4, iA5⟩ := tree_items m1 HNA.out
    cases eg
    have hlenA : itemsA.length = nA := by have := congrArg List.length iA1; rw [List.length_map] at this; rw [this]; exact HNA.out
    obtain ⟨vW, wW, hrun, hown, hlW⟩ := first_run (c := c1) hlenA (by have := HBA.out; clear wa1 wa2 wa3 wa4 wa5 wa6 wa7 wa8 va vb; omega) iA3 iA2
    have HRUN := Lib.hid hrun
    have HOWN := Lib.hid hown
    have HLW := Lib.hid hlW
    have IA1 := Lib.hid iA1
    have IA2 := Lib.hid iA2
    have IA4 := Lib.hid (show W0.cell? ⟨g1, nA * 8 + 6, none⟩ = some (.slice Ak kA.length ck) from iA4)
    have IA5 := Lib.hid (show W0.ownsRow 0 3 1 (.slice Ak kA.length ck) kA.length (kA.map iv) from iA5)
    have d1 : w4.cell? ⟨w2.heap.size, 0, none⟩ = some (.slice (some ⟨g1, 0, none⟩) n1 c1) := (cell_row q1 0).1
    have d2 : w4.cell? ⟨w3.heap.size, 0, none⟩ = some (.slice (some ⟨g2, 0, none⟩) n2 c2) := (cell_row q2 0).1
    have s1 := lt_of_block q1
    have s2 := lt_of_block q2
    have cc1 := HC1.out
    have i9 : (nA : Int) ≤ (c1 : Int) := by have := HN1.out; clear wa1 wa2 wa3 wa4 wa5 wa6 wa7 wa8 va vb; omega
    rw [hW0] at hrun
    have HRUN4 := Lib.hid hrun
    clear hl hn3 hr3 q1 q2 q3 m1 m2 hrun hown hlW iA1 iA2 iA3 iA4 iA5 hlenA l4 cc1
    go_wp2_with (at_builtin; refine wpList_appX rfl (.tmp 103) (.tmp 107) 24 rfl _ _ rfl rfl vW wW HRUN4.out ?_)

    obtain ⟨w5, hw5⟩ : ∃ w5, w5 = wW.alloc (.cells #[.int .i64 5, .string ⟨#[]⟩, .bool false, .slice none 0 0, .int .i64 0, .slice none 0 0, .slice none 0 0, .int .i64 0] 35) := ⟨_, rfl⟩
    obtain ⟨L, hL⟩ : ∃ L, L = wW.heap.size := ⟨_, rfl⟩
    have hl5 : Later wW w5 := by rw [hw5]; exact Later.alloc _ _
    have hb5 : w5.heap[L]? = some (.cells #[.int .i64 5, .string ⟨#[]⟩, .bool false, .slice none 0 0, .int .i64 0, .slice none 0 0, .slice none 0 0, .int .i64 0] 35 (0, 0)) := by rw [hw5, hL]; exact heap_alloc_new wW _
    have hlp5 : Lp W0 w5 L vW (.slice none 0 0) itemsA [] := ⟨HLW.out.trans hl5, own_below HOWN.out hl5, fun x hx => ⟨(IA2.out x hx).1.later (HLW.out.trans hl5), (IA2.out x hx).2⟩, hb5, by rw [hL]; exact HLW.out.size, World.ownsRow_nil _ _ _ 1, fun e => by have := (HOWN.out.lt L e).2; omega, fun x hx b hb e => by cases e⟩
    have hlp6 := hlp5.later (Later.drew w5)
    have hk5 := own_below IA5.out hlp6.lt
    obtain ⟨vK5, W5, hrk, hbx5, hfm5, hlt5, hlp7⟩ := kids_run hlp6 (c := ck) (more := kA) (Rd.of_own hk5) (by have := HKA.out; simp only [List.length_nil]; clear wa1 wa2 wa3 wa4 wa5 wa6 wa7 wa8 va vb; omega)
    rw [List.nil_append] at hlp7
    have HLP7 := Lib.hid hlp7
    have HRK := Lib.hid hrk
    have HU := Lib.hid (show ∃ A4 n4 k4, vK5 = .slice A4 n4 k4 ∧ W5.cell? ⟨L, 6, none⟩ = some (.slice none 0 0) ∧ W5.frozen? ⟨L, 6, none⟩ = false from by
      obtain ⟨A4, n4, k4, e⟩ := hfm5
      exact ⟨A4, n4, k4, e, (cell_row hbx5 6).1, (cell_row hbx5 6).2⟩)
    obtain ⟨C0, hC0⟩ : ∃ C0 : Nat → Value → World → Prop, C0 = fun j u w => (j = 0 ∧ w = w5.drew) ∨ (j = 1 ∧ u = vK5 ∧ w = W5) ∨ (j = 2 ∧ w = W5.setCell ⟨L, 6, none⟩ vK5) := ⟨_, rfl⟩
    have HA0 := Lib.hid (show ∀ u w, C0 0 u w → w = w5.drew from fun u w hc => by
      rw [hC0] at hc
      rcases hc with ⟨_, e⟩ | ⟨e, _⟩ | ⟨e, _⟩
      · exact e
      all_goals cases e)
    have HA1 := Lib.hid (show ∀ u w, C0 1 u w → u = vK5 ∧ w = W5 from fun u w hc => by
      rw [hC0] at hc
      rcases hc with ⟨e, _⟩ | ⟨_, e⟩ | ⟨e, _⟩
      · cases e
      · exact e
      · cases e)
    have HE := Lib.hid (show ∀ u w, C0 2 u w → w = W5.setCell ⟨L, 6, none⟩ vK5 from fun u w hc => by
      rw [hC0] at hc
      rcases hc with ⟨e, _⟩ | ⟨e, _⟩ | ⟨_, e⟩
      · cases e
      · cases e
      · exact e)
    have H0 := Lib.hid (show C0 0 undef w5.drew by rw [hC0]; exact .inl ⟨rfl, rfl⟩)
    have H1 := Lib.hid (show C0 1 vK5 W5 by rw [hC0]; exact .inr (.inl ⟨rfl, rfl, rfl⟩))
    have H2 := Lib.hid (show C0 2 undef (W5.setCell ⟨L, 6, none⟩ vK5) by rw [hC0]; exact .inr (.inr ⟨rfl, rfl⟩))
    have HC0 := Lib.hid (show ∀ j u w, C0 j u w → j ≤ 0 → w.cell? ⟨L, 6, none⟩ = some (.slice none 0 0) ∧ w.cell? ⟨w2.heap.size, 0, none⟩ = some (.slice (some ⟨g1, 0, none⟩) n1 c1) ∧ w.cell? ⟨g1, nA * 8 + 6, none⟩ = some (.slice Ak kA.length ck) from fun j u w hc hj => by
      obtain rfl : j = 0 := by omega
      rw [HA0.out u w hc]
      exact ⟨(cell_row hlp6.box 6).1, cell_keeps hlp6.lt (cell_row T1.out 0).1, cell_keeps hlp6.lt IA4.out⟩)
    have HCT := Lib.hid (show ∀ j u w, C0 j u w → w.cell? ⟨w2.heap.size, 0, none⟩ = some (.slice (some ⟨g1, 0, none⟩) n1 c1) from fun j u w hc => by
      rw [hC0] at hc
      rcases hc with ⟨_, rfl⟩ | ⟨_, _, rfl⟩ | ⟨_, rfl⟩
      · exact cell_keeps hlp6.lt (cell_row T1.out 0).1
      · exact cell_keeps hlt5 (cell_row T1.out 0).1
      · exact cell_keeps HLP7.out.lt (cell_row T1.out 0).1)
    rw [← hw5, ← hL]
    clear hlt5 hC0 hw5 hL hl5 hb5 hlp5 hlp6 hk5 hrk hbx5 hfm5 hlp7
    refine wp_region_seq (by kernel_rfl) [8, 10] (C0) [some (.pointer (some ⟨L, 6, none⟩)), some (.slice none 0 0), some (.pointer (some ⟨w2.heap.size, 0, none⟩)), some (.slice (some ⟨g1, 0, none⟩) n1 c1), some (.int .i64 (nA : Int)), some (.pointer (some ⟨g1, nA * 8, none⟩)), some (.pointer (some ⟨g1, nA * 8 + 6, none⟩)), some (.slice Ak kA.length ck), none, some (.pointer (some ⟨L, 6, none⟩)), none] (by decide) (by decide) (by kernel_rfl) (by kernel_rfl) (H0.out) ?_ ?_
    · refine ⟨?_, ?_, ?_, ?_, ?_, ?_, ?_, ?_, ?_, ?_, ?_, trivial⟩
      · -- 0: slot 110 := Op.fieldAddr 35 t18 6
        refine OwesS.q rfl fun a w j u hC hb hs => ⟨rfl, ?_⟩
        have e18 : a.tmps.getD 18 undef = .pointer (some ⟨L, 0, none⟩) := hs.free 18 rfl
        refine ValWp.pure (v := .pointer (some ⟨L, 6, none⟩)) (fun K' hK' => ?_) ⟨rfl, rfl⟩
        simp only [ValWp, execOp, Act.eval, e18]
        go_simp
        all_goals exact hK'
      · -- 1: slot 111 := Op.load 33 t110
        refine OwesS.q rfl fun a w j u hC hb hs => ⟨rfl, ?_⟩
        have e110 : a.tmps.getD 110 undef = .pointer (some ⟨L, 6, none⟩) := hs.dep 0 _ rfl rfl
        have hj := hb 0 8 rfl rfl
        have q0 := (HC0.out j u w hC hj).1
        refine ValWp.pure (v := .slice none 0 0) (fun K' hK' => ?_) ⟨rfl, rfl⟩
        simp only [ValWp, execOp, Act.eval, e110]
        go_simp
        all_goals exact hK'
      · -- 2: slot 112 := Op.fieldAddr 26 t6 0
        refine OwesS.q rfl fun a w j u hC hb hs => ⟨rfl, ?_⟩
        have e6 : a.tmps.getD 6 undef = .pointer (some ⟨w2.heap.size, 0, none⟩) := hs.free 6 rfl
        refine ValWp.pure (v := .pointer (some ⟨w2.heap.size, 0, none⟩)) (fun K' hK' => ?_) ⟨rfl, rfl⟩
        simp only [ValWp, execOp, Act.eval, e6]
        go_simp
        all_goals exact hK'
      · -- 3: slot 113 := Op.load 24 t112
        refine OwesS.q rfl fun a w j u hC hb hs => ⟨rfl, ?_⟩
        have e112 : a.tmps.getD 112 undef = .pointer (some ⟨w2.heap.size, 0, none⟩) := hs.dep 2 _ rfl rfl
        have q0 := HCT.out j u w hC
        refine ValWp.pure (v := .slice (some ⟨g1, 0, none⟩) n1 c1) (fun K' hK' => ?_) ⟨rfl, rfl⟩
        simp only [ValWp, execOp, Act.eval, e112]
        go_simp
        all_goals exact hK'
      · -- 4: slot 114 := Op.move t15
        refine OwesS.q rfl fun a w j u hC hb hs => ⟨rfl, ?_⟩
        have e15 : a.tmps.getD 15 undef = .int .i64 (nA : Int) := hs.free 15 rfl
        refine ValWp.pure (v := .int .i64 (nA : Int)) (fun K' hK' => ?_) ⟨rfl, rfl⟩
        simp only [ValWp, execOp, Act.eval, e15]
        go_simp
        all_goals exact hK'
      · -- 5: slot 115 := Op.indexAddr 24 t113 t114
        refine OwesS.q rfl fun a w j u hC hb hs => ⟨rfl, ?_⟩
        have e113 : a.tmps.getD 113 undef = .slice (some ⟨g1, 0, none⟩) n1 c1 := hs.dep 3 _ rfl rfl
        have e114 : a.tmps.getD 114 undef = .int .i64 (nA : Int) := hs.dep 4 _ rfl rfl
        refine ValWp.pure (v := .pointer (some ⟨g1, nA * 8, none⟩)) (fun K' hK' => ?_) ⟨rfl, rfl⟩
        simp only [ValWp, execOp, Act.eval, e113, e114]
        go_simp
        all_goals exact hK'
      · -- 6: slot 116 := Op.fieldAddr 35 t115 6
        refine OwesS.q rfl fun a w j u hC hb hs => ⟨rfl, ?_⟩
        have e115 : a.tmps.getD 115 undef = .pointer (some ⟨g1, nA * 8, none⟩) := hs.dep 5 _ rfl rfl
        refine ValWp.pure (v := .pointer (some ⟨g1, nA * 8 + 6, none⟩)) (fun K' hK' => ?_) ⟨rfl, rfl⟩
        simp only [ValWp, execOp, Act.eval, e115]
        go_simp
        all_goals exact hK'
      · -- 7: slot 117 := Op.load 33 t116
        refine OwesS.q rfl fun a w j u hC hb hs => ⟨rfl, ?_⟩
        have e116 : a.tmps.getD 116 undef = .pointer (some ⟨g1, nA * 8 + 6, none⟩) := hs.dep 6 _ rfl rfl
        have hj := hb 0 8 rfl rfl
        have q0 := (HC0.out j u w hC hj).2.2
        refine ValWp.pure (v := .slice Ak kA.length ck) (fun K' hK' => ?_) ⟨rfl, rfl⟩
        simp only [ValWp, execOp, Act.eval, e116]
        go_simp
        all_goals exact hK'
      · -- 8: slot 118 := Op.call { builtin append, args := #[t111, t117], argTypes := #[33, 33] }
        refine OwesS.w rfl fun a w u hC hl hs => ⟨rfl, fun K hK => ?_⟩
        have e111 : a.tmps.getD 111 undef = .slice none 0 0 := hs.dep 1 _ rfl rfl
        have e117 : a.tmps.getD 117 undef = .slice Ak kA.length ck := hs.dep 7 _ rfl rfl
        have hw := HA0.out u w hC
        subst hw
        exact owes_append HRK.out rfl e111 e117 (hK vK5 W5 trivial H1.out)
      · -- 9: slot 119 := Op.fieldAddr 35 t18 6
        refine OwesS.q rfl fun a w j u hC hb hs => ⟨rfl, ?_⟩
        have e18 : a.tmps.getD 18 undef = .pointer (some ⟨L, 0, none⟩) := hs.free 18 rfl
        refine ValWp.pure (v := .pointer (some ⟨L, 6, none⟩)) (fun K' hK' => ?_) ⟨rfl, rfl⟩
        simp only [ValWp, execOp, Act.eval, e18]
        go_simp
        all_goals exact hK'
      · -- 10: slot None := Op.store 33 t119 t118
        refine OwesS.w rfl fun a w u hC hl hs => ⟨rfl, fun K hK => ?_⟩
        have e119 : a.tmps.getD 119 undef = .pointer (some ⟨L, 6, none⟩) := hs.dep 9 _ rfl rfl
        have e118 : a.tmps.getD 118 undef = u := hl
        obtain ⟨hu0, hw⟩ := HA1.out u w hC
        subst hu0
        subst hw
        obtain ⟨A4, n4, k4, hu, q4, qz⟩ := HU.out
        subst hu
        refine wp_of_val ?_
        refine ValWp.pure (v := undef) (w' := w.setCell ⟨L, 6, none⟩ (.slice A4 n4 k4)) (fun K' hK' => ?_) (hK _ _ trivial H2.out)
        simp only [ValWp, execOp, Act.eval, e119, e118]
        go_simp
        all_goals exact hK'
    · intro a w u hC hl hd hsz hfree hs
      obtain ⟨u0, hu0⟩ : ∃ u, u = a.tmps.getD 0 undef := ⟨_, rfl⟩
      obtain ⟨u1, hu1⟩ : ∃ u, u = a.tmps.getD 1 undef := ⟨_, rfl⟩
      obtain ⟨u2, hu2⟩ : ∃ u, u = a.tmps.getD 2 undef := ⟨_, rfl⟩
      obtain ⟨u3, hu3⟩ : ∃ u, u = a.tmps.getD 3 undef := ⟨_, rfl⟩
      obtain ⟨u5, hu5⟩ : ∃ u, u = a.tmps.getD 5 undef := ⟨_, rfl⟩
      obtain ⟨u7, hu7⟩ : ∃ u, u = a.tmps.getD 7 undef := ⟨_, rfl⟩
      obtain ⟨u8, hu8⟩ : ∃ u, u = a.tmps.getD 8 undef := ⟨_, rfl⟩
      obtain ⟨u10, hu10⟩ : ∃ u, u = a.tmps.getD 10 undef := ⟨_, rfl⟩
      obtain ⟨u11, hu11⟩ : ∃ u, u = a.tmps.getD 11 undef := ⟨_, rfl⟩
      obtain ⟨u13, hu13⟩ : ∃ u, u = a.tmps.getD 13 undef := ⟨_, rfl⟩
      obtain ⟨u14, hu14⟩ : ∃ u, u = a.tmps.getD 14 undef := ⟨_, rfl⟩
      obtain ⟨u19, hu19⟩ : ∃ u, u = a.tmps.getD 19 undef := ⟨_, rfl⟩
      obtain ⟨u20, hu20⟩ : ∃ u, u = a.tmps.getD 20 undef := ⟨_, rfl⟩
      obtain ⟨u21, hu21⟩ : ∃ u, u = a.tmps.getD 21 undef := ⟨_, rfl⟩
      obtain ⟨u22, hu22⟩ : ∃ u, u = a.tmps.getD 22 undef := ⟨_, rfl⟩
      obtain ⟨u23, hu23⟩ : ∃ u, u = a.tmps.getD 23 undef := ⟨_, rfl⟩
      obtain ⟨u24, hu24⟩ : ∃ u, u = a.tmps.getD 24 undef := ⟨_, rfl⟩
      obtain ⟨u25, hu25⟩ : ∃ u, u = a.tmps.getD 25 undef := ⟨_, rfl⟩
      obtain ⟨u26, hu26⟩ : ∃ u, u = a.tmps.getD 26 undef := ⟨_, rfl⟩
      obtain ⟨u27, hu27⟩ : ∃ u, u = a.tmps.getD 27 undef := ⟨_, rfl⟩
      obtain ⟨u28, hu28⟩ : ∃ u, u = a.tmps.getD 28 undef := ⟨_, rfl⟩
      obtain ⟨u29, hu29⟩ : ∃ u, u = a.tmps.getD 29 undef := ⟨_, rfl⟩
      obtain ⟨u30, hu30⟩ : ∃ u, u = a.tmps.getD 30 undef := ⟨_, rfl⟩
      obtain ⟨u31, hu31⟩ : ∃ u, u = a.tmps.getD 31 undef := ⟨_, rfl⟩
      obtain ⟨u32, hu32⟩ : ∃ u, u = a.tmps.getD 32 undef := ⟨_, rfl⟩
      obtain ⟨u33, hu33⟩ : ∃ u, u = a.tmps.getD 33 undef := ⟨_, rfl⟩
      obtain ⟨u34, hu34⟩ : ∃ u, u = a.tmps.getD 34 undef := ⟨_, rfl⟩
      obtain ⟨u35, hu35⟩ : ∃ u, u = a.tmps.getD 35 undef := ⟨_, rfl⟩
      obtain ⟨u36, hu36⟩ : ∃ u, u = a.tmps.getD 36 undef := ⟨_, rfl⟩
      obtain ⟨u37, hu37⟩ : ∃ u, u = a.tmps.getD 37 undef := ⟨_, rfl⟩
      obtain ⟨u38, hu38⟩ : ∃ u, u = a.tmps.getD 38 undef := ⟨_, rfl⟩
      obtain ⟨u39, hu39⟩ : ∃ u, u = a.tmps.getD 39 undef := ⟨_, rfl⟩
      obtain ⟨u40, hu40⟩ : ∃ u, u = a.tmps.getD 40 undef := ⟨_, rfl⟩
      obtain ⟨u41, hu41⟩ : ∃ u, u = a.tmps.getD 41 undef := ⟨_, rfl⟩
      obtain ⟨u42, hu42⟩ : ∃ u, u = a.tmps.getD 42 undef := ⟨_, rfl⟩
      obtain ⟨u43, hu43⟩ : ∃ u, u = a.tmps.getD 43 undef := ⟨_, rfl⟩
      obtain ⟨u44, hu44⟩ : ∃ u, u = a.tmps.getD 44 undef := ⟨_, rfl⟩
      obtain ⟨u45, hu45⟩ : ∃ u, u = a.tmps.getD 45 undef := ⟨_, rfl⟩
      obtain ⟨u46, hu46⟩ : ∃ u, u = a.tmps.getD 46 undef := ⟨_, rfl⟩
      obtain ⟨u47, hu47⟩ : ∃ u, u = a.tmps.getD 47 undef := ⟨_, rfl⟩
      obtain ⟨u48, hu48⟩ : ∃ u, u = a.tmps.getD 48 undef := ⟨_, rfl⟩
      obtain ⟨u49, hu49⟩ : ∃ u, u = a.tmps.getD 49 undef := ⟨_, rfl⟩
      obtain ⟨u50, hu50⟩ : ∃ u, u = a.tmps.getD 50 undef := ⟨_, rfl⟩
      obtain ⟨u51, hu51⟩ : ∃ u, u = a.tmps.getD 51 undef := ⟨_, rfl⟩
      obtain ⟨u52, hu52⟩ : ∃ u, u = a.tmps.getD 52 undef := ⟨_, rfl⟩
      obtain ⟨u53, hu53⟩ : ∃ u, u = a.tmps.getD 53 undef := ⟨_, rfl⟩
      obtain ⟨u54, hu54⟩ : ∃ u, u = a.tmps.getD 54 undef := ⟨_, rfl⟩
      obtain ⟨u55, hu55⟩ : ∃ u, u = a.tmps.getD 55 undef := ⟨_, rfl⟩
      obtain ⟨u56, hu56⟩ : ∃ u, u = a.tmps.getD 56 undef := ⟨_, rfl⟩
      obtain ⟨u57, hu57⟩ : ∃ u, u = a.tmps.getD 57 undef := ⟨_, rfl⟩
      obtain ⟨u58, hu58⟩ : ∃ u, u = a.tmps.getD 58 undef := ⟨_, rfl⟩
      obtain ⟨u59, hu59⟩ : ∃ u, u = a.tmps.getD 59 undef := ⟨_, rfl⟩
      obtain ⟨u60, hu60⟩ : ∃ u, u = a.tmps.getD 60 undef := ⟨_, rfl⟩
      obtain ⟨u61, hu61⟩ : ∃ u, u = a.tmps.getD 61 undef := ⟨_, rfl⟩
      obtain ⟨u62, hu62⟩ : ∃ u, u = a.tmps.getD 62 undef := ⟨_, rfl⟩
      obtain ⟨u63, hu63⟩ : ∃ u, u = a.tmps.getD 63 undef := ⟨_, rfl⟩
      obtain ⟨u64, hu64⟩ : ∃ u, u = a.tmps.getD 64 undef := ⟨_, rfl⟩
      obtain ⟨u65, hu65⟩ : ∃ u, u = a.tmps.getD 65 undef := ⟨_, rfl⟩
      obtain ⟨u66, hu66⟩ : ∃ u, u = a.tmps.getD 66 undef := ⟨_, rfl⟩
      obtain ⟨u67, hu67⟩ : ∃ u, u = a.tmps.getD 67 undef := ⟨_, rfl⟩
      obtain ⟨u68, hu68⟩ : ∃ u, u = a.tmps.getD 68 undef := ⟨_, rfl⟩
      obtain ⟨u69, hu69⟩ : ∃ u, u = a.tmps.getD 69 undef := ⟨_, rfl⟩
      obtain ⟨u70, hu70⟩ : ∃ u, u = a.tmps.getD 70 undef := ⟨_, rfl⟩
      obtain ⟨u71, hu71⟩ : ∃ u, u = a.tmps.getD 71 undef := ⟨_, rfl⟩
      obtain ⟨u72, hu72⟩ : ∃ u, u = a.tmps.getD 72 undef := ⟨_, rfl⟩
      obtain ⟨u73, hu73⟩ : ∃ u, u = a.tmps.getD 73 undef := ⟨_, rfl⟩
      obtain ⟨u74, hu74⟩ : ∃ u, u = a.tmps.getD 74 undef := ⟨_, rfl⟩
      obtain ⟨u75, hu75⟩ : ∃ u, u = a.tmps.getD 75 undef := ⟨_, rfl⟩
      obtain ⟨u76, hu76⟩ : ∃ u, u = a.tmps.getD 76 undef := ⟨_, rfl⟩
      obtain ⟨u77, hu77⟩ : ∃ u, u = a.tmps.getD 77 undef := ⟨_, rfl⟩
      obtain ⟨u78, hu78⟩ : ∃ u, u = a.tmps.getD 78 undef := ⟨_, rfl⟩
      obtain ⟨u79, hu79⟩ : ∃ u, u = a.tmps.getD 79 undef := ⟨_, rfl⟩
      obtain ⟨u80, hu80⟩ : ∃ u, u = a.tmps.getD 80 undef := ⟨_, rfl⟩
      obtain ⟨u81, hu81⟩ : ∃ u, u = a.tmps.getD 81 undef := ⟨_, rfl⟩
      obtain ⟨u82, hu82⟩ : ∃ u, u = a.tmps.getD 82 undef := ⟨_, rfl⟩
      obtain ⟨u83, hu83⟩ : ∃ u, u = a.tmps.getD 83 undef := ⟨_, rfl⟩
      obtain ⟨u84, hu84⟩ : ∃ u, u = a.tmps.getD 84 undef := ⟨_, rfl⟩
      obtain ⟨u85, hu85⟩ : ∃ u, u = a.tmps.getD 85 undef := ⟨_, rfl⟩
      obtain ⟨u86, hu86⟩ : ∃ u, u = a.tmps.getD 86 undef := ⟨_, rfl⟩
      obtain ⟨u87, hu87⟩ : ∃ u, u = a.tmps.getD 87 undef := ⟨_, rfl⟩
      obtain ⟨u88, hu88⟩ : ∃ u, u = a.tmps.getD 88 undef := ⟨_, rfl⟩
      obtain ⟨u89, hu89⟩ : ∃ u, u = a.tmps.getD 89 undef := ⟨_, rfl⟩
      obtain ⟨u90, hu90⟩ : ∃ u, u = a.tmps.getD 90 undef := ⟨_, rfl⟩
      obtain ⟨u91, hu91⟩ : ∃ u, u = a.tmps.getD 91 undef := ⟨_, rfl⟩
      obtain ⟨u92, hu92⟩ : ∃ u, u = a.tmps.getD 92 undef := ⟨_, rfl⟩
      obtain ⟨u93, hu93⟩ : ∃ u, u = a.tmps.getD 93 undef := ⟨_, rfl⟩
      obtain ⟨u94, hu94⟩ : ∃ u, u = a.tmps.getD 94 undef := ⟨_, rfl⟩
      obtain ⟨u95, hu95⟩ : ∃ u, u = a.tmps.getD 95 undef := ⟨_, rfl⟩
      obtain ⟨u96, hu96⟩ : ∃ u, u = a.tmps.getD 96 undef := ⟨_, rfl⟩
      obtain ⟨u97, hu97⟩ : ∃ u, u = a.tmps.getD 97 undef := ⟨_, rfl⟩
      obtain ⟨u98, hu98⟩ : ∃ u, u = a.tmps.getD 98 undef := ⟨_, rfl⟩
      obtain ⟨u99, hu99⟩ : ∃ u, u = a.tmps.getD 99 undef := ⟨_, rfl⟩
      obtain ⟨u100, hu100⟩ : ∃ u, u = a.tmps.getD 100 undef := ⟨_, rfl⟩
      obtain ⟨u101, hu101⟩ : ∃ u, u = a.tmps.getD 101 undef := ⟨_, rfl⟩
      obtain ⟨u102, hu102⟩ : ∃ u, u = a.tmps.getD 102 undef := ⟨_, rfl⟩
      obtain ⟨u103, hu103⟩ : ∃ u, u = a.tmps.getD 103 undef := ⟨_, rfl⟩
      obtain ⟨u104, hu104⟩ : ∃ u, u = a.tmps.getD 104 undef := ⟨_, rfl⟩
      obtain ⟨u105, hu105⟩ : ∃ u, u = a.tmps.getD 105 undef := ⟨_, rfl⟩
      obtain ⟨u106, hu106⟩ : ∃ u, u = a.tmps.getD 106 undef := ⟨_, rfl⟩
      obtain ⟨u107, hu107⟩ : ∃ u, u = a.tmps.getD 107 undef := ⟨_, rfl⟩
      obtain ⟨u108, hu108⟩ : ∃ u, u = a.tmps.getD 108 undef := ⟨_, rfl⟩
      obtain ⟨u109, hu109⟩ : ∃ u, u = a.tmps.getD 109 undef := ⟨_, rfl⟩
      obtain ⟨u110, hu110⟩ : ∃ u, u = a.tmps.getD 110 undef := ⟨_, rfl⟩
      obtain ⟨u111, hu111⟩ : ∃ u, u = a.tmps.getD 111 undef := ⟨_, rfl⟩
      obtain ⟨u112, hu112⟩ : ∃ u, u = a.tmps.getD 112 undef := ⟨_, rfl⟩
      obtain ⟨u113, hu113⟩ : ∃ u, u = a.tmps.getD 113 undef := ⟨_, rfl⟩
      obtain ⟨u114, hu114⟩ : ∃ u, u = a.tmps.getD 114 undef := ⟨_, rfl⟩
      obtain ⟨u115, hu115⟩ : ∃ u, u = a.tmps.getD 115 undef := ⟨_, rfl⟩
      obtain ⟨u116, hu116⟩ : ∃ u, u = a.tmps.getD 116 undef := ⟨_, rfl⟩
      obtain ⟨u117, hu117⟩ : ∃ u, u = a.tmps.getD 117 undef := ⟨_, rfl⟩
      obtain ⟨u118, hu118⟩ : ∃ u, u = a.tmps.getD 118 undef := ⟨_, rfl⟩
      obtain ⟨u119, hu119⟩ : ∃ u, u = a.tmps.getD 119 undef := ⟨_, rfl⟩
      obtain ⟨u120, hu120⟩ : ∃ u, u = a.tmps.getD 120 undef := ⟨_, rfl⟩
      obtain ⟨u121, hu121⟩ : ∃ u, u = a.tmps.getD 121 undef := ⟨_, rfl⟩
      obtain ⟨u122, hu122⟩ : ∃ u, u = a.tmps.getD 122 undef := ⟨_, rfl⟩
      obtain ⟨u123, hu123⟩ : ∃ u, u = a.tmps.getD 123 undef := ⟨_, rfl⟩
      obtain ⟨u124, hu124⟩ : ∃ u, u = a.tmps.getD 124 undef := ⟨_, rfl⟩
      obtain ⟨u125, hu125⟩ : ∃ u, u = a.tmps.getD 125 undef := ⟨_, rfl⟩
      obtain ⟨u126, hu126⟩ : ∃ u, u = a.tmps.getD 126 undef := ⟨_, rfl⟩
      obtain ⟨u127, hu127⟩ : ∃ u, u = a.tmps.getD 127 undef := ⟨_, rfl⟩
      obtain ⟨u128, hu128⟩ : ∃ u, u = a.tmps.getD 128 undef := ⟨_, rfl⟩
      obtain ⟨u129, hu129⟩ : ∃ u, u = a.tmps.getD 129 undef := ⟨_, rfl⟩
      obtain ⟨u130, hu130⟩ : ∃ u, u = a.tmps.getD 130 undef := ⟨_, rfl⟩
      obtain ⟨u131, hu131⟩ : ∃ u, u = a.tmps.getD 131 undef := ⟨_, rfl⟩
      obtain ⟨u132, hu132⟩ : ∃ u, u = a.tmps.getD 132 undef := ⟨_, rfl⟩
      obtain ⟨u133, hu133⟩ : ∃ u, u = a.tmps.getD 133 undef := ⟨_, rfl⟩
      obtain ⟨u134, hu134⟩ : ∃ u, u = a.tmps.getD 134 undef := ⟨_, rfl⟩
      obtain ⟨u135, hu135⟩ : ∃ u, u = a.tmps.getD 135 undef := ⟨_, rfl⟩
      obtain ⟨u136, hu136⟩ : ∃ u, u = a.tmps.getD 136 undef := ⟨_, rfl⟩
      obtain ⟨u137, hu137⟩ : ∃ u, u = a.tmps.getD 137 undef := ⟨_, rfl⟩
      obtain ⟨u138, hu138⟩ : ∃ u, u = a.tmps.getD 138 undef := ⟨_, rfl⟩
      obtain ⟨u139, hu139⟩ : ∃ u, u = a.tmps.getD 139 undef := ⟨_, rfl⟩
      obtain ⟨u140, hu140⟩ : ∃ u, u = a.tmps.getD 140 undef := ⟨_, rfl⟩
      obtain ⟨u141, hu141⟩ : ∃ u, u = a.tmps.getD 141 undef := ⟨_, rfl⟩
      obtain ⟨u142, hu142⟩ : ∃ u, u = a.tmps.getD 142 undef := ⟨_, rfl⟩
      obtain ⟨u143, hu143⟩ : ∃ u, u = a.tmps.getD 143 undef := ⟨_, rfl⟩
      obtain ⟨u144, hu144⟩ : ∃ u, u = a.tmps.getD 144 undef := ⟨_, rfl⟩
      obtain ⟨u145, hu145⟩ : ∃ u, u = a.tmps.getD 145 undef := ⟨_, rfl⟩
      obtain ⟨u146, hu146⟩ : ∃ u, u = a.tmps.getD 146 undef := ⟨_, rfl⟩
      obtain ⟨u147, hu147⟩ : ∃ u, u = a.tmps.getD 147 undef := ⟨_, rfl⟩
      obtain ⟨u148, hu148⟩ : ∃ u, u = a.tmps.getD 148 undef := ⟨_, rfl⟩
      obtain ⟨u149, hu149⟩ : ∃ u, u = a.tmps.getD 149 undef := ⟨_, rfl⟩
      obtain ⟨u150, hu150⟩ : ∃ u, u = a.tmps.getD 150 undef := ⟨_, rfl⟩
      obtain ⟨u151, hu151⟩ : ∃ u, u = a.tmps.getD 151 undef := ⟨_, rfl⟩
      obtain ⟨u152, hu152⟩ : ∃ u, u = a.tmps.getD 152 undef := ⟨_, rfl⟩
      obtain ⟨u153, hu153⟩ : ∃ u, u = a.tmps.getD 153 undef := ⟨_, rfl⟩
      obtain ⟨u154, hu154⟩ : ∃ u, u = a.tmps.getD 154 undef := ⟨_, rfl⟩
      obtain ⟨u155, hu155⟩ : ∃ u, u = a.tmps.getD 155 undef := ⟨_, rfl⟩
      obtain ⟨u156, hu156⟩ : ∃ u, u = a.tmps.getD 156 undef := ⟨_, rfl⟩
      obtain ⟨u157, hu157⟩ : ∃ u, u = a.tmps.getD 157 undef := ⟨_, rfl⟩
      obtain ⟨u158, hu158⟩ : ∃ u, u = a.tmps.getD 158 undef := ⟨_, rfl⟩
      obtain ⟨u159, hu159⟩ : ∃ u, u = a.tmps.getD 159 undef := ⟨_, rfl⟩
      obtain ⟨u160, hu160⟩ : ∃ u, u = a.tmps.getD 160 undef := ⟨_, rfl⟩
      obtain ⟨u161, hu161⟩ : ∃ u, u = a.tmps.getD 161 undef := ⟨_, rfl⟩
      obtain ⟨u162, hu162⟩ : ∃ u, u = a.tmps.getD 162 undef := ⟨_, rfl⟩
      obtain ⟨u163, hu163⟩ : ∃ u, u = a.tmps.getD 163 undef := ⟨_, rfl⟩
      obtain ⟨u164, hu164⟩ : ∃ u, u = a.tmps.getD 164 undef := ⟨_, rfl⟩
      obtain ⟨u165, hu165⟩ : ∃ u, u = a.tmps.getD 165 undef := ⟨_, rfl⟩
      obtain ⟨u166, hu166⟩ : ∃ u, u = a.tmps.getD 166 undef := ⟨_, rfl⟩
      obtain ⟨u167, hu167⟩ : ∃ u, u = a.tmps.getD 167 undef := ⟨_, rfl⟩
      obtain ⟨u168, hu168⟩ : ∃ u, u = a.tmps.getD 168 undef := ⟨_, rfl⟩
      have hal : AllAt a 0 [u0, u1, u2, u3, .bool false, u5, .pointer (some ⟨w2.heap.size, 0, none⟩), u7, u8, .pointer (some ⟨w3.heap.size, 0, none⟩), u10, u11, .pointer (some ⟨w4.heap.size, 0, none⟩), u13, u14, .int .i64 (nA : Int), .int .i64 (nB : Int), vW, .pointer (some ⟨L, 0, none⟩), u19, u20, u21, u22, u23, u24, u25, u26, u27, u28, u29, u30, u31, u32, u33, u34, u35, u36, u37, u38, u39, u40, u41, u42, u43, u44, u45, u46, u47, u48, u49, u50, u51, u52, u53, u54, u55, u56, u57, u58, u59, u60, u61, u62, u63, u64, u65, u66, u67, u68, u69, u70, u71, u72, u73, u74, u75, u76, u77, u78, u79, u80, u81, u82, u83, u84, u85, u86, u87, u88, u89, u90, u91, u92, u93, u94, u95, u96, u97, u98, u99, u100, u101, u102, u103, u104, u105, u106, u107, u108, u109, u110, u111, u112, u113, u114, u115, u116, u117, u118, u119, u120, u121, u122, u123, u124, u125, u126, u127, u128, u129, u130, u131, u132, u133, u134, u135, u136, u137, u138, u139, u140, u141, u142, u143, u144, u145, u146, u147, u148, u149, u150, u151, u152, u153, u154, u155, u156, u157, u158, u159, u160, u161, u162, u163, u164, u165, u166, u167, u168] := ⟨hu0.symm, hu1.symm, hu2.symm, hu3.symm, hfree 4 rfl, hu5.symm, hfree 6 rfl, hu7.symm, hu8.symm, hfree 9 rfl, hu10.symm, hu11.symm, hfree 12 rfl, hu13.symm, hu14.symm, hfree 15 rfl, hfree 16 rfl, hfree 17 rfl, hfree 18 rfl, hu19.symm, hu20.symm, hu21.symm, hu22.symm, hu23.symm, hu24.symm, hu25.symm, hu26.symm, hu27.symm, hu28.symm, hu29.symm, hu30.symm, hu31.symm, hu32.symm, hu33.symm, hu34.symm, hu35.symm, hu36.symm, hu37.symm, hu38.symm, hu39.symm, hu40.symm, hu41.symm, hu42.symm, hu43.symm, hu44.symm, hu45.symm, hu46.symm, hu47.symm, hu48.symm, hu49.symm, hu50.symm, hu51.symm, hu52.symm, hu53.symm, hu54.symm, hu55.symm, hu56.symm, hu57.symm, hu58.symm, hu59.symm, hu60.symm, hu61.symm, hu62.symm, hu63.symm, hu64.symm, hu65.symm, hu66.symm, hu67.symm, hu68.symm, hu69.symm, hu70.symm, hu71.symm, hu72.symm, hu73.symm, hu74.symm, hu75.symm, hu76.symm, hu77.symm, hu78.symm, hu79.symm, hu80.symm, hu81.symm, hu82.symm, hu83.symm, hu84.symm, hu85.symm, hu86.symm, hu87.symm, hu88.symm, hu89.symm, hu90.symm, hu91.symm, hu92.symm, hu93.symm, hu94.symm, hu95.symm, hu96.symm, hu97.symm, hu98.symm, hu99.symm, hu100.symm, hu101.symm, hu102.symm, hu103.symm, hu104.symm, hu105.symm, hu106.symm, hu107.symm, hu108.symm, hu109.symm, hu110.symm, hu111.symm, hu112.symm, hu113.symm, hu114.symm, hu115.symm, hu116.symm, hu117.symm, hu118.symm, hu119.symm, hu120.symm, hu121.symm, hu122.symm, hu123.symm, hu124.symm, hu125.symm, hu126.symm, hu127.symm, hu128.symm, hu129.symm, hu130.symm, hu131.symm, hu132.symm, hu133.symm, hu134.symm, hu135.symm, hu136.symm, hu137.symm, hu138.symm, hu139.symm, hu140.symm, hu141.symm, hu142.symm, hu143.symm, hu144.symm, hu145.symm, hu146.symm, hu147.symm, hu148.symm, hu149.symm, hu150.symm, hu151.symm, hu152.symm, hu153.symm, hu154.symm, hu155.symm, hu156.symm, hu157.symm, hu158.symm, hu159.symm, hu160.symm, hu161.symm, hu162.symm, hu163.symm, hu164.symm, hu165.symm, hu166.symm, hu167.symm, hu168.symm, trivial⟩
      have hlit := fun h => act_lit hd h hal
      rw [hlit hsz]
      clear hlit hal hd hsz hfree hs hu0 hu1 hu2 hu3 hu5 hu7 hu8 hu10 hu11 hu13 hu14 hu19 hu20 hu21 hu22 hu23 hu24 hu25 hu26 hu27 hu28 hu29 hu30 hu31 hu32 hu33 hu34 hu35 hu36 hu37 hu38 hu39 hu40 hu41 hu42 hu43 hu44 hu45 hu46 hu47 hu48 hu49 hu50 hu51 hu52 hu53 hu54 hu55 hu56 hu57 hu58 hu59 hu60 hu61 hu62 hu63 hu64 hu65 hu66 hu67 hu68 hu69 hu70 hu71 hu72 hu73 hu74 hu75 hu76 hu77 hu78 hu79 hu80 hu81 hu82 hu83 hu84 hu85 hu86 hu87 hu88 hu89 hu90 hu91 hu92 hu93 hu94 hu95 hu96 hu97 hu98 hu99 hu100 hu101 hu102 hu103 hu104 hu105 hu106 hu107 hu108 hu109 hu110 hu111 hu112 hu113 hu114 hu115 hu116 hu117 hu118 hu119 hu120 hu121 hu122 hu123 hu124 hu125 hu126 hu127 hu128 hu129 hu130 hu131 hu132 hu133 hu134 hu135 hu136 hu137 hu138 hu139 hu140 hu141 hu142 hu143 hu144 hu145 hu146 hu147 hu148 hu149 hu150 hu151 hu152 hu153 hu154 hu155 hu156 hu157 hu158 hu159 hu160 hu161 hu162 hu163 hu164 hu165 hu166 hu167 hu168
      have hw := HE.out u w hC
      subst hw
      clear hC hl
      obtain ⟨W6, hW6⟩ : ∃ W6, W6 = W5.setCell ⟨L, 6, none⟩ vK5 := ⟨_, rfl⟩
      rw [← hW6]
      have HLP6 := Lib.hid (show Lp W0 W6 L vW vK5 itemsA kA by rw [hW6]; exact HLP7.out)
      clear hW6
      go_wp2

      clear wa1 wa2 wa3 wa4 wa5 wa6 wa7 wa8 va vb
      go_loopw [17, 19] (fun vw i wr => ∃ j : Nat, j ≤ n2 ∧ i = .int .i64 (j : Int) ∧ ∃ vK items LK, Lp W0 wr L vw vK items LK ∧ items.map (·.1) = xs ++ (ys.take j).map (Sx.shift nA) ∧ LK = (if j ≤ nB then kA else kA ++ kB.map (· + nA))) (fun vw i _ => n2 + 1 - (intOf i).toNat)
      case atStart => exact ⟨0, Nat.zero_le _, rfl, vK5, itemsA, kA, HLP6.out, by rw [IA1.out]; simp, by rw [if_pos (Nat.zero_le _)]⟩
      case round =>
        obtain ⟨j, hj, rfl, vK, items, LK, hlp, hit, hLK⟩ := hrel
        obtain ⟨wo, rfl⟩ : ∃ wo, wo = wr := ⟨_, rfl⟩
        obtain ⟨AK, cK, eK, _⟩ := own_any hlp.oK
        obtain ⟨nK, hnK⟩ : ∃ nK, nK = LK.length := ⟨_, rfl⟩
        rw [← hnK] at eK
        subst eK
        have HNK2 := Lib.hid hnK
        clear hnK
        have HLP := Lib.hid hlp
        have HIT := Lib.hid hit
        have HLK := Lib.hid hLK
        have HIL := Lib.hid (show items.length = nA + min j nB from by
          have := congrArg List.length hit
          simp only [List.length_map, List.length_append, List.length_take] at this
          rw [this, HNA.out, HNB.out])
        have hj0 : (0 : Int) ≤ (j : Int) := by omega
        by_cases hjn : j ≤ nB
        · have hj1 : (j : Int) ≤ (nB : Int) := by omega
          have hj2 : (j : Int) < (n2 : Int) := by have := HN2.out; omega
          have hjl : j < (ys ++ [({ kind := 5, kids := kB, left := lB } : Sx.Node)]).length := by rw [List.length_append, HNB.out]; simp; omega
          obtain ⟨v, hva, hnv⟩ : ∃ v, NodeAt wo (nl b) g2 (j * 8) (ys ++ [({ kind := 5, kids := kB, left := lB } : Sx.Node)])[j] v ∧ Nest wo (ys ++ [({ kind := 5, kids := kB, left := lB } : Sx.Node)])[j] v := by
            rcases (HMB.out.later hlp.lt).at_ with h | ⟨g', eg, hat⟩
            · simp at h
            · cases eg
              exact hat j hjl
          obtain ⟨y, hy⟩ : ∃ y, y = (ys ++ [({ kind := 5, kids := kB, left := lB } : Sx.Node)])[j] := ⟨_, rfl⟩
          have HSY := Lib.hid (HSB2.out y (by rw [hy]; exact List.getElem_mem hjl))
          have HY1 := Lib.hid (show j < nB → ∃ h : j < ys.length, y = ys[j] from fun h => ⟨by rw [HNB.out]; exact h, by rw [hy, List.getElem_append_left (by rw [HNB.out]; exact h)]⟩)
          have HY2 := Lib.hid (show j = nB → y.kids = kB from fun h => by
            rw [hy, List.getElem_append_right (by rw [HNB.out]; omega)]
            simp [HNB.out, h])
          rw [← hy] at hva hnv
          obtain ⟨Aw, cw, e1, _⟩ := own_any hnv.w
          obtain ⟨Ar, cr, e2, _⟩ := own_any hnv.r
          obtain ⟨Ak2, ck2, e3, _⟩ := own_any hnv.k
          obtain ⟨nw, hnw⟩ : ∃ nw, y.words.length = nw := ⟨_, rfl⟩
          obtain ⟨nr, hnr⟩ : ∃ nr, y.redirs.length = nr := ⟨_, rfl⟩
          obtain ⟨nk, hnk⟩ : ∃ nk, y.kids.length = nk := ⟨_, rfl⟩
          obtain ⟨ln, hln⟩ : ∃ ln : Int, lnv (nl b) y.left = .int .i64 ln := ⟨_, rfl⟩
          obtain ⟨kd, hkd⟩ : ∃ kd : Int, (y.kind : Int) = kd := ⟨_, rfl⟩
          obtain ⟨st, hst⟩ : ∃ st : Int, (y.sets : Int) = st := ⟨_, rfl⟩
          obtain ⟨tx, htx⟩ : ∃ tx, mkS y.text = tx := ⟨_, rfl⟩
          obtain ⟨fl, hfl⟩ : ∃ fl, y.flag = fl := ⟨_, rfl⟩
          rw [hnw] at e1
          rw [hnr] at e2
          rw [hnk] at e3
          have hld := node_load hva
          rw [show (ncs y v (lnv (nl b) y.left)).toArray = #[.int .i64 kd, .string tx, .bool fl, .slice Aw nw cw, .int .i64 st, .slice Ar nr cr, .slice Ak2 nk ck2, .int .i64 ln] by unfold ncs; rw [e1, e2, e3, hln, ← hkd, ← hst, ← htx, ← hfl]; rfl] at hld
          have HLD := Lib.hid hld
          have ow := hnv.w
          have ork := hnv.r
          have ok := hnv.k
          rw [e1, hnw] at ow
          rw [e2, hnr] at ork
          rw [e3, hnk] at ok
          have OW := Lib.hid ow
          have OR := Lib.hid ork
          have OK := Lib.hid ok
          have HNW := Lib.hid hnw
          have HNR := Lib.hid hnr
          have HNK := Lib.hid hnk
          have HKD := Lib.hid hkd
          have HST := Lib.hid hst
          have HTX := Lib.hid htx
          have HFL := Lib.hid hfl
          have hnk1 : nk ≤ 9001 := by rw [← hnk]; exact HSY.out.1
          have HALL := Lib.hid (show (#[.int .i64 kd, .string tx, .bool fl, .slice Aw nw cw, .int .i64 st, .slice Ar nr cr, .slice Ak2 nk ck2, .int .i64 ln] : Array Value).all (·.oneCell') = true by simp [Value.oneCell'])
          have d5 : wo.cell? ⟨w3.heap.size, 0, none⟩ = some (.slice (some ⟨g2, 0, none⟩) n2 c2) := cell_keeps hlp.lt (cell_row T2.out 0).1
          clear hlp hit hLK hva hnv hy hjl e1 e2 e3 hld ow ork ok hnw hnr hnk hln hkd hst htx hfl
          go_wp2_with (first
            | (refine wpList_loadRun rfl 35 (.tmp 128) rfl _ _ rfl HLD.out ?_)
            | (refine wpList_allocO 20 rfl rfl 35 rfl _ _ info_node ?_; intro w6 hb hl hz; have HB6 := Lib.hid (hb); have HL6 := Lib.hid (hl); clear hb hl hz)
            | (refine wpList_storeO rfl 35 (.tmp 20) (.tmp 129) rfl wo.heap.size _ #[.int .i64 kd, .string tx, .bool fl, .slice Aw nw cw, .int .i64 st, .slice Ar nr cr, .slice Ak2 nk ck2, .int .i64 ln] rfl rfl HB6.out size_node rfl HALL.out ?_; intro w7 hb7 hg7 hz7; have HB7 := Lib.hid hb7; have HL7 := Lib.hid (later_of_new HL6.out hg7 (Nat.le_refl _)); clear hb7 hg7 hz7))
          go_loopw [21, 22] (fun kv k wx => ∃ i : Nat, i ≤ nk ∧ k = .int .i64 (i : Int) ∧ Grew w7 wx w7.heap.size 3 (.slice none 0 0) kv (((y.kids.take i).map (· + nA)).map iv)) (fun kv k _ => nk - (intOf k).toNat)
          case atStart => exact ⟨0, Nat.zero_le _, rfl, by simpa using Grew.nil w7 w7.heap.size 3⟩
          case round =>
            obtain ⟨i, hi, rfl, hgr⟩ := hrel
            have hlx : Later w7 wr := hgr.belowNil
            have HGR := Lib.hid hgr
            have HLX := Lib.hid hlx
            have hbx := later_cells hlx HB7.out
            have x6 : wr.cell? ⟨wo.heap.size, 6, none⟩ = some (.slice Ak2 nk ck2) := (cell_row hbx 6).1
            have hi0 : (0 : Int) ≤ (i : Int) := by omega
            by_cases hik : i < nk
            · have hil : i < y.kids.length := by rw [HNK.out]; exact hik
              obtain ⟨q, hq⟩ : ∃ q, q = y.kids[i] := ⟨_, rfl⟩
              have hq9 : q < 9001 := by rw [hq]; exact HSY.out.2 _ (List.getElem_mem hil)
              have hkk := own_below OK.out (HL7.out.trans hlx)
              obtain ⟨gk, egk, hcl⟩ := row_cell hkk (i := i) (u := iv q) (by rw [List.getElem?_map, List.getElem?_eq_getElem hil, hq]; rfl)
              subst egk
              have y1 : wr.cell? ⟨gk, i, none⟩ = some (.int .i64 (q : Int)) := hcl
              obtain ⟨t, ht⟩ : ∃ t, t = q + nA := ⟨_, rfl⟩
              have HT := Lib.hid (show (y.kids.take (i + 1)).map (· + nA) = (y.kids.take i).map (· + nA) ++ [t] by rw [List.take_succ_eq_append_getElem hil, List.map_append, ← hq, ht]; rfl)
              have hi5 : (i : Int) < (nk : Int) := by omega
              have HPL := Lib.hid (plus ht (by have := HBA.out; omega))
              have hlen : ((y.kids.take i).map (· + nA)).length ≤ 1000000 := by rw [List.length_map, List.length_take]; omega
              obtain ⟨v', w', hrun, hg'⟩ := kid_one (y := t) hlx.size hgr.own hlen
              have HRK2 := Lib.hid (show (Builtin.append_ #[33, 33] 33 #[_, .slice (some ⟨wr.heap.size, 0, none⟩) 1 1]).run Tryz.prog (wr.alloc (.cells #[.int .i64 (t : Int)] 3)) = .ok v' w' from hrun)
              have HG' := Lib.hid hg'
              obtain ⟨pl1, pl2⟩ := HPL.out
              clear hgr hlx hbx hil hq hq9 hkk hcl ht hlen hrun hg'
              go_wp2_with (at_builtin; refine wpList_appX rfl (.tmp 137) (.tmp 145) 33 rfl _ _ rfl rfl v' w' HRK2.out ?_)
              go_roundw
              case rel => clear pl1 pl2; exact ⟨i + 1, by omega, by go_num, by rw [HT.out]; exact HGR.out.trans HG'.out⟩
              case measure => clear pl1 pl2; simp [intOf]; omega
            · have hie : i = nk := by omega
              have hi5 : ¬ (i : Int) < (nk : Int) := by omega
              have htk : y.kids.take i = y.kids := List.take_of_length_le (by rw [HNK.out]; omega)
              rw [htk] at hgr
              obtain ⟨kk, hkk⟩ : ∃ kk, kk = y.kids.map (· + nA) := ⟨_, rfl⟩
              have hkl : kk.length = nk := by rw [hkk, List.length_map]; exact HNK.out
              rw [← hkk] at hgr
              have ho9 := hgr.own
              rw [List.length_map, hkl] at ho9
              obtain ⟨A9, c9, e9, _⟩ := own_any ho9
              subst e9
              have HKK := Lib.hid hkk
              have HKL := Lib.hid hkl
              have x7 : wr.frozen? ⟨wo.heap.size, 6, none⟩ = false := (cell_row hbx 6).2
              obtain ⟨wz, hwz⟩ : ∃ wz, wz = wr.setCell ⟨wo.heap.size, 6, none⟩ (.slice A9 nk c9) := ⟨_, rfl⟩
              have hbz : wz.heap[wo.heap.size]? = some (.cells #[.int .i64 kd, .string tx, .bool fl, .slice Aw nw cw, .int .i64 st, .slice Ar nr cr, .slice A9 nk c9, .int .i64 ln] 35 (0, 0)) := by rw [hwz]; exact set_row hbx 6 _
              have hlz : Later wo wz := by rw [hwz]; exact later_of_new (HL7.out.trans hlx) (set_only wr wo.heap.size 6 _) (Nat.le_refl _)
              have hsz1 : wz.heap.size = wr.heap.size := by rw [hwz]; simp
              have hne9 : ∀ b, (Value.slice A9 nk c9).ownBlock = some b → w7.heap.size ≤ b := fun b e => (ho9.lt b e).1
              have hokz : wz.ownsRow 0 3 1 (.slice A9 nk c9) nk (kk.map iv) := by
                have h0 := ho9.mono (Nat.zero_le w7.heap.size)
                rw [hwz]
                exact h0.kept (set_only wr wo.heap.size 6 _) (.inr (own_box h0 hbx (by decide)))
              have hlpz := HLP.out.later hlz
              have hvK : ∀ b, (Value.slice AK nK cK).ownBlock = some b → b < wo.heap.size := fun b e => (HLP.out.oK.lt b e).2
              have hw7 : wo.heap.size ≤ w7.heap.size := HL7.out.size
              by_cases hjm : j < nB
              · have hj5 : (j : Int) < (nB : Int) := by omega
                obtain ⟨wy, hwy⟩ : ∃ wy, wy = wz.alloc (.cells #[.int .i64 kd, .string tx, .bool fl, .slice Aw nw cw, .int .i64 st, .slice Ar nr cr, .slice A9 nk c9, .int .i64 ln] 35) := ⟨_, rfl⟩
                have hly : Later wz wy := by rw [hwy]; exact Later.alloc _ _
                have hby : wy.heap[wz.heap.size]? = some (.cells #[.int .i64 (y.kind : Int), .string (mkS y.text), .bool y.flag, .slice Aw nw cw, .int .i64 (y.sets : Int), .slice Ar nr cr, .slice A9 nk c9, .int .i64 ln] 35 (0, 0)) := by rw [HKD.out, HTX.out, HFL.out, HST.out, hwy]; exact heap_alloc_new wz _
                obtain ⟨vW9, W9, x9, hrun, hlp9, hx9⟩ := item_run (hlpz.later hly) y kk (own_below OW.out (hlz.trans hly)) HNW.out (own_below OR.out (hlz.trans hly)) HNR.out (own_below hokz hly) HKL.out (fun b e1 e2 => by have := hne9 b e1; have := hvK b e2; omega) hby (by have := HIL.out; have := HBA.out; have := HBB.out; omega)
                have HRUN9 := Lib.hid hrun
                have HLP9 := Lib.hid hlp9
                have HX9 := Lib.hid hx9
                have HBZ := Lib.hid hbz
                rw [hwy, hsz1] at hrun
                have HRUN8 := Lib.hid hrun
                have hw4 := hsz1
                clear hgr hlx hbx htk hkk hkl ho9 hlz hne9 hokz hlpz hvK hw7 hly hby hrun hlp9 hx9 hwy hbz
                rw [hwz] at hw4
                go_wp2_with (first
                  | (refine wpList_loadO rfl 35 (.tmp 20) rfl wo.heap.size #[.int .i64 kd, .string tx, .bool fl, .slice Aw nw cw, .int .i64 st, .slice Ar nr cr, .slice A9 nk c9, .int .i64 ln] _ rfl (by rw [← hwz]; exact HBZ.out) Tryz.underlying35 rfl size_node ?_)
                  | (at_builtin; refine wpList_appX rfl (.tmp 152) (.tmp 154) 24 rfl _ _ rfl rfl vW9 W9 (by rw [← hwz]; exact HRUN8.out) ?_))
                have hBB := HBB.out
                go_roundw
                case rel =>
                  refine ⟨j + 1, by rw [HN2.out]; exact Nat.succ_le_succ hjn, num1 (Nat.le_trans hjn (Nat.le_trans hBB (by decide))), _, items ++ [x9], LK, HLP9.out, ?_, ?_⟩
                  · obtain ⟨h, e⟩ := HY1.out hjm
                    rw [List.map_append, HIT.out, List.take_succ_eq_append_getElem h, List.map_append, ← List.append_assoc, ← e]
                    congr 1
                    show [x9.1] = [Sx.shift nA y]
                    rw [HX9.out, HKK.out]
                    rfl
                  · rw [HLK.out, if_pos hjn, if_pos (by omega)]
                case measure => exact meas (by rw [HN2.out]; exact Nat.lt_succ_of_le hjn) (by rw [HN2.out]; exact Nat.le_trans (Nat.succ_le_succ hBB) (by decide))
              · have hje : j = nB := by omega
                subst hje
                have hj5 : ¬ (j : Int) < (j : Int) := by omega
                have hlk : LK.length ≤ 9001 := by rw [HLK.out, if_pos hjn]; exact HKA.out
                obtain ⟨vK9, W9, hrun, hbx9, ⟨A5, n5, c5, e5⟩, hlt9, hlp9⟩ := kids_run hlpz (c := c9) (more := kk) (Rd.of_own hokz) (by omega)
                subst e5
                have z6 : W9.cell? ⟨L, 6, none⟩ = some (.slice AK nK cK) := (cell_row hbx9 6).1
                have z7 : W9.frozen? ⟨L, 6, none⟩ = false := (cell_row hbx9 6).2
                have HRUN9 := Lib.hid hrun
                have HLP9 := Lib.hid hlp9
                have d6 : wr.cell? ⟨L, 6, none⟩ = some (.slice AK nK cK) := cell_keeps (HL7.out.trans hlx) (cell_row HLP.out.box 6).1
                have hLne : L < wo.heap.size := lt_of_block HLP.out.box
                have hLn2 : ¬ L = wo.heap.size := by omega
                have hLn3 : ¬ wo.heap.size = L := by omega
                clear hgr hlx hbx htk hkk hkl ho9 hlz hne9 hokz hlpz hvK hw7 hrun hbx9 hlt9 hlp9 hbz hsz1 hlk
                go_wp2_with (at_builtin; refine wpList_appX rfl (.tmp 157) (.tmp 158) 33 rfl _ _ rfl rfl (.slice A5 n5 c5) W9 (by rw [← hwz]; exact HRUN9.out) ?_)
                have hBB := HBB.out
                go_roundw
                case rel =>
                  refine ⟨j + 1, by rw [HN2.out]; exact Nat.succ_le_succ hjn, num1 (Nat.le_trans hjn (Nat.le_trans hBB (by decide))), _, items, LK ++ kk, HLP9.out, ?_, ?_⟩
                  · rw [HIT.out, List.take_of_length_le (by rw [HNB.out]; omega), List.take_of_length_le (by rw [HNB.out]; omega)]
                  · rw [HLK.out, if_pos hjn, if_neg (by omega), HKK.out, HY2.out rfl]
                case measure => exact meas (by rw [HN2.out]; exact Nat.lt_succ_of_le hjn) (by rw [HN2.out]; exact Nat.le_trans (Nat.succ_le_succ hBB) (by decide))
        · have hje : j = n2 := by have := HN2.out; omega
          have hj1 : ¬ (j : Int) ≤ (nB : Int) := by omega
          obtain ⟨wy, hwy⟩ : ∃ wy, wy = wo.alloc (.cells #[.int .i64 5, .string ⟨#[]⟩, .bool false, .slice none 0 0, .int .i64 0, .slice none 0 0, .slice AK nK cK, .int .i64 0] 35) := ⟨_, rfl⟩
          have hly : Later wo wy := by rw [hwy]; exact Later.alloc _ _
          have hby : wy.heap[wo.heap.size]? = some (.cells #[.int .i64 5, .string ⟨#[]⟩, .bool false, .slice none 0 0, .int .i64 0, .slice none 0 0, .slice AK nK cK, .int .i64 0] 35 (0, 0)) := by rw [hwy]; exact heap_alloc_new wo _
          obtain ⟨A9, c9, W9, hrun, hrd, hlt9⟩ := last_run (hlp.later hly) rfl hby (by have := HIL.out; have := HBA.out; have := HBB.out; omega)
          obtain ⟨n9, hn9⟩ : ∃ n9, n9 = items.length + 1 := ⟨_, rfl⟩
          rw [← hn9] at hrun hrd
          have hn93 : n9 = n3 := by
            have e1 := HIL.out
            have e2 := HRV.out.1
            have e3 := congrArg List.length HV.out
            have e4 := HNA.out
            have e5 := HNB.out
            have e6 := HN2.out
            unfold Sx.joined at e3
            simp only [List.length_map, List.length_append, List.length_singleton] at e3
            omega
          subst hn93
          have hnodes : items.map (·.1) ++ [({ kind := 5, kids := LK } : Sx.Node)] = Sx.joined xs ys kA kB := by
            unfold Sx.joined
            rw [HIT.out, HLK.out, if_neg hjn, List.take_of_length_le (by rw [HNB.out]; have := HN2.out; omega), HNA.out]
          rw [hnodes] at hrd
          rw [hwy] at hrun
          have HRUN9 := Lib.hid hrun
          have HBOX := Lib.hid hlp.box
          have HRD9 := Lib.hid hrd
          have HLT9 := Lib.hid hlt9
          have d7 : W9.cell? ⟨w4.heap.size, 0, none⟩ = some (.slice A3 n9 c3) := cell_keeps hlt9 (cell_row T3.out 0).1
          clear hlp hit hLK hwy hly hby hrun hrd hlt9 hn9 hnodes
          go_wp2_with (first
            | (refine wpList_loadO rfl 35 (.tmp 18) rfl L #[.int .i64 5, .string ⟨#[]⟩, .bool false, .slice none 0 0, .int .i64 0, .slice none 0 0, .slice AK nK cK, .int .i64 0] _ rfl HBOX.out Tryz.underlying35 rfl size_node ?_)
            | (at_builtin; refine wpList_appX rfl (.tmp 161) (.tmp 163) 24 rfl _ _ rfl rfl (.slice A9 n9 c9) W9 HRUN9.out ?_)
            | (go_at_call 7; fail))
          (with_reducible refine (same_v A3 A9 n9 c3 c9 nsV (Sx.joined xs ys kA kB) W9 (HRV.out.later HLT9.out) HRD9.out HV.out.symm HN3.out).mono ?_)
          rintro e w9 ⟨rfl, hl9⟩
          have HL9 := Lib.hid ((HLW0.out.trans HLT9.out).trans hl9)
          clear hl9
          go_wp2
          go_ret
          exact ⟨rfl, HL9.out⟩

theorem walk (w : World) (hg : Sgn w) (t : ByteArray) (_ht : t.size ≤ maxLen) (u : ByteArray) (_hu : u.size ≤ maxLen) :
    Calls Tryz.prog 4 #[.string t, .string u] w fun e w' => e = .returned (.bool true) ∧ Below w.heap.size w w' := by
  obtain ⟨a, rfl⟩ : ∃ a, t = mkS a := ⟨_, (mkS_of t).symm⟩
  obtain ⟨b, rfl⟩ : ∃ b, u = mkS b := ⟨_, (mkS_of u).symm⟩
  by_cases h1 : (1000 : Int) < ((mkS a).size : Int)
  · exact walkX1 w hg a b h1
  by_cases h2 : (1000 : Int) < ((mkS b).size : Int)
  · exact walkX2 w hg a b h1 h2
  rcases List.eq_nil_or_concat a with rfl | ⟨m, c, rfl⟩
  · have ha : ∀ m : L, ([] : L) ≠ m ++ [92] := fun m e => by simp at e
    have al : (([] : L) ++ [10]).length ≤ 4096 := by rw [List.length_append, List.length_singleton]; rw [mkS_size] at h1; omega
    have bl : b.length ≤ 4096 := by rw [mkS_size] at h2; omega
    have vl : (([] : L) ++ 10 :: b).length ≤ 4096 := by rw [List.length_append, List.length_cons]; rw [mkS_size] at h1 h2; omega
    obtain ⟨q3, k3, ns3, g3⟩ := any_gives hg vl
    cases eA : Sx.tree (([] : L) ++ [10]) with
    | error x =>
      obtain ⟨k, l⟩ := x
      obtain ⟨q2, k2, ns2, g2⟩ := any_gives hg bl
      exact walkE0 w hg b h1 h2 _ _ _ _ _ _ _ _ _ (gives_err hg al eA) g2 g3 (.inl (err_nz eA))
    | ok nsA =>
      cases eB : Sx.tree b with
      | error x =>
        obtain ⟨k, l⟩ := x
        exact walkE0 w hg b h1 h2 _ _ _ _ _ _ _ _ _ (gives_ok hg al eA) (gives_err hg bl eB) g3 (.inr ⟨rfl, err_nz eB⟩)
      | ok nsB =>
        obtain ⟨xs, ys, kA, kB, lA, lB, nsV, rfl, rfl, e3, e4⟩ := trees ha eA eB
        exact walkM0 w hg b h1 h2 xs ys nsV kA kB lA lB eA eB e3 e4
  · rw [List.concat_eq_append] at h1 ⊢
    by_cases hc : c = 92
    · subst hc
      exact walkX3 w hg m b h1 h2
    · have ha : ∀ m' : L, m ++ [c] ≠ m' ++ [92] := fun m' e => hc (by
        have := congrArg List.getLast? e
        simpa using this)
      have al : ((m ++ [c]) ++ [10]).length ≤ 4096 := by rw [List.length_append, List.length_singleton]; rw [mkS_size] at h1; omega
      have bl : b.length ≤ 4096 := by rw [mkS_size] at h2; omega
      have vl : ((m ++ [c]) ++ 10 :: b).length ≤ 4096 := by rw [List.length_append, List.length_cons]; rw [mkS_size] at h1 h2; omega
      obtain ⟨q3, k3, ns3, g3⟩ := any_gives hg vl
      cases eA : Sx.tree ((m ++ [c]) ++ [10]) with
      | error x =>
        obtain ⟨k, l⟩ := x
        obtain ⟨q2, k2, ns2, g2⟩ := any_gives hg bl
        exact walkE1 w hg m c hc b h1 h2 _ _ _ _ _ _ _ _ _ (gives_err hg al eA) g2 g3 (.inl (err_nz eA))
      | ok nsA =>
        cases eB : Sx.tree b with
        | error x =>
          obtain ⟨k, l⟩ := x
          exact walkE1 w hg m c hc b h1 h2 _ _ _ _ _ _ _ _ _ (gives_ok hg al eA) (gives_err hg bl eB) g3 (.inr ⟨rfl, err_nz eB⟩)
        | ok nsB =>
          obtain ⟨xs, ys, kA, kB, lA, lB, nsV, rfl, rfl, e3, e4⟩ := trees ha eA eB
          exact walkM1 w hg m c hc b h1 h2 xs ys nsV kA kB lA lB eA eB e3 e4
end syntaxTwo
end Go.Proofs.YtipojbknkfkgoaaGreatDoor
