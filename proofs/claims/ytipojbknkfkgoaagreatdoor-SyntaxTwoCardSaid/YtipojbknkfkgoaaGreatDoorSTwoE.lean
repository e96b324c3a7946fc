/- The walk of SyntaxTwo. -/
import Derived.Test.YtipojbknkfkgoaaGreatDoorTwoG
import Derived.Test.YtipojbknkfkgoaaGreatDoorTwoH
namespace Go.Proofs.YtipojbknkfkgoaaGreatDoor
open Go.RowKit Go.Maps
open Lx (nl Tok)
open Pz
namespace syntaxTwo
theorem minus {z1 z : Nat} (h : z1 = z + 1) (hz : z ≤ 100000) : wrap64 ((z1 : Int) - 1) = (z : Int) ∧ IntKind.i64.wrap ((z1 : Int) - 1) = (z : Int) := by
  subst h
  refine ⟨?_, ?_⟩
  · unfold wrap64; omega
  · rw [IntKind.wrap_i64]; omega
theorem plus {x y z : Nat} (h : z = x + y) (hz : z ≤ 1000000) : wrap64 ((x : Int) + (y : Int)) = (z : Int) ∧ IntKind.i64.wrap ((x : Int) + (y : Int)) = (z : Int) := by
  subst h
  refine ⟨?_, ?_⟩
  · unfold wrap64; omega
  · rw [IntKind.wrap_i64]; omega
theorem plus1 {x z : Nat} (h : z = x + 1) (hz : z ≤ 1000000) : wrap64 ((x : Int) + 1) = (z : Int) ∧ IntKind.i64.wrap ((x : Int) + 1) = (z : Int) := by
  subst h
  refine ⟨?_, ?_⟩
  · unfold wrap64; omega
  · rw [IntKind.wrap_i64]; omega

set_option maxHeartbeats 1600000 in
set_option maxRecDepth 100000 in
theorem walkX1 (w : World) (hg : Sgn w) (a b : L) (h1 : (1000 : Int) < ((mkS a).size : Int)) :
    Calls Tryz.prog 4 #[.string (mkS a), .string (mkS b)] w fun e w' => e = .returned (.bool true) ∧ Below w.heap.size w w' := by
  have HA := Lib.hid (awake_v w hg)
  clear hg
  go_enter Tryz.func4, Tryz.ntmps4
  go_wp2_with (go_at_call 5; (with_reducible refine HA.out.mono ?_); rintro e w1 ⟨rfl, hb1⟩; have HB1 := Lib.hid hb1; clear hb1)
  go_ret
  exact ⟨rfl, HB1.out⟩

set_option maxHeartbeats 1600000 in
set_option maxRecDepth 100000 in
theorem walkX2 (w : World) (hg : Sgn w) (a b : L) (h1 : ¬ (1000 : Int) < ((mkS a).size : Int)) (h2 : (1000 : Int) < ((mkS b).size : Int)) :
    Calls Tryz.prog 4 #[.string (mkS a), .string (mkS b)] w fun e w' => e = .returned (.bool true) ∧ Below w.heap.size w w' := by
  have HA := Lib.hid (awake_v w hg)
  clear hg
  go_enter Tryz.func4, Tryz.ntmps4
  go_wp2_with (go_at_call 5; (with_reducible refine HA.out.mono ?_); rintro e w1 ⟨rfl, hb1⟩; have HB1 := Lib.hid hb1; clear hb1)
  go_ret
  exact ⟨rfl, HB1.out⟩

set_option maxHeartbeats 1600000 in
set_option maxRecDepth 100000 in
theorem walkX3 (w : World) (hg : Sgn w) (m b : L) (h1 : ¬ (1000 : Int) < ((mkS (m ++ [92])).size : Int)) (h2 : ¬ (1000 : Int) < ((mkS b).size : Int)) :
    Calls Tryz.prog 4 #[.string (mkS (m ++ [92])), .string (mkS b)] w fun e w' => e = .returned (.bool true) ∧ Below w.heap.size w w' := by
  have HA := Lib.hid (awake_v w hg)
  obtain ⟨S, hS⟩ : ∃ S, S = mkS (m ++ [92]) := ⟨_, rfl⟩
  obtain ⟨z, hz⟩ : ∃ z, z = m.length := ⟨_, rfl⟩
  obtain ⟨z1, hz1⟩ : ∃ z1, z1 = z + 1 := ⟨_, rfl⟩
  have hsz : S.size = z1 := by rw [hS, mkS_size, List.length_append]; simp; omega
  have hgx : ∀ h, S[z]'h = 92 := by
    subst hS
    subst hz
    have e : (m ++ [92])[m.length]'(by simp) = 92 := by simp
    exact fun h => (sgetk (m ++ [92]) m.length (by simp) h).trans e
  have i0 : (0 : Int) < (z1 : Int) := by omega
  have i1 : (0 : Int) ≤ (z : Int) := by omega
  have i2 : (z : Int) < (z1 : Int) := by omega
  rw [← hS, hsz] at h1
  rw [← hS]
  obtain ⟨va, vb⟩ := minus hz1 (by omega)
  clear hg hS hz hz1
  go_enter Tryz.func4, Tryz.ntmps4
  go_wp2_with (go_at_call 5; (with_reducible refine HA.out.mono ?_); rintro e w1 ⟨rfl, hb1⟩; have HB1 := Lib.hid hb1; clear hb1)
  go_ret
  exact ⟨rfl, HB1.out⟩

set_option maxHeartbeats 3200000 in
set_option maxRecDepth 100000 in
/-- One of both scripts is refused. -/
theorem walkE0 (w : World) (hg : Sgn w) (b : L) (h1 : ¬ (1000 : Int) < ((mkS ([] : L)).size : Int)) (h2 : ¬ (1000 : Int) < ((mkS b).size : Int)) (q1 q2 q3 k1 k2 k3 : Nat) (ns1 ns2 ns3 : List Sx.Node)
    (g1 : Gives w (([] : L) ++ [10]) q1 k1 ns1) (g2 : Gives w b q2 k2 ns2) (g3 : Gives w (([] : L) ++ 10 :: b) q3 k3 ns3) (hk : k1 ≠ 0 ∨ (k1 = 0 ∧ k2 ≠ 0)) :
    Calls Tryz.prog 4 #[.string (mkS ([] : L)), .string (mkS b)] w fun e w' => e = .returned (.bool true) ∧ Below w.heap.size w w' := by
  have HA := Lib.hid (awake_v w hg)
  have HG := Lib.hid hg
  obtain ⟨S0, hS0⟩ : ∃ S, S = mkS ([] : L) := ⟨_, rfl⟩
  obtain ⟨SB, hSB⟩ : ∃ S, S = mkS b := ⟨_, rfl⟩
  obtain ⟨S1, hS1⟩ : ∃ S, S = mkS (([] : L) ++ [10]) := ⟨_, rfl⟩
  obtain ⟨S3, hS3⟩ : ∃ S, S = mkS (([] : L) ++ 10 :: b) := ⟨_, rfl⟩
  have al : (([] : L)).length ≤ 1000 := by rw [mkS_size] at h1; omega
  have bl : b.length ≤ 1000 := by rw [mkS_size] at h2; omega
  have a1 : S0 ++ (⟨#[10]⟩ : ByteArray) = S1 := by rw [hS0, hS1]; exact mkS_add _ [10]
  have a2 : S1 ++ SB = S3 := by rw [hS1, hSB, hS3, mkS_add]; simp
  have zz1 : S1.size ≤ 1001 := by rw [hS1, mkS_size, List.length_append, List.length_singleton]; omega
  have zz2 : SB.size ≤ 1000 := by rw [hSB, mkS_size]; omega
  have zz0 : S0.size ≤ 1000 := by rw [hS0, mkS_size]; omega
  have hsz : S0.size = 0 := by rw [hS0]; rfl
  have P1 := Lib.hid (show ∀ W, Later w W → Calls Tryz.prog 6 #[.string S1] W fun e W' => ∃ A c ln, e = .returned (.tuple #[.agg #[.slice A q1 c], .int .i64 (k1 : Int), .int .i64 ln]) ∧ Later W W' from fun W hW => by rw [hS1]; exact (g1 W hW).mono fun e W' ⟨A, c, ln, h1, _, _, h4⟩ => ⟨A, c, ln, h1, h4⟩)
  have P2 := Lib.hid (show ∀ W, Later w W → Calls Tryz.prog 6 #[.string SB] W fun e W' => ∃ A c ln, e = .returned (.tuple #[.agg #[.slice A q2 c], .int .i64 (k2 : Int), .int .i64 ln]) ∧ Later W W' from fun W hW => by rw [hSB]; exact (g2 W hW).mono fun e W' ⟨A, c, ln, h1, _, _, h4⟩ => ⟨A, c, ln, h1, h4⟩)
  have P3 := Lib.hid (show ∀ W, Later w W → Calls Tryz.prog 6 #[.string S3] W fun e W' => ∃ A c ln, e = .returned (.tuple #[.agg #[.slice A q3 c], .int .i64 (k3 : Int), .int .i64 ln]) ∧ Later W W' from fun W hW => by rw [hS3]; exact (g3 W hW).mono fun e W' ⟨A, c, ln, h1, _, _, h4⟩ => ⟨A, c, ln, h1, h4⟩)
  rw [← hS0] at h1 ⊢
  rw [← hSB] at h2 ⊢
  clear hg hS0 hSB hS1 hS3 g1 g2 g3 al bl
  rcases hk with hk | ⟨hk, hk2⟩
  · have e0 : ((k1 : Int) != 0) = true := by rw [bne_iff_ne]; omega
    clear hk
    go_enter Tryz.func4, Tryz.ntmps4
    go_wp2_with (first
      | (go_at_call 5; (with_reducible refine HA.out.mono ?_); rintro e w1 ⟨rfl, hb1⟩; have HB1 := Lib.hid hb1; clear hb1)
      | (go_at_call 6; (with_reducible refine (P1.out _ HB1.out).mono ?_); rintro e w2 ⟨A, c, ln, rfl, hl⟩; have HL2 := Lib.hid (HB1.out.trans (hl.trans (Later.alloc _ (.cells #[.slice A q1 c] 26)))); clear hl))
    · (with_reducible refine (P2.out _ HL2.out).mono ?_)
      rintro e w3 ⟨A2, c2, ln2, rfl, hl⟩
      have HL3 := Lib.hid (HL2.out.trans (hl.trans (Later.alloc _ (.cells #[.slice A2 q2 c2] 26))))
      clear hl
      go_wp2_with (go_at_call 6; fail)
      (with_reducible refine (P3.out _ HL3.out).mono ?_)
      rintro e w4 ⟨A3, c3, ln3, rfl, hl⟩
      have HL4 := Lib.hid (HL3.out.trans (hl.trans (Later.alloc _ (.cells #[.slice A3 q3 c3] 26))))
      clear hl
      go_wp2
      go_ret
      exact ⟨rfl, HL4.out⟩
  · subst hk
    have e0 : ((k2 : Int) != 0) = true := by rw [bne_iff_ne]; omega
    clear hk2
    go_enter Tryz.func4, Tryz.ntmps4
    go_wp2_with (first
      | (go_at_call 5; (with_reducible refine HA.out.mono ?_); rintro e w1 ⟨rfl, hb1⟩; have HB1 := Lib.hid hb1; clear hb1)
      | (go_at_call 6; (with_reducible refine (P1.out _ HB1.out).mono ?_); rintro e w2 ⟨A, c, ln, rfl, hl⟩; have HL2 := Lib.hid (HB1.out.trans (hl.trans (Later.alloc _ (.cells #[.slice A q1 c] 26)))); clear hl))
    · (with_reducible refine (P2.out _ HL2.out).mono ?_)
      rintro e w3 ⟨A2, c2, ln2, rfl, hl⟩
      have HL3 := Lib.hid (HL2.out.trans (hl.trans (Later.alloc _ (.cells #[.slice A2 q2 c2] 26))))
      clear hl
      go_wp2_with (go_at_call 6; fail)
      (with_reducible refine (P3.out _ HL3.out).mono ?_)
      rintro e w4 ⟨A3, c3, ln3, rfl, hl⟩
      have HL4 := Lib.hid (HL3.out.trans (hl.trans (Later.alloc _ (.cells #[.slice A3 q3 c3] 26))))
      clear hl
      go_wp2
      go_ret
      exact ⟨rfl, HL4.out⟩

set_option maxHeartbeats 3200000 in
set_option maxRecDepth 100000 in
/-- One of both scripts is refused. -/
theorem walkE1 (w : World) (hg : Sgn w) (m : L) (ch : UInt8) (hc : ch ≠ 92) (b : L) (h1 : ¬ (1000 : Int) < ((mkS (m ++ [ch])).size : Int)) (h2 : ¬ (1000 : Int) < ((mkS b).size : Int)) (q1 q2 q3 k1 k2 k3 : Nat) (ns1 ns2 ns3 : List Sx.Node)
    (g1 : Gives w ((m ++ [ch]) ++ [10]) q1 k1 ns1) (g2 : Gives w b q2 k2 ns2) (g3 : Gives w ((m ++ [ch]) ++ 10 :: b) q3 k3 ns3) (hk : k1 ≠ 0 ∨ (k1 = 0 ∧ k2 ≠ 0)) :
    Calls Tryz.prog 4 #[.string (mkS (m ++ [ch])), .string (mkS b)] w fun e w' => e = .returned (.bool true) ∧ Below w.heap.size w w' := by
  have HA := Lib.hid (awake_v w hg)
  have HG := Lib.hid hg
  obtain ⟨S0, hS0⟩ : ∃ S, S = mkS (m ++ [ch]) := ⟨_, rfl⟩
  obtain ⟨SB, hSB⟩ : ∃ S, S = mkS b := ⟨_, rfl⟩
  obtain ⟨S1, hS1⟩ : ∃ S, S = mkS ((m ++ [ch]) ++ [10]) := ⟨_, rfl⟩
  obtain ⟨S3, hS3⟩ : ∃ S, S = mkS ((m ++ [ch]) ++ 10 :: b) := ⟨_, rfl⟩
  have al : ((m ++ [ch])).length ≤ 1000 := by rw [mkS_size] at h1; omega
  have bl : b.length ≤ 1000 := by rw [mkS_size] at h2; omega
  have a1 : S0 ++ (⟨#[10]⟩ : ByteArray) = S1 := by rw [hS0, hS1]; exact mkS_add _ [10]
  have a2 : S1 ++ SB = S3 := by rw [hS1, hSB, hS3, mkS_add]; simp
  have zz1 : S1.size ≤ 1001 := by rw [hS1, mkS_size, List.length_append, List.length_singleton]; omega
  have zz2 : SB.size ≤ 1000 := by rw [hSB, mkS_size]; omega
  have zz0 : S0.size ≤ 1000 := by rw [hS0, mkS_size]; omega
  obtain ⟨z, hz⟩ : ∃ z, z = m.length := ⟨_, rfl⟩
  obtain ⟨z1, hz1⟩ : ∃ z1, z1 = z + 1 := ⟨_, rfl⟩
  have hsz : S0.size = z1 := by rw [hS0, mkS_size, List.length_append]; simp; omega
  have hgx : ∀ h, S0[z]'h = ch := by
    subst hS0
    subst hz
    have e : (m ++ [ch])[m.length]'(by simp) = ch := by simp
    exact fun h => (sgetk (m ++ [ch]) m.length (by simp) h).trans e
  have hcq : ((ch.toNat : Int) == 92) = false := by
    rw [beq_eq_false_iff_ne]
    intro e
    exact hc (UInt8.toNat_inj.1 (by have : (92 : UInt8).toNat = 92 := rfl; omega))
  have i0 : (0 : Int) < (z1 : Int) := by omega
  have i1 : (0 : Int) ≤ (z : Int) := by omega
  have i2 : (z : Int) < (z1 : Int) := by omega
  have hz1000 : z1 ≤ 1000 := by
    have h1' := h1
    rw [← hS0, hsz] at h1'
    omega
  have HVZ := Lib.hid (minus hz1 (by omega))
  have P1 := Lib.hid (show ∀ W, Later w W → Calls Tryz.prog 6 #[.string S1] W fun e W' => ∃ A c ln, e = .returned (.tuple #[.agg #[.slice A q1 c], .int .i64 (k1 : Int), .int .i64 ln]) ∧ Later W W' from fun W hW => by rw [hS1]; exact (g1 W hW).mono fun e W' ⟨A, c, ln, h1, _, _, h4⟩ => ⟨A, c, ln, h1, h4⟩)
  have P2 := Lib.hid (show ∀ W, Later w W → Calls Tryz.prog 6 #[.string SB] W fun e W' => ∃ A c ln, e = .returned (.tuple #[.agg #[.slice A q2 c], .int .i64 (k2 : Int), .int .i64 ln]) ∧ Later W W' from fun W hW => by rw [hSB]; exact (g2 W hW).mono fun e W' ⟨A, c, ln, h1, _, _, h4⟩ => ⟨A, c, ln, h1, h4⟩)
  have P3 := Lib.hid (show ∀ W, Later w W → Calls Tryz.prog 6 #[.string S3] W fun e W' => ∃ A c ln, e = .returned (.tuple #[.agg #[.slice A q3 c], .int .i64 (k3 : Int), .int .i64 ln]) ∧ Later W W' from fun W hW => by rw [hS3]; exact (g3 W hW).mono fun e W' ⟨A, c, ln, h1, _, _, h4⟩ => ⟨A, c, ln, h1, h4⟩)
  rw [← hS0] at h1 ⊢
  rw [← hSB] at h2 ⊢
  clear hg hS0 hSB hS1 hS3 g1 g2 g3 al bl hz hz1 hc
  obtain ⟨va, vb⟩ := HVZ.out
  rcases hk with hk | ⟨hk, hk2⟩
  · have e0 : ((k1 : Int) != 0) = true := by rw [bne_iff_ne]; omega
    clear hk
    go_enter Tryz.func4, Tryz.ntmps4
    go_wp2_with (first
      | (go_at_call 5; (with_reducible refine HA.out.mono ?_); rintro e w1 ⟨rfl, hb1⟩; have HB1 := Lib.hid hb1; clear hb1)
      | (go_at_call 6; (with_reducible refine (P1.out _ HB1.out).mono ?_); rintro e w2 ⟨A, c, ln, rfl, hl⟩; have HL2 := Lib.hid (HB1.out.trans (hl.trans (Later.alloc _ (.cells #[.slice A q1 c] 26)))); clear hl))
    · (with_reducible refine (P2.out _ HL2.out).mono ?_)
      rintro e w3 ⟨A2, c2, ln2, rfl, hl⟩
      have HL3 := Lib.hid (HL2.out.trans (hl.trans (Later.alloc _ (.cells #[.slice A2 q2 c2] 26))))
      clear hl
      go_wp2_with (go_at_call 6; fail)
      (with_reducible refine (P3.out _ HL3.out).mono ?_)
      rintro e w4 ⟨A3, c3, ln3, rfl, hl⟩
      have HL4 := Lib.hid (HL3.out.trans (hl.trans (Later.alloc _ (.cells #[.slice A3 q3 c3] 26))))
      clear hl
      go_wp2
      go_ret
      exact ⟨rfl, HL4.out⟩
  · subst hk
    have e0 : ((k2 : Int) != 0) = true := by rw [bne_iff_ne]; omega
    clear hk2
    go_enter Tryz.func4, Tryz.ntmps4
    go_wp2_with (first
      | (go_at_call 5; (with_reducible refine HA.out.mono ?_); rintro e w1 ⟨rfl, hb1⟩; have HB1 := Lib.hid hb1; clear hb1)
      | (go_at_call 6; (with_reducible refine (P1.out _ HB1.out).mono ?_); rintro e w2 ⟨A, c, ln, rfl, hl⟩; have HL2 := Lib.hid (HB1.out.trans (hl.trans (Later.alloc _ (.cells #[.slice A q1 c] 26)))); clear hl))
    · (with_reducible refine (P2.out _ HL2.out).mono ?_)
      rintro e w3 ⟨A2, c2, ln2, rfl, hl⟩
      have HL3 := Lib.hid (HL2.out.trans (hl.trans (Later.alloc _ (.cells #[.slice A2 q2 c2] 26))))
      clear hl
      go_wp2_with (go_at_call 6; fail)
      (with_reducible refine (P3.out _ HL3.out).mono ?_)
      rintro e w4 ⟨A3, c3, ln3, rfl, hl⟩
      have HL4 := Lib.hid (HL3.out.trans (hl.trans (Later.alloc _ (.cells #[.slice A3 q3 c3] 26))))
      clear hl
      go_wp2
      go_ret
      exact ⟨rfl, HL4.out⟩
end syntaxTwo
end Go.Proofs.YtipojbknkfkgoaaGreatDoor
