/- The walk of LexerJoins: whatever the two strings are, the call returns true. -/
import Derived.Test.YtnjabmacbgehlaaDoorLwA
import Derived.Test.YtnjabmacbgehlaaDoorLxQ
namespace Go.Proofs.YtnjabmacbgehlaaDoor
open Go.RowKit Go.Maps
open Lx (nl Tok)
theorem sgetk (l : List UInt8) (k : Nat) (hk : k < l.length) : ∀ h, (mkS l)[k]'h = l[k] := fun _ => rfl
theorem mkS_add3 (a c b : List UInt8) : mkS a ++ (⟨c.toArray⟩ : ByteArray) = mkS (a ++ c) := mkS_add a c
theorem str_self (l : List UInt8) : ((mkS l).toList == (mkS l).toList) = true := beq_self_eq_true _
theorem str_empty (l : List UInt8) (h : l ≠ []) : ((mkS l).toList == ([] : List UInt8)) = false := by rw [toList_mkS]; exact beq_eq_false_iff_ne.2 h
/-- A letter, a minus or an underscore: what the law admits. -/
def okJ (c : UInt8) : Bool := (decide (97 ≤ (c.toNat : Int)) && decide ((c.toNat : Int) ≤ 122)) || decide ((c.toNat : Int) = 45) || decide ((c.toNat : Int) = 95)
theorem okJ_good {c : UInt8} (h : okJ c = true) : Lx.good c = true := by
  have : ∀ n : _root_.Fin 256, okJ (UInt8.ofNat n.1) = true → Lx.good (UInt8.ofNat n.1) = true := by decide +kernel
  have := this ⟨c.toNat, c.toNat_lt⟩
  simpa using this (by simpa using h)
theorem good_plain {c : UInt8} (h : Lx.good c = true) : Lx.plain c = true := by
  unfold Lx.good at h
  rw [Bool.and_eq_true] at h
  exact h.1
theorem two_at {w : World} {B N : Nat} {e : TypeId} {v : Value} {ts : List Tok} {n : Nat} (h : w.ownsRow B e 4 v n (cellsT N ts)) (hn : n = ts.length) (h0 : 0 < n) : ∃ ad c, v = .slice (some ad) n c ∧ n ≤ c := by
  subst hn
  obtain ⟨ad, c, e1, h1, _⟩ := tok_at h (j := 0) h0
  exact ⟨ad, c, e1, h1⟩
namespace lexerJoins
set_option maxHeartbeats 1600000 in
set_option maxRecDepth 100000 in
theorem walkX (w : World) (hg : Sgn w) (a b : List UInt8) (h : (60 : Int) < ((mkS a).size : Int) ∨ ¬ (60 : Int) < ((mkS a).size : Int) ∧ ((60 : Int) < ((mkS b).size : Int) ∨ ¬ (60 : Int) < ((mkS b).size : Int) ∧ (((mkS a).toList == ([] : List UInt8)) = true ∨ ((mkS a).toList == ([] : List UInt8)) = false ∧ ((mkS b).toList == ([] : List UInt8)) = true))) :
    Calls Tryd.prog 7 #[.string (mkS a), .string (mkS b)] w fun e w' => e = .returned (.bool true) ∧ Below w.heap.size w w' := by
  have HA := Lib.hid (awake_v w hg)
  clear hg
  rcases h with h1 | ⟨h1, h2 | ⟨h2, h3 | ⟨h3, h4⟩⟩⟩
  all_goals
    go_enter Tryd.func7, Tryd.ntmps7
    go_wp2_with (go_at_call 9; (with_reducible refine HA.out.mono ?_); rintro e w1 ⟨rfl, hb1⟩; have HB1 := Lib.hid hb1; clear hb1)
    go_ret
    exact ⟨rfl, HB1.out⟩
set_option maxHeartbeats 3200000 in
set_option maxRecDepth 100000 in
theorem walkM (w : World) (hg : Sgn w) (a b : List UInt8) (h1 : ¬ (60 : Int) < ((mkS a).size : Int)) (h2 : ¬ (60 : Int) < ((mkS b).size : Int)) (h3 : a ≠ []) (h4 : b ≠ []) :
    Calls Tryd.prog 7 #[.string (mkS a), .string (mkS b)] w fun e w' => e = .returned (.bool true) ∧ Below w.heap.size w w' := by
  have HA := Lib.hid (awake_v w hg)
  have e3 := str_empty a h3
  have e4 := str_empty b h4
  have z1 := mkS_size a
  have z2 := mkS_size b
  have hla : a.length ≤ 60 := by omega
  have hlb : b.length ≤ 60 := by omega
  obtain ⟨s, hs⟩ : ∃ s, s = a ++ b := ⟨_, rfl⟩
  obtain ⟨n, hn⟩ : ∃ n, n = s.length := ⟨_, rfl⟩
  have hn2 : n ≤ 120 := by rw [hn, hs, List.length_append]; omega
  have had : mkS a ++ mkS b = mkS s := by rw [mkS_add, hs]
  have hz : (mkS s).size = n := by rw [mkS_size, hn]
  obtain ⟨p, hp⟩ : ∃ p, p = a ++ 92 :: 10 :: b := ⟨_, rfl⟩
  obtain ⟨q, hq⟩ : ∃ q, q = a ++ 32 :: 92 :: 10 :: 32 :: b := ⟨_, rfl⟩
  obtain ⟨p1, hp1⟩ : ∃ p1, p1 = mkS (a ++ [92, 10]) := ⟨_, rfl⟩
  obtain ⟨q1, hq1⟩ : ∃ q1, q1 = mkS (a ++ [32, 92, 10, 32]) := ⟨_, rfl⟩
  have ap1 : mkS a ++ (⟨#[92, 10]⟩ : ByteArray) = p1 := by rw [hp1]; exact mkS_add a [92, 10]
  have ap2 : p1 ++ mkS b = mkS p := by rw [hp1, mkS_add, hp]; simp
  have aq1 : mkS a ++ (⟨#[32, 92, 10, 32]⟩ : ByteArray) = q1 := by rw [hq1]; exact mkS_add a [32, 92, 10, 32]
  have aq2 : q1 ++ mkS b = mkS q := by rw [hq1, mkS_add, hq]; simp
  have zp1 : p1.size ≤ 70 := by rw [hp1, mkS_size]; simp; omega
  have zq1 : q1.size ≤ 70 := by rw [hq1, mkS_size]; simp; omega
  have HAL := Lib.hid (show (∀ c ∈ s, okJ c = true) → ∀ W, Later w W → (Calls Tryd.prog 16 #[.string (mkS p)] W fun e W' => (∃ vt, e = .returned (.tuple #[vt, .int .i64 0, .int .i64 0]) ∧ W'.ownsRow W.heap.size 33 4 vt 2 (cellsT 1 [⟨1, s, [], 1⟩, ⟨4, [], [], 0⟩])) ∧ Later W W') ∧ (Calls Tryd.prog 16 #[.string (mkS q)] W fun e W' => (∃ vt, e = .returned (.tuple #[vt, .int .i64 0, .int .i64 0]) ∧ W'.ownsRow W.heap.size 33 4 vt 3 (cellsT 1 [⟨1, a, [], 1⟩, ⟨1, b, [], 0⟩, ⟨4, [], [], 0⟩])) ∧ Later W W') from by
    intro hok W hW
    have hgd : ∀ c ∈ a ++ b, Lx.good c = true := fun c hc => okJ_good (hok c (by rw [hs]; exact hc))
    have hpa : ∀ c ∈ a, Lx.plain c = true := fun c hc => good_plain (hgd c (by simp [hc]))
    have hpb : ∀ c ∈ b, Lx.plain c = true := fun c hc => good_plain (hgd c (by simp [hc]))
    have hnb : nl b = 0 := by have := Lx.nl_plain b hpb []; rw [List.append_nil] at this; exact this
    have hnp : nl p = 1 := by rw [hp, Lx.nl_plain a hpa]; simp [nl, hnb]
    have hnq : nl q = 1 := by rw [hq, Lx.nl_plain a hpa]; simp [nl, hnb]
    have k1 := all_v p (by rw [hp]; simp; omega) W (hg.later hW)
    have k2 := all_v q (by rw [hq]; simp; omega) W (hg.later hW)
    have m1 := Lx.all_join a b h3 hgd
    have m2 := Lx.all_apart a b h3 h4 hgd
    rw [← hp, ← hs] at m1
    rw [← hq] at m2
    rw [m1] at k1
    rw [m2] at k2
    unfold AllC at k1 k2
    rw [hnp] at k1
    rw [hnq] at k2
    exact ⟨k1, k2⟩)
  have HN := Lib.hid hn
  have hsf := str_self s
  have haf := str_self a
  have hbf := str_self b
  clear hg z1 z2 hla hlb hs hp hq hp1 hq1 hn h3 h4
  go_enter Tryd.func7, Tryd.ntmps7
  go_wp2_with (go_at_call 9; (with_reducible refine HA.out.mono ?_); rintro e w1 ⟨rfl, hb1⟩; have HB1 := Lib.hid hb1; clear hb1)
  go_loopw [6] (fun i wr => ∃ k : Nat, k ≤ n ∧ i = .int .i64 (k : Int) ∧ wr = w1 ∧ ∀ c ∈ s.take k, okJ c = true) (fun i _ => n - (intOf i).toNat)
  case atStart => exact ⟨0, by omega, rfl, rfl, by simp⟩
  case round =>
    obtain ⟨k, hk, rfl, hw, hok⟩ := hrel
    subst hw
    have HOK := Lib.hid hok
    clear hok
    by_cases hkn : k < n
    · have hkl : k < s.length := by rw [← HN.out]; exact hkn
      obtain ⟨x, hx⟩ : ∃ x, x = s[k] := ⟨_, rfl⟩
      have hgx : ∀ h, (mkS s)[k]'h = x := by rw [hx]; exact sgetk s k hkl
      have hk0 : (0 : Int) ≤ (k : Int) := by omega
      have hk1 : (k : Int) < ((mkS s).size : Int) := by omega
      have HNX := Lib.hid (show okJ x = true → ∀ c ∈ s.take (k + 1), okJ c = true from fun h c hc => by
        rw [List.take_succ_eq_append_getElem hkl, List.mem_append] at hc
        rcases hc with hc | hc
        · exact HOK.out c hc
        · rw [List.mem_singleton] at hc; rw [hc, ← hx]; exact h)
      have HOX := Lib.hid (show okJ x = ((decide (97 ≤ (x.toNat : Int)) && decide ((x.toNat : Int) ≤ 122)) || decide ((x.toNat : Int) = 45) || decide ((x.toNat : Int) = 95)) from rfl)
      obtain ⟨y, hy⟩ : ∃ y : Nat, x.toNat = y := ⟨_, rfl⟩
      rw [hy] at HOX
      clear hx hkl
      by_cases f1 : (y : Int) < 97
      · by_cases f2 : (y : Int) = 45
        · have f3 : ((y : Int) == 45) = true := by rw [f2]; rfl
          have f6 : ((y : Int) != 45) = false := by rw [f2]; rfl
          go_wp2
          go_roundw
          case rel => exact ⟨k + 1, by omega, by go_num, by first | rfl | trivial, HNX.out (by rw [HOX.out, f2]; rfl)⟩
          case measure => simp [intOf]; omega
        · have f3 : ((y : Int) == 45) = false := by simpa using f2
          have f6 : ((y : Int) != 45) = true := by simpa using f2
          by_cases f4 : (y : Int) = 95
          · have f5 : ((y : Int) == 95) = true := by rw [f4]; rfl
            have f7 : ((y : Int) != 95) = false := by rw [f4]; rfl
            go_wp2
            go_roundw
            case rel => exact ⟨k + 1, by omega, by go_num, by first | rfl | trivial, HNX.out (by rw [HOX.out, f4]; rfl)⟩
            case measure => simp [intOf]; omega
          · have f5 : ((y : Int) == 95) = false := by simpa using f4
            have f7 : ((y : Int) != 95) = true := by simpa using f4
            go_wp2
            go_ret
            exact ⟨rfl, HB1.out⟩
      · by_cases f2 : (122 : Int) < (y : Int)
        · have f3 : ((y : Int) == 45) = false := by simp; omega
          have f5 : ((y : Int) == 95) = false := by simp; omega
          have f6 : ((y : Int) != 45) = true := by simp; omega
          have f7 : ((y : Int) != 95) = true := by simp; omega
          go_wp2
          go_ret
          exact ⟨rfl, HB1.out⟩
        · go_wp2
          go_roundw
          case rel => exact ⟨k + 1, by omega, by go_num, by first | rfl | trivial, HNX.out (by rw [HOX.out, decide_eq_true (show (97 : Int) ≤ (y : Int) by omega), decide_eq_true (show (y : Int) ≤ 122 by omega)]; rfl)⟩
          case measure => simp [intOf]; omega
    · have hke : ¬ (k : Int) < ((mkS s).size : Int) := by omega
      have HC := Lib.hid (HAL.out (fun c hc => HOK.out c (by rw [List.take_of_length_le (by rw [← HN.out]; omega)]; exact hc)))
      have hwr := HB1.out
      go_wp2_with (first
        | (go_at_call 16; first
          | ((with_reducible refine (HC.out _ HB1.out).1.mono ?_); rintro e w2 ⟨⟨vt, rfl, ho⟩, hl2⟩; obtain ⟨ad, c, hv2, hc2⟩ := two_at ho rfl (Nat.succ_pos _); subst hv2; have HO2 := Lib.hid ho; have HL2 := Lib.hid (HB1.out.trans hl2); clear ho hl2)
          | ((with_reducible refine (HC.out _ HL2.out).2.mono ?_); rintro e w3 ⟨⟨vt, rfl, ho⟩, hl3⟩; obtain ⟨ad2, c3, hv3, hc3⟩ := two_at ho rfl (Nat.succ_pos _); subst hv3; have ho2 := own_below HO2.out hl3; have hat := toks_at (ts := [⟨1, s, [], 1⟩, ⟨4, [], [], 0⟩]) ho2; have hbt := toks_at (ts := [⟨1, a, [], 1⟩, ⟨1, b, [], 0⟩, ⟨4, [], [], 0⟩]) ho; have x1 : w3.cell? ⟨ad.block, ad.off + 1, none⟩ = some (.string (mkS s)) := (hat 0 (by simp)).c1; have x3 : w3.cell? ⟨ad.block, ad.off + 3, none⟩ = some (.int .i64 1) := (hat 0 (by simp)).c3; have y3 : w3.cell? ⟨ad.block, ad.off + 4 + 3, none⟩ = some (.int .i64 2) := (hat 1 (by simp)).c3; have u1 : w3.cell? ⟨ad2.block, ad2.off + 1, none⟩ = some (.string (mkS a)) := (hbt 0 (by simp)).c1; have v1 : w3.cell? ⟨ad2.block, ad2.off + 4 + 1, none⟩ = some (.string (mkS b)) := (hbt 1 (by simp)).c1; have v3 : w3.cell? ⟨ad2.block, ad2.off + 4 + 3, none⟩ = some (.int .i64 2) := (hbt 1 (by simp)).c3; have HL3 := Lib.hid (HL2.out.trans hl3); clear ho ho2 hat hbt hl3)))
      go_ret
      exact ⟨rfl, HL3.out⟩
theorem walk (w : World) (hg : Sgn w) (s : ByteArray) (hs : s.size ≤ maxLen) (t : ByteArray) (ht : t.size ≤ maxLen) :
    Calls Tryd.prog 7 #[.string s, .string t] w fun e w' => e = .returned (.bool true) ∧ Below w.heap.size w w' := by
  obtain ⟨a, rfl⟩ : ∃ a, s = mkS a := ⟨_, (mkS_of s).symm⟩
  obtain ⟨b, rfl⟩ : ∃ b, t = mkS b := ⟨_, (mkS_of t).symm⟩
  by_cases h1 : (60 : Int) < ((mkS a).size : Int)
  · exact walkX w hg a b (.inl h1)
  by_cases h2 : (60 : Int) < ((mkS b).size : Int)
  · exact walkX w hg a b (.inr ⟨h1, .inl h2⟩)
  by_cases h3 : a = []
  · exact walkX w hg a b (.inr ⟨h1, .inr ⟨h2, .inl (by rw [h3, toList_mkS]; rfl)⟩⟩)
  by_cases h4 : b = []
  · exact walkX w hg a b (.inr ⟨h1, .inr ⟨h2, .inr ⟨str_empty a h3, by rw [h4, toList_mkS]; rfl⟩⟩⟩)
  exact walkM w hg a b h1 h2 h3 h4
end lexerJoins
end Go.Proofs.YtnjabmacbgehlaaDoor
