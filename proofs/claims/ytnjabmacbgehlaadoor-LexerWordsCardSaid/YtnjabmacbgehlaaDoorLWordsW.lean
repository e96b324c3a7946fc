/- The walk of LexerWords: whatever the word is, the call returns true. -/
import Derived.Test.YtnjabmacbgehlaaDoorLwS
namespace Go.Proofs.YtnjabmacbgehlaaDoor
open Go.RowKit Go.Maps
namespace lexerWords
set_option maxHeartbeats 1600000 in
set_option maxRecDepth 100000 in
theorem walkX (w : World) (hg : Sgn w) (s : List UInt8) (h : (1000 : Int) < ((mkS s).size : Int)) :
    Calls Tryd.prog 3 #[.string (mkS s)] w fun e w' => e = .returned (.bool true) ∧ Below w.heap.size w w' := by
  have HA := Lib.hid (awake_v w hg)
  clear hg
  go_enter Tryd.func3, Tryd.ntmps3
  go_wp2_with (go_at_call 9; (with_reducible refine HA.out.mono ?_); rintro e w1 ⟨rfl, hb1⟩; have HB1 := Lib.hid hb1; clear hb1)
  go_ret
  exact ⟨rfl, HB1.out⟩
set_option maxHeartbeats 3200000 in
set_option maxRecDepth 100000 in
theorem walkM (w : World) (hg : Sgn w) (s : List UInt8) (h : ¬ (1000 : Int) < ((mkS s).size : Int)) :
    Calls Tryd.prog 3 #[.string (mkS s)] w fun e w' => e = .returned (.bool true) ∧ Below w.heap.size w w' := by
  have HA := Lib.hid (awake_v w hg)
  have hz := mkS_size s
  have c1 := fun W => bare_v s (by omega) W
  have c2 := fun W => refBare_v s (by omega) W
  have c3 := fun W => sets_v s (by omega) W
  have c4 := fun W => refSets_v s (by omega) W
  have c5 := fun W => name_v s (by omega) W
  have c6 := fun W => refName_v s (by omega) W
  obtain ⟨bl, hbl⟩ : ∃ x, x = mkS (Lx.bare s) := ⟨_, rfl⟩
  obtain ⟨bb, hbb⟩ : ∃ x, x = decide ((Lx.bare s).length < s.length) := ⟨_, rfl⟩
  obtain ⟨s1, hs1⟩ : ∃ x, x = mkS (setsM s).1 := ⟨_, rfl⟩
  obtain ⟨s2, hs2⟩ : ∃ x, x = mkS (setsM s).2.1 := ⟨_, rfl⟩
  obtain ⟨s3, hs3⟩ : ∃ x, x = (setsM s).2.2 := ⟨_, rfl⟩
  obtain ⟨nm, hnm⟩ : ∃ x, x = nameB s := ⟨_, rfl⟩
  simp only [← hbl, ← hbb] at c1 c2
  simp only [← hs1, ← hs2, ← hs3] at c3 c4
  simp only [← hnm] at c5 c6
  have C1 := Lib.hid c1
  have C2 := Lib.hid c2
  have C3 := Lib.hid c3
  have C4 := Lib.hid c4
  have C5 := Lib.hid c5
  have C6 := Lib.hid c6
  clear hg hz c1 c2 c3 c4 c5 c6 hbl hbb hs1 hs2 hs3 hnm
  go_enter Tryd.func3, Tryd.ntmps3
  go_wp2_with (first
    | (go_at_call 9; (with_reducible refine HA.out.mono ?_); rintro e w1 ⟨rfl, hb1⟩; have HB1 := Lib.hid hb1; clear hb1)
    | (go_at_call 10; (with_reducible refine (C1.out _).mono ?_); rintro e w2 ⟨rfl, hl2⟩; have HL2 := Lib.hid (Later.trans HB1.out hl2); clear hl2)
    | (go_at_call 11; (with_reducible refine (C2.out _).mono ?_); rintro e w3 ⟨rfl, rfl⟩)
    | (go_at_call 12; (with_reducible refine (C3.out _).mono ?_); rintro e w4 ⟨rfl, hl4⟩; have HL4 := Lib.hid (Later.trans HL2.out hl4); clear hl4)
    | (go_at_call 13; (with_reducible refine (C4.out _).mono ?_); rintro e w5 ⟨rfl, m5, rfl⟩; have HL5 := Lib.hid (Later.trans HL4.out (Below.drewN _ _ m5)))
    | (go_at_call 14; (with_reducible refine (C5.out _).mono ?_); rintro e w6 ⟨rfl, hl6⟩; have HL6 := Lib.hid (Later.trans HL5.out hl6); clear hl6)
    | (go_at_call 15; (with_reducible refine (C6.out _).mono ?_); rintro e w7 ⟨rfl, rfl⟩))
  go_ret
  exact ⟨rfl, HL6.out⟩
theorem walk (w : World) (hg : Sgn w) (t : ByteArray) (ht : t.size ≤ maxLen) :
    Calls Tryd.prog 3 #[.string t] w fun e w' => e = .returned (.bool true) ∧ Below w.heap.size w w' := by
  obtain ⟨s, rfl⟩ : ∃ s, t = mkS s := ⟨_, (mkS_of t).symm⟩
  by_cases h : (1000 : Int) < ((mkS s).size : Int)
  · exact walkX w hg s h
  · exact walkM w hg s h
end lexerWords
end Go.Proofs.YtnjabmacbgehlaaDoor
