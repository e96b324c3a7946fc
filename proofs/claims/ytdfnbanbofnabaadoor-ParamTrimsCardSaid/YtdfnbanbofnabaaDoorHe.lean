/- Trim, the document's Trim, and the document's examples. No premises. -/
import Derived.Test.YtdfnbanbofnabaaDoorHd
import Derived.Test.YtdfnbanbofnabaaDoorGcu
namespace Go.Proofs.YtdfnbanbofnabaaDoor
open Go.RowKit Go.Maps
namespace Gl
theorem upto_any (l d : Bool) (g : List Sg) (s : L) : ∀ n, ∃ v, Upto l d g s n v
  | 0 => ⟨none, upto_zero⟩
  | n + 1 => by
    obtain ⟨v, hv⟩ := upto_any l d g s n
    by_cases h : QC d g s n
    · cases v with
      | none => exact ⟨_, upto_new hv h (.inl rfl)⟩
      | some p =>
        cases l with
        | true => exact ⟨_, upto_new hv h (.inr rfl)⟩
        | false => exact ⟨_, upto_old hv⟩
    · exact ⟨_, upto_no hv h⟩
end Gl
namespace Pm
theorem Tb.later {w w' : World} (h : Tb w) (hb : Later w w') : Tb w' := by
  have hg : Tryd.prog.globalNamed "internal/strconv.uint64pow10" = some 0 := by kernel_rfl
  unfold Tb Lib.TabIs World.var? at h ⊢
  rw [hg] at h ⊢
  simp only [Option.bind_some] at h ⊢
  have hlt : 0 < w.heap.size := by
    rcases Nat.lt_or_ge 0 w.heap.size with h' | h'
    · exact h'
    · rw [Array.getElem?_eq_none h'] at h; cases h
  rw [hb.block _ hlt]
  exact h
/-- Both cut the same. -/
theorem cut_one (s t m : L) (d l : Bool) (ht : t.length ≤ 4096) (hs : s.length ≤ 4096) : ∃ C : L, (∀ W, Calls Tryd.prog 16 #[.string (mkS s), .agg #[.string (mkS t), .string (mkS m)], .bool d, .bool l] W fun e w' => e = .returned (.string (mkS C)) ∧ Later W w') ∧ (∀ W, Calls Tryd.prog 17 #[.string (mkS s), .string (mkS t), .string (mkS m), .bool d, .bool l] W fun e w' => e = .returned (.string (mkS C)) ∧ Later W w') := by
  obtain ⟨v0, h0⟩ := Gl.upto_any l d (Gl.sgF t m 0) s (s.length + 1)
  have h1 := Gl.upto_all h0
  refine ⟨Gl.cutOf d s v0, fun W => ?_, fun W => ?_⟩
  · refine (Gs.Cut_v s t m d l W (by omega) (by omega)).mono ?_
    rintro e w' ⟨v, rfl, hv, hl⟩
    rw [Gl.Best.one hv h1]
    exact ⟨rfl, hl⟩
  · refine (Gr.Cut_v s t m d l W ht hs).mono ?_
    rintro e w' ⟨v, rfl, hv, hl⟩
    rw [Gl.Best.one hv h1]
    exact ⟨rfl, hl⟩
abbrev TrimIs (op s t m C : L) : Prop := ∀ W, Calls Tryd.prog 12 #[.string (mkS op), .string (mkS s), .agg #[.string (mkS t), .string (mkS m)]] W fun e w' => e = .returned (.string (mkS C)) ∧ Later W w'
abbrev RefIs (op s t m C : L) : Prop := ∀ W, Calls Tryd.prog 13 #[.string (mkS op), .string (mkS s), .string (mkS t), .string (mkS m)] W fun e w' => e = .returned (.string (mkS C)) ∧ Later W w'
set_option maxRecDepth 100000 in
set_option maxHeartbeats 1600000 in
theorem Trim0 {s t m C : L} (hc : ∀ W, Calls Tryd.prog 16 #[.string (mkS s), .agg #[.string (mkS t), .string (mkS m)], .bool true, .bool false] W fun e w' => e = .returned (.string (mkS C)) ∧ Later W w') : TrimIs [37] s t m C := by
  intro W
  have HC := Lib.hid hc
  have e0 := is [37] [37] true (by decide)
  have e1 := is [37] [37, 37] false (by decide)
  have e2 := is [37] [35] false (by decide)
  have e3 := is [37] [35, 35] false (by decide)
  have HL := Lib.hid (Later.alloc W (.cells #[.string (mkS t), .string (mkS m)] 29))
  go_enter Tryd.func12, Tryd.ntmps12
  go_wp2_with (go_at_call 16; (with_reducible refine (HC.out _).mono ?_); rintro e w1 ⟨rfl, hl1⟩; have HL1 := Lib.hid hl1; clear hl1)
  go_ret
  exact ⟨rfl, HL.out.trans HL1.out⟩
set_option maxRecDepth 100000 in
set_option maxHeartbeats 1600000 in
theorem Ref0 {s t m C : L} (hc : ∀ W, Calls Tryd.prog 17 #[.string (mkS s), .string (mkS t), .string (mkS m), .bool true, .bool false] W fun e w' => e = .returned (.string (mkS C)) ∧ Later W w') : RefIs [37] s t m C := by
  intro W
  have HC := Lib.hid hc
  have e0 := is [37] [37] true (by decide)
  have e1 := is [37] [37, 37] false (by decide)
  have e2 := is [37] [35] false (by decide)
  have e3 := is [37] [35, 35] false (by decide)
  go_enter Tryd.func13, Tryd.ntmps13
  go_wp2_with (go_at_call 17; (with_reducible refine (HC.out _).mono ?_); rintro e w1 ⟨rfl, hl1⟩; have HL1 := Lib.hid hl1; clear hl1)
  go_ret
  exact ⟨rfl, HL1.out⟩
set_option maxRecDepth 100000 in
set_option maxHeartbeats 1600000 in
theorem Trim1 {s t m C : L} (hc : ∀ W, Calls Tryd.prog 16 #[.string (mkS s), .agg #[.string (mkS t), .string (mkS m)], .bool true, .bool true] W fun e w' => e = .returned (.string (mkS C)) ∧ Later W w') : TrimIs [37, 37] s t m C := by
  intro W
  have HC := Lib.hid hc
  have e0 := is [37, 37] [37] false (by decide)
  have e1 := is [37, 37] [37, 37] true (by decide)
  have e2 := is [37, 37] [35] false (by decide)
  have e3 := is [37, 37] [35, 35] false (by decide)
  have HL := Lib.hid (Later.alloc W (.cells #[.string (mkS t), .string (mkS m)] 29))
  go_enter Tryd.func12, Tryd.ntmps12
  go_wp2_with (go_at_call 16; (with_reducible refine (HC.out _).mono ?_); rintro e w1 ⟨rfl, hl1⟩; have HL1 := Lib.hid hl1; clear hl1)
  go_ret
  exact ⟨rfl, HL.out.trans HL1.out⟩
set_option maxRecDepth 100000 in
set_option maxHeartbeats 1600000 in
theorem Ref1 {s t m C : L} (hc : ∀ W, Calls Tryd.prog 17 #[.string (mkS s), .string (mkS t), .string (mkS m), .bool true, .bool true] W fun e w' => e = .returned (.string (mkS C)) ∧ Later W w') : RefIs [37, 37] s t m C := by
  intro W
  have HC := Lib.hid hc
  have e0 := is [37, 37] [37] false (by decide)
  have e1 := is [37, 37] [37, 37] true (by decide)
  have e2 := is [37, 37] [35] false (by decide)
  have e3 := is [37, 37] [35, 35] false (by decide)
  go_enter Tryd.func13, Tryd.ntmps13
  go_wp2_with (go_at_call 17; (with_reducible refine (HC.out _).mono ?_); rintro e w1 ⟨rfl, hl1⟩; have HL1 := Lib.hid hl1; clear hl1)
  go_ret
  exact ⟨rfl, HL1.out⟩
set_option maxRecDepth 100000 in
set_option maxHeartbeats 1600000 in
theorem Trim2 {s t m C : L} (hc : ∀ W, Calls Tryd.prog 16 #[.string (mkS s), .agg #[.string (mkS t), .string (mkS m)], .bool false, .bool false] W fun e w' => e = .returned (.string (mkS C)) ∧ Later W w') : TrimIs [35] s t m C := by
  intro W
  have HC := Lib.hid hc
  have e0 := is [35] [37] false (by decide)
  have e1 := is [35] [37, 37] false (by decide)
  have e2 := is [35] [35] true (by decide)
  have e3 := is [35] [35, 35] false (by decide)
  have HL := Lib.hid (Later.alloc W (.cells #[.string (mkS t), .string (mkS m)] 29))
  go_enter Tryd.func12, Tryd.ntmps12
  go_wp2_with (go_at_call 16; (with_reducible refine (HC.out _).mono ?_); rintro e w1 ⟨rfl, hl1⟩; have HL1 := Lib.hid hl1; clear hl1)
  go_ret
  exact ⟨rfl, HL.out.trans HL1.out⟩
set_option maxRecDepth 100000 in
set_option maxHeartbeats 1600000 in
theorem Ref2 {s t m C : L} (hc : ∀ W, Calls Tryd.prog 17 #[.string (mkS s), .string (mkS t), .string (mkS m), .bool false, .bool false] W fun e w' => e = .returned (.string (mkS C)) ∧ Later W w') : RefIs [35] s t m C := by
  intro W
  have HC := Lib.hid hc
  have e0 := is [35] [37] false (by decide)
  have e1 := is [35] [37, 37] false (by decide)
  have e2 := is [35] [35] true (by decide)
  have e3 := is [35] [35, 35] false (by decide)
  go_enter Tryd.func13, Tryd.ntmps13
  go_wp2_with (go_at_call 17; (with_reducible refine (HC.out _).mono ?_); rintro e w1 ⟨rfl, hl1⟩; have HL1 := Lib.hid hl1; clear hl1)
  go_ret
  exact ⟨rfl, HL1.out⟩
set_option maxRecDepth 100000 in
set_option maxHeartbeats 1600000 in
theorem Trim3 {s t m C : L} (hc : ∀ W, Calls Tryd.prog 16 #[.string (mkS s), .agg #[.string (mkS t), .string (mkS m)], .bool false, .bool true] W fun e w' => e = .returned (.string (mkS C)) ∧ Later W w') : TrimIs [35, 35] s t m C := by
  intro W
  have HC := Lib.hid hc
  have e0 := is [35, 35] [37] false (by decide)
  have e1 := is [35, 35] [37, 37] false (by decide)
  have e2 := is [35, 35] [35] false (by decide)
  have e3 := is [35, 35] [35, 35] true (by decide)
  have HL := Lib.hid (Later.alloc W (.cells #[.string (mkS t), .string (mkS m)] 29))
  go_enter Tryd.func12, Tryd.ntmps12
  go_wp2_with (go_at_call 16; (with_reducible refine (HC.out _).mono ?_); rintro e w1 ⟨rfl, hl1⟩; have HL1 := Lib.hid hl1; clear hl1)
  go_ret
  exact ⟨rfl, HL.out.trans HL1.out⟩
set_option maxRecDepth 100000 in
set_option maxHeartbeats 1600000 in
theorem Ref3 {s t m C : L} (hc : ∀ W, Calls Tryd.prog 17 #[.string (mkS s), .string (mkS t), .string (mkS m), .bool false, .bool true] W fun e w' => e = .returned (.string (mkS C)) ∧ Later W w') : RefIs [35, 35] s t m C := by
  intro W
  have HC := Lib.hid hc
  have e0 := is [35, 35] [37] false (by decide)
  have e1 := is [35, 35] [37, 37] false (by decide)
  have e2 := is [35, 35] [35] false (by decide)
  have e3 := is [35, 35] [35, 35] true (by decide)
  go_enter Tryd.func13, Tryd.ntmps13
  go_wp2_with (go_at_call 17; (with_reducible refine (HC.out _).mono ?_); rintro e w1 ⟨rfl, hl1⟩; have HL1 := Lib.hid hl1; clear hl1)
  go_ret
  exact ⟨rfl, HL1.out⟩
set_option maxRecDepth 100000 in
set_option maxHeartbeats 1600000 in
theorem Trim4 {s t m : L} (op : L) (h0 : op ≠ [37]) (h1 : op ≠ [37, 37]) (h2 : op ≠ [35]) (h3 : op ≠ [35, 35]) : TrimIs op s t m s := by
  intro W
  have e0 := no op [37] h0
  have e1 := no op [37, 37] h1
  have e2 := no op [35] h2
  have e3 := no op [35, 35] h3
  clear h0 h1 h2 h3
  have HL := Lib.hid (Later.alloc W (.cells #[.string (mkS t), .string (mkS m)] 29))
  go_enter Tryd.func12, Tryd.ntmps12
  go_wp2
  go_ret
  exact ⟨rfl, HL.out⟩
set_option maxRecDepth 100000 in
set_option maxHeartbeats 1600000 in
theorem Ref4 {s t m : L} (op : L) (h0 : op ≠ [37]) (h1 : op ≠ [37, 37]) (h2 : op ≠ [35]) (h3 : op ≠ [35, 35]) : RefIs op s t m s := by
  intro W
  have e0 := no op [37] h0
  have e1 := no op [37, 37] h1
  have e2 := no op [35] h2
  have e3 := no op [35, 35] h3
  clear h0 h1 h2 h3
  go_enter Tryd.func13, Tryd.ntmps13
  go_wp2
  go_ret
  exact ⟨rfl, Later.refl _⟩
/-- Both trim the same. -/
theorem trim_one (op s t m : L) (ht : t.length ≤ 4096) (hs : s.length ≤ 4096) : ∃ C : L, TrimIs op s t m C ∧ RefIs op s t m C := by
  by_cases h0 : op = [37]
  · subst h0
    obtain ⟨C, c1, c2⟩ := cut_one s t m true false ht hs
    exact ⟨C, Trim0 c1, Ref0 c2⟩
  by_cases h1 : op = [37, 37]
  · subst h1
    obtain ⟨C, c1, c2⟩ := cut_one s t m true true ht hs
    exact ⟨C, Trim1 c1, Ref1 c2⟩
  by_cases h2 : op = [35]
  · subst h2
    obtain ⟨C, c1, c2⟩ := cut_one s t m false false ht hs
    exact ⟨C, Trim2 c1, Ref2 c2⟩
  by_cases h3 : op = [35, 35]
  · subst h3
    obtain ⟨C, c1, c2⟩ := cut_one s t m false true ht hs
    exact ⟨C, Trim3 c1, Ref3 c2⟩
  exact ⟨s, Trim4 op h0 h1 h2 h3, Ref4 op h0 h1 h2 h3⟩
theorem a1 (W : World) : Calls Tryd.prog 7 #[.string ⟨#[58, 45]⟩, .string ⟨#[]⟩, .bool true] W fun e w' => e = .returned (.int .i64 2) ∧ Later W w' := does_v [58, 45] [] true W
theorem a2 (W : World) : Calls Tryd.prog 7 #[.string ⟨#[45]⟩, .string ⟨#[]⟩, .bool true] W fun e w' => e = .returned (.int .i64 1) ∧ Later W w' := does_v [45] [] true W
theorem a3 (W : World) : Calls Tryd.prog 7 #[.string ⟨#[61]⟩, .string ⟨#[120]⟩, .bool false] W fun e w' => e = .returned (.int .i64 3) ∧ Later W w' := does_v [61] [120] false W
theorem a4 (W : World) : Calls Tryd.prog 7 #[.string ⟨#[58, 63]⟩, .string ⟨#[]⟩, .bool true] W fun e w' => e = .returned (.int .i64 4) ∧ Later W w' := does_v [58, 63] [] true W
theorem a5 (W : World) : Calls Tryd.prog 7 #[.string ⟨#[]⟩, .string ⟨#[]⟩, .bool false] W fun e w' => e = .returned (.int .i64 5) ∧ Later W w' := does_v [] [] false W
theorem a6 (W : World) : Calls Tryd.prog 9 #[.string ⟨#[37, 37]⟩] W fun e w' => e = .returned (.bool true) ∧ w' = W := Trims_v [37, 37] W
theorem a7 (W : World) : Calls Tryd.prog 9 #[.string ⟨#[37, 58]⟩] W fun e w' => e = .returned (.bool false) ∧ w' = W := Trims_v [37, 58] W
theorem dec3 : Lib.decDigits 3 = [51] := by rw [dec_small (by decide)]; rfl
theorem a8 (W : World) (hT : Tb W) : Calls Tryd.prog 10 #[.string ⟨#[97, 98, 99]⟩] W fun e w' => e = .returned (.string ⟨#[51]⟩) ∧ Later W w' := by
  have h := Len_v [97, 98, 99] (by decide) W hT
  rw [show ([97, 98, 99] : L).length = 3 from rfl, dec3] at h
  exact h
set_option maxHeartbeats 1600000 in
set_option maxRecDepth 100000 in
theorem awake_v (W : World) (hT : Tb W) : Calls Tryd.prog 6 #[] W fun e W' => e = .returned (.bool true) ∧ Later W W' := by
  have HT := Lib.hid hT
  clear hT
  go_enter Tryd.func6, Tryd.ntmps6
  go_wp2_with (first
    | (go_at_call 7; (with_reducible refine (a1 _).mono ?_); rintro e w1 ⟨rfl, hl1⟩; have HL1 := Lib.hid hl1; clear hl1)
    | (go_at_call 7; (with_reducible refine (a2 _).mono ?_); rintro e w2 ⟨rfl, hl2⟩; have HL2 := Lib.hid (HL1.out.trans hl2); clear hl2)
    | (go_at_call 7; (with_reducible refine (a3 _).mono ?_); rintro e w3 ⟨rfl, hl3⟩; have HL3 := Lib.hid (HL2.out.trans hl3); clear hl3)
    | (go_at_call 7; (with_reducible refine (a4 _).mono ?_); rintro e w4 ⟨rfl, hl4⟩; have HL4 := Lib.hid (HL3.out.trans hl4); clear hl4)
    | (go_at_call 7; (with_reducible refine (a5 _).mono ?_); rintro e w5 ⟨rfl, hl5⟩; have HL5 := Lib.hid (HL4.out.trans hl5); clear hl5)
    | (go_at_call 9; (with_reducible refine (a6 _).mono ?_); rintro e w6 ⟨rfl, rfl⟩)
    | (go_at_call 9; (with_reducible refine (a7 _).mono ?_); rintro e w7 ⟨rfl, rfl⟩)
    | (go_at_call 10; (with_reducible refine (a8 _ (HT.out.later HL5.out)).mono ?_); rintro e w8 ⟨rfl, hl8⟩; have HL8 := Lib.hid (HL5.out.trans hl8); clear hl8))
  go_ret
  exact ⟨rfl, HL8.out⟩
end Pm
end Go.Proofs.YtdfnbanbofnabaaDoor
