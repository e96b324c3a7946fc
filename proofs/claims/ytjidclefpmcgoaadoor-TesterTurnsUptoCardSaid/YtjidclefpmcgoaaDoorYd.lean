/- The numbers of texts as the program tells them: any text. The listed variables: their condition. -/
import Derived.Test.YtjidclefpmcgoaaDoorYb
import Derived.Test.YtjidclefpmcgoaaDoorYc
namespace Go.Proofs.YtjidclefpmcgoaaDoor
open Go.RowKit Go.Maps
namespace Ar
/-- A variable that holds an error. -/
def ErrAt (W : World) (g : Nat) : Prop := ∃ ev, W.cell? ⟨g, 0, none⟩ = some ev ∧ (ev = .nilIface ∨ ∃ te pe, ev = .iface te pe)
/-- What the listed variables hold. -/
structure Vd (W : World) : Prop where
  es : ErrAt W 3
  er : ErrAt W 4
theorem ErrAt.later {w w' : World} {g : Nat} (h : ErrAt w g) (hl : Later w w') : ErrAt w' g := by
  obtain ⟨ev, h1, h2⟩ := h
  exact ⟨ev, (hl.cell (World.block_lt_of_cell? w _ h1)).trans h1, h2⟩
theorem Vd.later {w w' : World} (h : Vd w) (hl : Later w w') : Vd w' := ⟨h.es.later hl, h.er.later hl⟩
set_option maxRecDepth 100000 in
theorem pu_empty8 (W : World) : Calls Tryd.prog 61 #[.string (mkS []), .int .i64 8, .int .i64 63] W fun e W' => e = .returned (.tuple #[.int .u64 0, .iface 87 (.int .i64 2)]) ∧ W' = W := by
  go_enter Tryd.func61, Tryd.ntmps61
  have he : ((mkS []).toList == ([] : List UInt8)) = true := by rw [toList_mkS]; rfl
  go_wp2
  go_ret2
  exact ⟨rfl, rfl⟩
set_option maxRecDepth 100000 in
theorem pu_empty10 (W : World) : Calls Tryd.prog 61 #[.string (mkS []), .int .i64 10, .int .i64 63] W fun e W' => e = .returned (.tuple #[.int .u64 0, .iface 87 (.int .i64 2)]) ∧ W' = W := by
  go_enter Tryd.func61, Tryd.ntmps61
  have he : ((mkS []).toList == ([] : List UInt8)) = true := by rw [toList_mkS]; rfl
  go_wp2
  go_ret2
  exact ⟨rfl, rfl⟩
set_option maxRecDepth 100000 in
theorem pu_empty16 (W : World) : Calls Tryd.prog 61 #[.string (mkS []), .int .i64 16, .int .i64 63] W fun e W' => e = .returned (.tuple #[.int .u64 0, .iface 87 (.int .i64 2)]) ∧ W' = W := by
  go_enter Tryd.func61, Tryd.ntmps61
  have he : ((mkS []).toList == ([] : List UInt8)) = true := by rw [toList_mkS]; rfl
  go_wp2
  go_ret2
  exact ⟨rfl, rfl⟩
/-- The inner one, at any text. -/
theorem pu_all (b : Nat) (hb : b = 8 ∨ b = 10 ∨ b = 16) (l : L) (W : World) (hl : l.length ≤ 2000000) : Calls Tryd.prog 61 #[.string (mkS l), .int .i64 (b : Int), .int .i64 63] W fun e W' => (∃ x q, e = .returned (.tuple #[.int .u64 x, q]) ∧ ((NumB b l ∧ l ≠ [] ∧ q = .nilIface ∧ x = (val b l : Int)) ∨ (¬ (l ≠ [] ∧ NumB b l) ∧ (q = .iface 87 (.int .i64 1) ∨ q = .iface 87 (.int .i64 2))))) ∧ Later W W' := by
  by_cases h0 : l = []
  · subst h0
    have he : Calls Tryd.prog 61 #[.string (mkS []), .int .i64 (b : Int), .int .i64 63] W fun e W' => e = .returned (.tuple #[.int .u64 0, .iface 87 (.int .i64 2)]) ∧ W' = W := by
      rcases hb with rfl | rfl | rfl
      · exact pu_empty8 W
      · exact pu_empty10 W
      · exact pu_empty16 W
    refine he.mono ?_
    rintro e w' ⟨rfl, rfl⟩
    exact ⟨⟨_, _, rfl, .inr ⟨fun h => h.1 rfl, .inr rfl⟩⟩, Later.refl _⟩
  · have he : Calls Tryd.prog 61 #[.string (mkS l), .int .i64 (b : Int), .int .i64 63] W fun e W' => (∃ x q, e = .returned (.tuple #[.int .u64 x, q]) ∧ PuOk b l x q) ∧ Later W W' := by
      rcases hb with rfl | rfl | rfl
      · exact pu_8 l W h0 hl
      · exact pu_10 l W h0 hl
      · exact pu_16 l W h0 hl
    refine he.mono ?_
    rintro e w' ⟨⟨x, q, rfl, hq⟩, hl'⟩
    refine ⟨⟨x, q, rfl, ?_⟩, hl'⟩
    rcases hq with ⟨h1, h2, h3⟩ | ⟨h1, h2⟩
    · exact .inl ⟨h1, h0, h2, h3⟩
    · exact .inr ⟨fun h => h1 h.2, h2⟩
/-- What ParseUint tells where there is a number, and where there is none. -/
abbrev ParO (d : L) (b n : Int) : Prop := ∀ W, Vd W → Calls Tryd.prog 55 #[.string (mkS d), .int .i64 b, .int .i64 63] W fun e W' => e = .returned (.tuple #[.int .u64 n, .nilIface]) ∧ Later W W'
abbrev ParE (d : L) (b : Int) : Prop := ∀ W, Vd W → Calls Tryd.prog 55 #[.string (mkS d), .int .i64 b, .int .i64 63] W fun e W' => (∃ x te pe, e = .returned (.tuple #[.int .u64 x, .iface te pe])) ∧ Later W W'
set_option maxRecDepth 100000 in
set_option maxHeartbeats 3200000 in
theorem parse_o (b : Nat) (hb : b = 8 ∨ b = 10 ∨ b = 16) (l : L) (hl : l.length ≤ 2000000) (h0 : l ≠ []) (hn : NumB b l) : ParO l (b : Int) (val b l : Nat) := by
  intro W _
  have HPU := Lib.hid (pu_all b hb l W hl)
  have HN := Lib.hid (And.intro h0 hn)
  obtain ⟨v, hv⟩ : ∃ v, v = val b l := ⟨_, rfl⟩
  rw [← hv] at HPU ⊢
  clear hl hv h0 hn hb
  go_enter Tryd.func55, Tryd.ntmps55
  go_wp2_with fail
  go_at_call 61
  with_reducible refine HPU.out.mono ?_
  rintro e w1 ⟨⟨x, q, rfl, hq⟩, hl1⟩
  rcases hq with ⟨_, _, rfl, rfl⟩ | ⟨h, _⟩
  · go_wp2
    go_ret2
    exact ⟨rfl, hl1⟩
  · exact absurd HN.out h
set_option maxRecDepth 100000 in
set_option maxHeartbeats 3200000 in
theorem parse_e (b : Nat) (hb : b = 8 ∨ b = 10 ∨ b = 16) (l : L) (hl : l.length ≤ 2000000) (hn : ¬ (l ≠ [] ∧ NumB b l)) : ParE l (b : Int) := by
  intro W hd
  have HPU := Lib.hid (pu_all b hb l W hl)
  have HN := Lib.hid hn
  have HD := Lib.hid hd
  have hsz : (mkS l).size ≤ 281474976710656 := by rw [mkS_size]; omega
  have HTS := Lib.hid (fun fn ev w hv hev => Tryd.strconv_toError_syntax fn (mkS l) (b : Int) 63 ev w hsz hv hev)
  have HTR := Lib.hid (fun fn ev w hv hev => Tryd.strconv_toError_range fn (mkS l) (b : Int) 63 ev w hsz hv hev)
  clear hl hsz hd hb hn
  go_enter Tryd.func55, Tryd.ntmps55
  go_wp2_with fail
  go_at_call 61
  with_reducible refine HPU.out.mono ?_
  rintro e w1 ⟨⟨x, q, rfl, hq⟩, hl1⟩
  have HL1 := Lib.hid hl1
  clear hl1
  rcases hq with ⟨h1, h2, _, _⟩ | ⟨_, rfl | rfl⟩
  · exact absurd ⟨h2, h1⟩ HN.out
  · obtain ⟨ev, hv, hev⟩ := HD.out.er.later HL1.out
    have HV := Lib.hid (And.intro hv hev)
    clear hv hev
    go_wp2_with (go_at_call 62; (with_reducible refine (HTR.out _ ev _ HV.out.1 HV.out.2).mono ?_); rintro e w2 ⟨N, rfl, _, _, hl2⟩; have HL2 := Lib.hid hl2; clear hl2)
    go_ret2
    exact ⟨⟨_, _, _, rfl⟩, HL1.out.trans (later_of_below HL2.out)⟩
  · obtain ⟨ev, hv, hev⟩ := HD.out.es.later HL1.out
    have HV := Lib.hid (And.intro hv hev)
    clear hv hev
    go_wp2_with (go_at_call 62; (with_reducible refine (HTS.out _ ev _ HV.out.1 HV.out.2).mono ?_); rintro e w2 ⟨N, rfl, _, _, hl2⟩; have HL2 := Lib.hid hl2; clear hl2)
    go_ret2
    exact ⟨⟨_, _, _, rfl⟩, HL1.out.trans (later_of_below HL2.out)⟩
theorem pre_v (l p : L) (W : World) : Calls Tryd.prog 54 #[.string (mkS l), .string (mkS p)] W fun e W' => e = .returned (.bool (Lib.hasPrefix l p)) ∧ W' = W := by
  have := Tryd.strings_HasPrefix (mkS l) (mkS p) W
  rwa [mkS_list, mkS_list] at this
abbrev PreC (l : L) (p : ByteArray) (b : Bool) : Prop := ∀ W, Calls Tryd.prog 54 #[.string (mkS l), .string p] W fun e W' => e = .returned (.bool b) ∧ W' = W
theorem pre_c (l p : L) (ps : ByteArray) (hps : ps = mkS p) (b : Bool) (hb : Lib.hasPrefix l p = b) : PreC l ps b := by subst hps; subst hb; exact pre_v l p
/-- What arith's number tells. -/
def numR (r : Option Nat) : Value := .tuple #[.int .i64 ((r.getD 0 : Nat) : Int), .bool r.isSome]
theorem num_x (l : L) : num l = if Lib.hasPrefix l [48, 120] = true then (if l.drop 2 ≠ [] ∧ NumB 16 (l.drop 2) then some (val 16 (l.drop 2)) else none)
    else if Lib.hasPrefix l [48, 88] = true then (if l.drop 2 ≠ [] ∧ NumB 16 (l.drop 2) then some (val 16 (l.drop 2)) else none)
    else if Lib.hasPrefix l [48] = true then (if l ≠ [] ∧ NumB 8 l then some (val 8 l) else none)
    else (if l ≠ [] ∧ NumB 10 l then some (val 10 l) else none) := by
  unfold num
  cases h1 : Lib.hasPrefix l [48, 120] <;> cases h2 : Lib.hasPrefix l [48, 88] <;> cases h3 : Lib.hasPrefix l [48] <;> simp
set_option maxHeartbeats 3200000 in
set_option maxRecDepth 100000 in
theorem num_v (l : L) (hl : l.length ≤ 2000000) (W : World) (hvd : Vd W) : Calls Tryd.prog 46 #[.string (mkS l)] W fun e W' => e = .returned (numR (num l)) ∧ Later W W' := by
  have hp : ∀ p : L, Lib.hasPrefix l p = true → p.length ≤ l.length := fun p hp => (List.isPrefixOf_iff_prefix.1 hp).length_le
  have HVD := Lib.hid hvd
  clear hvd
  rw [num_x]
  by_cases hx : Lib.hasPrefix l [48, 120] = true
  · rw [if_pos hx]
    have H1 := Lib.hid (pre_c l [48, 120] ⟨#[48, 120]⟩ rfl true hx)
    have H2 := H1
    have H3 := H1
    have hlen := hp _ hx
    have HX := Lib.hid (drop_text l 2)
    have hsz : ((mkS l).size : Int) = (l.length : Nat) := by rw [mkS_size]
    obtain ⟨z, hz⟩ : ∃ z, z = l.length := ⟨_, rfl⟩
    rw [← hz] at hsz hlen
    have hz2 : (2 : Int) ≤ (z : Int) := by simp at hlen; omega
    have hdl : (l.drop 2).length ≤ 2000000 := by rw [List.length_drop]; omega
    clear hz hlen
    by_cases hh : l.drop 2 ≠ [] ∧ NumB 16 (l.drop 2)
    · rw [if_pos hh]
      have hP : ParO (l.drop 2) 16 (val 16 (l.drop 2) : Nat) := parse_o 16 (by omega) (l.drop 2) hdl hh.1 hh.2
      have HP := Lib.hid hP
      clear hP
      have hv2 := hh.2.2
      obtain ⟨n, hn⟩ : ∃ n, n = val 16 (l.drop 2) := ⟨_, rfl⟩
      rw [← hn] at HP hv2 ⊢
      obtain ⟨a, ha⟩ : ∃ a : Int, a = (n : Int) := ⟨_, rfl⟩
      have ha0 : 0 ≤ a := by omega
      have ha1 : a < 9223372036854775808 := by omega
      unfold numR
      simp only [Option.getD_some, Option.isSome_some]
      rw [← ha] at HP ⊢
      clear hh hn hv2 ha hp hl hdl hx
      go_enter Tryd.func46, Tryd.ntmps46
      go_wp2_with (first
        | (go_at_call 54; (with_reducible refine (H1.out _).mono ?_); rintro e w1 ⟨rfl, rfl⟩)
        | (go_at_call 54; (with_reducible refine (H2.out _).mono ?_); rintro e w1 ⟨rfl, rfl⟩)
        | (go_at_call 54; (with_reducible refine (H3.out _).mono ?_); rintro e w1 ⟨rfl, rfl⟩)
        | (go_at_call 55; (try rw [HX.out]); (with_reducible refine (HP.out _ HVD.out).mono ?_); rintro e w2 ⟨rfl, hl2⟩))
      go_ret2
      exact ⟨rfl, hl2⟩
    · rw [if_neg hh]
      have hP : ParE (l.drop 2) 16 := parse_e 16 (by omega) (l.drop 2) hdl hh
      have HP := Lib.hid hP
      clear hP
      clear hh hp hl hdl hx
      go_enter Tryd.func46, Tryd.ntmps46
      go_wp2_with (first
        | (go_at_call 54; (with_reducible refine (H1.out _).mono ?_); rintro e w1 ⟨rfl, rfl⟩)
        | (go_at_call 54; (with_reducible refine (H2.out _).mono ?_); rintro e w1 ⟨rfl, rfl⟩)
        | (go_at_call 54; (with_reducible refine (H3.out _).mono ?_); rintro e w1 ⟨rfl, rfl⟩)
        | (go_at_call 55; (try rw [HX.out]); (with_reducible refine (HP.out _ HVD.out).mono ?_); rintro e w2 ⟨⟨xx, te, pe, rfl⟩, hl2⟩))
      go_ret2
      exact ⟨rfl, hl2⟩
  · rw [if_neg hx]
    have H1 := Lib.hid (pre_c l [48, 120] ⟨#[48, 120]⟩ rfl false (Bool.eq_false_iff.2 hx))
    clear hx
    by_cases hx : Lib.hasPrefix l [48, 88] = true
    · rw [if_pos hx]
      have H2 := Lib.hid (pre_c l [48, 88] ⟨#[48, 88]⟩ rfl true hx)
      have H3 := H1
      have hlen := hp _ hx
      have HX := Lib.hid (drop_text l 2)
      have hsz : ((mkS l).size : Int) = (l.length : Nat) := by rw [mkS_size]
      obtain ⟨z, hz⟩ : ∃ z, z = l.length := ⟨_, rfl⟩
      rw [← hz] at hsz hlen
      have hz2 : (2 : Int) ≤ (z : Int) := by simp at hlen; omega
      have hdl : (l.drop 2).length ≤ 2000000 := by rw [List.length_drop]; omega
      clear hz hlen
      by_cases hh : l.drop 2 ≠ [] ∧ NumB 16 (l.drop 2)
      · rw [if_pos hh]
        have hP : ParO (l.drop 2) 16 (val 16 (l.drop 2) : Nat) := parse_o 16 (by omega) (l.drop 2) hdl hh.1 hh.2
        have HP := Lib.hid hP
        clear hP
        have hv2 := hh.2.2
        obtain ⟨n, hn⟩ : ∃ n, n = val 16 (l.drop 2) := ⟨_, rfl⟩
        rw [← hn] at HP hv2 ⊢
        obtain ⟨a, ha⟩ : ∃ a : Int, a = (n : Int) := ⟨_, rfl⟩
        have ha0 : 0 ≤ a := by omega
        have ha1 : a < 9223372036854775808 := by omega
        unfold numR
        simp only [Option.getD_some, Option.isSome_some]
        rw [← ha] at HP ⊢
        clear hh hn hv2 ha hp hl hdl hx
        go_enter Tryd.func46, Tryd.ntmps46
        go_wp2_with (first
          | (go_at_call 54; (with_reducible refine (H1.out _).mono ?_); rintro e w1 ⟨rfl, rfl⟩)
          | (go_at_call 54; (with_reducible refine (H2.out _).mono ?_); rintro e w1 ⟨rfl, rfl⟩)
          | (go_at_call 54; (with_reducible refine (H3.out _).mono ?_); rintro e w1 ⟨rfl, rfl⟩)
          | (go_at_call 55; (try rw [HX.out]); (with_reducible refine (HP.out _ HVD.out).mono ?_); rintro e w2 ⟨rfl, hl2⟩))
        go_ret2
        exact ⟨rfl, hl2⟩
      · rw [if_neg hh]
        have hP : ParE (l.drop 2) 16 := parse_e 16 (by omega) (l.drop 2) hdl hh
        have HP := Lib.hid hP
        clear hP
        clear hh hp hl hdl hx
        go_enter Tryd.func46, Tryd.ntmps46
        go_wp2_with (first
          | (go_at_call 54; (with_reducible refine (H1.out _).mono ?_); rintro e w1 ⟨rfl, rfl⟩)
          | (go_at_call 54; (with_reducible refine (H2.out _).mono ?_); rintro e w1 ⟨rfl, rfl⟩)
          | (go_at_call 54; (with_reducible refine (H3.out _).mono ?_); rintro e w1 ⟨rfl, rfl⟩)
          | (go_at_call 55; (try rw [HX.out]); (with_reducible refine (HP.out _ HVD.out).mono ?_); rintro e w2 ⟨⟨xx, te, pe, rfl⟩, hl2⟩))
        go_ret2
        exact ⟨rfl, hl2⟩
    · rw [if_neg hx]
      have H2 := Lib.hid (pre_c l [48, 88] ⟨#[48, 88]⟩ rfl false (Bool.eq_false_iff.2 hx))
      clear hx
      by_cases hx : Lib.hasPrefix l [48] = true
      · rw [if_pos hx]
        have H3 := Lib.hid (pre_c l [48] ⟨#[48]⟩ rfl true hx)
        clear hx
        have hdl := hl
        by_cases hh : l ≠ [] ∧ NumB 8 l
        · rw [if_pos hh]
          have hP : ParO l 8 (val 8 l : Nat) := parse_o 8 (by omega) l hdl hh.1 hh.2
          have HP := Lib.hid hP
          clear hP
          have hv2 := hh.2.2
          obtain ⟨n, hn⟩ : ∃ n, n = val 8 l := ⟨_, rfl⟩
          rw [← hn] at HP hv2 ⊢
          obtain ⟨a, ha⟩ : ∃ a : Int, a = (n : Int) := ⟨_, rfl⟩
          have ha0 : 0 ≤ a := by omega
          have ha1 : a < 9223372036854775808 := by omega
          unfold numR
          simp only [Option.getD_some, Option.isSome_some]
          rw [← ha] at HP ⊢
          clear hh hn hv2 ha hp hl hdl
          go_enter Tryd.func46, Tryd.ntmps46
          go_wp2_with (first
            | (go_at_call 54; (with_reducible refine (H1.out _).mono ?_); rintro e w1 ⟨rfl, rfl⟩)
            | (go_at_call 54; (with_reducible refine (H2.out _).mono ?_); rintro e w1 ⟨rfl, rfl⟩)
            | (go_at_call 54; (with_reducible refine (H3.out _).mono ?_); rintro e w1 ⟨rfl, rfl⟩)
            | (go_at_call 55; (with_reducible refine (HP.out _ HVD.out).mono ?_); rintro e w2 ⟨rfl, hl2⟩))
          go_ret2
          exact ⟨rfl, hl2⟩
        · rw [if_neg hh]
          have hP : ParE l 8 := parse_e 8 (by omega) l hdl hh
          have HP := Lib.hid hP
          clear hP
          clear hh hp hl hdl
          go_enter Tryd.func46, Tryd.ntmps46
          go_wp2_with (first
            | (go_at_call 54; (with_reducible refine (H1.out _).mono ?_); rintro e w1 ⟨rfl, rfl⟩)
            | (go_at_call 54; (with_reducible refine (H2.out _).mono ?_); rintro e w1 ⟨rfl, rfl⟩)
            | (go_at_call 54; (with_reducible refine (H3.out _).mono ?_); rintro e w1 ⟨rfl, rfl⟩)
            | (go_at_call 55; (with_reducible refine (HP.out _ HVD.out).mono ?_); rintro e w2 ⟨⟨xx, te, pe, rfl⟩, hl2⟩))
          go_ret2
          exact ⟨rfl, hl2⟩
      · rw [if_neg hx]
        have H3 := Lib.hid (pre_c l [48] ⟨#[48]⟩ rfl false (Bool.eq_false_iff.2 hx))
        clear hx
        have hdl := hl
        by_cases hh : l ≠ [] ∧ NumB 10 l
        · rw [if_pos hh]
          have hP : ParO l 10 (val 10 l : Nat) := parse_o 10 (by omega) l hdl hh.1 hh.2
          have HP := Lib.hid hP
          clear hP
          have hv2 := hh.2.2
          obtain ⟨n, hn⟩ : ∃ n, n = val 10 l := ⟨_, rfl⟩
          rw [← hn] at HP hv2 ⊢
          obtain ⟨a, ha⟩ : ∃ a : Int, a = (n : Int) := ⟨_, rfl⟩
          have ha0 : 0 ≤ a := by omega
          have ha1 : a < 9223372036854775808 := by omega
          unfold numR
          simp only [Option.getD_some, Option.isSome_some]
          rw [← ha] at HP ⊢
          clear hh hn hv2 ha hp hl hdl
          go_enter Tryd.func46, Tryd.ntmps46
          go_wp2_with (first
            | (go_at_call 54; (with_reducible refine (H1.out _).mono ?_); rintro e w1 ⟨rfl, rfl⟩)
            | (go_at_call 54; (with_reducible refine (H2.out _).mono ?_); rintro e w1 ⟨rfl, rfl⟩)
            | (go_at_call 54; (with_reducible refine (H3.out _).mono ?_); rintro e w1 ⟨rfl, rfl⟩)
            | (go_at_call 55; (with_reducible refine (HP.out _ HVD.out).mono ?_); rintro e w2 ⟨rfl, hl2⟩))
          go_ret2
          exact ⟨rfl, hl2⟩
        · rw [if_neg hh]
          have hP : ParE l 10 := parse_e 10 (by omega) l hdl hh
          have HP := Lib.hid hP
          clear hP
          clear hh hp hl hdl
          go_enter Tryd.func46, Tryd.ntmps46
          go_wp2_with (first
            | (go_at_call 54; (with_reducible refine (H1.out _).mono ?_); rintro e w1 ⟨rfl, rfl⟩)
            | (go_at_call 54; (with_reducible refine (H2.out _).mono ?_); rintro e w1 ⟨rfl, rfl⟩)
            | (go_at_call 54; (with_reducible refine (H3.out _).mono ?_); rintro e w1 ⟨rfl, rfl⟩)
            | (go_at_call 55; (with_reducible refine (HP.out _ HVD.out).mono ?_); rintro e w2 ⟨⟨xx, te, pe, rfl⟩, hl2⟩))
          go_ret2
          exact ⟨rfl, hl2⟩
theorem trim_v (l : L) (hl : l.length ≤ 2000000) (W : World) : Calls Tryd.prog 33 #[.string (mkS l), .string ⟨#[32, 9, 10]⟩] W fun e W' => e = .returned (.string (mkS (trim l))) ∧ Below W.heap.size W W' :=
  Tryd.strings_Trim (mkS l) (mkS [32, 9, 10]) W (by rw [mkS_size]; omega) (by rw [mkS_size]; decide) (Go.Proofs.ascii_of_all (by decide)) |>.mono (by
    rintro e W' ⟨rfl, h⟩
    rw [mkS_list, mkS_list]
    exact ⟨rfl, h⟩)
theorem trim_len (l : L) : (trim l).length ≤ l.length := by
  unfold trim Lib.trimS Lib.trimLeftS Lib.trimRightS
  have h1 := (List.dropWhile_suffix (l := (l.reverse.dropWhile ([32, 9, 10].contains ·)).reverse) ([32, 9, 10].contains ·)).length_le
  have h2 := (List.dropWhile_suffix (l := l.reverse) ([32, 9, 10].contains ·)).length_le
  simp only [List.length_reverse] at h1 h2
  omega
/-- What Number tells. -/
def numI (r : Option Int) : Value := .tuple #[.int .i64 (r.getD 0), .bool r.isSome]
theorem num_lt {l : L} {n : Nat} (h : num l = some n) : n < 9223372036854775808 := by
  rw [num_x] at h
  split at h
  all_goals first
    | (split at h
       all_goals first
         | (cases h; next hh => exact hh.2.2)
         | (split at h
            all_goals first
              | (cases h; next hh => exact hh.2.2)
              | (split at h
                 all_goals first
                   | (cases h; next hh => exact hh.2.2)
                   | cases h)
              | cases h)
         | cases h)
    | cases h
set_option maxHeartbeats 1600000 in
set_option maxRecDepth 100000 in
theorem numV_v (l : L) (hl : l.length ≤ 2000000) (W : World) (hvd : Vd W) : Calls Tryd.prog 34 #[.string (mkS l)] W fun e W' => e = .returned (numI (numV l)) ∧ Later W W' := by
  have HT := Lib.hid (trim_v l hl)
  have HVD := Lib.hid hvd
  have ht := trim_len l
  unfold numV
  dsimp only
  obtain ⟨t, htt⟩ : ∃ t, t = trim l := ⟨_, rfl⟩
  rw [← htt] at HT ht ⊢
  clear htt hvd
  have ht4 : t.length ≤ 2000000 := by omega
  by_cases h0 : t = []
  · subst h0
    rw [if_pos rfl]
    have he : ((mkS []).toList == ([] : List UInt8)) = true := by rw [toList_mkS]; rfl
    clear ht hl ht4
    go_enter Tryd.func34, Tryd.ntmps34
    go_wp2_with (go_at_call 33; (with_reducible refine (HT.out _).mono ?_); rintro e w1 ⟨rfl, hb1⟩)
    go_ret2
    exact ⟨rfl, later_of_below hb1⟩
  · rw [if_neg h0]
    have he : ((mkS t).toList == ([] : List UInt8)) = false := by rw [toList_mkS]; exact beq_eq_false_iff_ne.2 h0
    have hcut := fun W => Tryd.strings_CutPrefix (mkS t) (mkS [45]) W
    have htp := fun W => Tryd.strings_TrimPrefix (mkS t) (mkS [43]) W
    simp only [mkS_list] at hcut htp
    have len : ∀ p : L, (Lib.trimPrefix t p).length ≤ t.length := fun p => by unfold Lib.trimPrefix; split; rw [List.length_drop]; omega; exact Nat.le_refl _
    cases hm : Lib.hasPrefix t [45] with
    | true =>
      rw [hm] at hcut
      simp only [if_true]
      obtain ⟨d, hd⟩ : ∃ d, d = Lib.trimPrefix t [45] := ⟨_, rfl⟩
      have hdl := len [45]
      rw [← hd] at hcut hdl ⊢
      have HN := Lib.hid (fun W => num_v d (by omega) W)
      have HLT := Lib.hid (fun n => num_lt (l := d) (n := n))
      obtain ⟨r, hr⟩ : ∃ r, r = num d := ⟨_, rfl⟩
      rw [← hr] at HN HLT ⊢
      have HC := Lib.hid (show ∀ W, Calls Tryd.prog 45 #[.string (mkS t), .string ⟨#[45]⟩] W fun e W' => e = .returned (.tuple #[.string (mkS d), .bool true]) ∧ W' = W from hcut)
      clear ht hl ht4 hm hcut htp len hd h0 hdl hr
      cases r with
      | none =>
        simp only [Option.map_none]
        go_enter Tryd.func34, Tryd.ntmps34
        go_wp2_with (first
          | (go_at_call 33; (with_reducible refine (HT.out _).mono ?_); rintro e w1 ⟨rfl, hb1⟩; have HB1 := Lib.hid (later_of_below hb1); clear hb1)
          | (go_at_call 45; (with_reducible refine (HC.out _).mono ?_); rintro e w2 ⟨rfl, rfl⟩)
          | (go_at_call 46; (with_reducible refine (HN.out _ (HVD.out.later HB1.out)).mono ?_); rintro e w3 ⟨rfl, hl3⟩; unfold numR; simp only [Option.getD_none, Option.isSome_none]))
        go_ret2
        exact ⟨rfl, HB1.out.trans hl3⟩
      | some n =>
        have hn := HLT.out n rfl
        simp only [Option.map_some]
        obtain ⟨a, ha⟩ : ∃ a : Int, a = (n : Int) := ⟨_, rfl⟩
        obtain ⟨m, hm⟩ : ∃ m : Int, m = -a := ⟨_, rfl⟩
        have HK := Lib.hid (show wrap64 (-a) = m by rw [hm]; exact w64 _ (by omega))
        unfold numR at HN
        simp only [Option.getD_some, Option.isSome_some] at HN
        rw [← ha] at HN ⊢
        rw [← hm]
        clear hn ha hm
        go_enter Tryd.func34, Tryd.ntmps34
        go_wp2_with (first
          | (go_at_call 33; (with_reducible refine (HT.out _).mono ?_); rintro e w1 ⟨rfl, hb1⟩; have HB1 := Lib.hid (later_of_below hb1); clear hb1)
          | (go_at_call 45; (with_reducible refine (HC.out _).mono ?_); rintro e w2 ⟨rfl, rfl⟩)
          | (go_at_call 46; (with_reducible refine (HN.out _ (HVD.out.later HB1.out)).mono ?_); rintro e w3 ⟨rfl, hl3⟩))
        go_ret2
        rw [← HK.out]
        exact ⟨rfl, HB1.out.trans hl3⟩
    | false =>
      rw [hm] at hcut
      simp only [Bool.false_eq_true, if_false]
      obtain ⟨d, hd⟩ : ∃ d, d = Lib.trimPrefix t [43] := ⟨_, rfl⟩
      have hdl := len [43]
      rw [← hd] at htp hdl ⊢
      have HN := Lib.hid (fun W => num_v d (by omega) W)
      obtain ⟨d2, hd2⟩ : ∃ d2, d2 = Lib.trimPrefix t [45] := ⟨_, rfl⟩
      rw [← hd2] at hcut
      obtain ⟨r, hr⟩ : ∃ r, r = num d := ⟨_, rfl⟩
      rw [← hr] at HN ⊢
      have HC := Lib.hid (show ∀ W, Calls Tryd.prog 45 #[.string (mkS t), .string ⟨#[45]⟩] W fun e W' => e = .returned (.tuple #[.string (mkS d2), .bool false]) ∧ W' = W from hcut)
      have HTP := Lib.hid (show ∀ W, Calls Tryd.prog 47 #[.string (mkS t), .string ⟨#[43]⟩] W fun e W' => e = .returned (.string (mkS d)) ∧ W' = W from htp)
      clear ht hl ht4 hm hcut htp len hd hd2 h0 hdl hr
      obtain ⟨a, ha⟩ : ∃ a : Int, a = ((r.getD 0 : Nat) : Int) := ⟨_, rfl⟩
      obtain ⟨ok, hok⟩ : ∃ ok : Bool, ok = r.isSome := ⟨_, rfl⟩
      have HR := Lib.hid (show numI (r.map fun n : Nat => (n : Int)) = .tuple #[.int .i64 a, .bool ok] by rw [ha, hok]; cases r <;> rfl)
      unfold numR at HN
      rw [← ha, ← hok] at HN
      rw [HR.out]
      clear HR ha hok
      go_enter Tryd.func34, Tryd.ntmps34
      go_wp2_with (first
        | (go_at_call 33; (with_reducible refine (HT.out _).mono ?_); rintro e w1 ⟨rfl, hb1⟩; have HB1 := Lib.hid (later_of_below hb1); clear hb1)
        | (go_at_call 45; (with_reducible refine (HC.out _).mono ?_); rintro e w2 ⟨rfl, rfl⟩)
        | (go_at_call 47; (with_reducible refine (HTP.out _).mono ?_); rintro e w2 ⟨rfl, rfl⟩)
        | (go_at_call 46; (with_reducible refine (HN.out _ (HVD.out.later HB1.out)).mono ?_); rintro e w3 ⟨rfl, hl3⟩))
      go_ret2
      exact ⟨rfl, HB1.out.trans hl3⟩
/-- A text with a byte at least that is no blank, as a number. -/
def tnum (l : L) : Option Int := if trim l = [] then none else numV l
set_option maxHeartbeats 1600000 in
set_option maxRecDepth 100000 in
theorem tnum_v (l : L) (hl : l.length ≤ 2000000) (W : World) (hvd : Vd W) : Calls Tryd.prog 30 #[.string (mkS l)] W fun e W' => e = .returned (numI (tnum l)) ∧ Later W W' := by
  have HT := Lib.hid (trim_v l hl)
  have HN := Lib.hid (fun W => numV_v l hl W)
  have HVD := Lib.hid hvd
  clear hvd hl
  unfold tnum
  by_cases h0 : trim l = []
  · rw [if_pos h0]
    rw [h0] at HT
    clear h0
    have he : ((mkS []).toList == ([] : List UInt8)) = true := by rw [toList_mkS]; rfl
    go_enter Tryd.func30, Tryd.ntmps30
    go_wp2_with (go_at_call 33; (with_reducible refine (HT.out _).mono ?_); rintro e w1 ⟨rfl, hb1⟩)
    go_ret2
    exact ⟨rfl, later_of_below hb1⟩
  · rw [if_neg h0]
    have he : ((mkS (trim l)).toList == ([] : List UInt8)) = false := by rw [toList_mkS]; exact beq_eq_false_iff_ne.2 h0
    obtain ⟨t, htt⟩ : ∃ t, t = trim l := ⟨_, rfl⟩
    rw [← htt] at HT he
    obtain ⟨r, hr⟩ : ∃ r, r = numV l := ⟨_, rfl⟩
    rw [← hr] at HN ⊢
    unfold numI at HN ⊢
    obtain ⟨a, ha⟩ : ∃ a : Int, a = r.getD 0 := ⟨_, rfl⟩
    obtain ⟨ok, hok⟩ : ∃ ok : Bool, ok = r.isSome := ⟨_, rfl⟩
    rw [← ha, ← hok] at HN ⊢
    clear htt h0 hr ha hok
    go_enter Tryd.func30, Tryd.ntmps30
    go_wp2_with (first
      | (go_at_call 33; (with_reducible refine (HT.out _).mono ?_); rintro e w1 ⟨rfl, hb1⟩; have HB1 := Lib.hid (later_of_below hb1); clear hb1)
      | (go_at_call 34; (with_reducible refine (HN.out _ (HVD.out.later HB1.out)).mono ?_); rintro e w3 ⟨rfl, hl3⟩))
    go_ret2
    exact ⟨rfl, HB1.out.trans hl3⟩
end Ar
end Go.Proofs.YtjidclefpmcgoaaDoor
