/- Signs in memory; the methods 'set' and 'sign'. No premises. -/
import Derived.Test.YtdfnbanbofnabaaDoorGb
namespace Go.Proofs.YtdfnbanbofnabaaDoor
open Go.RowKit Go.Maps
theorem own_low {w : World} {base b0 size n : Nat} {e : TypeId} {v : Value} {xs : List Value} (h : w.ownsRow base e size v n xs) (hb : b0 ≤ base) : w.ownsRow b0 e size v n xs := by
  refine ⟨h.1, ?_⟩
  rcases h.2 with h0 | ⟨g, cap, cur, h1, h2, h3⟩
  · exact .inl h0
  · exact .inr ⟨g, cap, cur, h1, Nat.le_trans hb h2, h3⟩
namespace Gs
/-- A sign as it lies in memory. -/
inductive Sv where
  | star : Sv
  | one : Sv
  | lit (b : UInt8) : Sv
  | set (t : Bool) (v : Value) (ms : List (UInt8 × UInt8)) : Sv
def Sv.enc : Sv → Value
  | .star => .iface 58 (.agg #[])
  | .one => .iface 69 (.agg #[])
  | .lit b => .iface 70 (.int .u8 (b.toNat : Int))
  | .set t v _ => .iface 86 (.agg #[.bool t, v])
def Sv.sg : Sv → Gl.Sg
  | .star => .star
  | .one => .one
  | .lit b => .lit b
  | .set t _ ms => .set t ms
def Sv.ok (w : World) : Sv → Prop
  | .set _ v ms => ms ≠ [] ∧ w.ownsRow 0 90 2 v ms.length (ms2 ms)
  | _ => True
theorem Sv.one_ (x : Sv) : x.enc.oneCell' = true := by cases x <;> rfl
theorem Sv.ok.later {w w' : World} {x : Sv} (h : x.ok w) (hl : Later w w') : x.ok w' := by
  cases x with
  | set t v ms => exact ⟨h.1, own_below h.2 hl⟩
  | _ => trivial
set_option maxRecDepth 100000 in
set_option maxHeartbeats 1600000 in
theorem set_v (t m : L) (i n : Nat) (w : World) (hn : Gl.Last t m n) (hi : Gl.isAt t m i 91 = true) (ht : t.length ≤ 4096) : Calls Tryd.prog 36 #[.agg #[.string (mkS t), .string (mkS m)], .int .i64 (i : Int), .int .i64 ((n : Int) - 1)] w fun r w' => ∃ x : Sv, r = .returned (.tuple #[x.enc, .int .i64 ((Gl.sgAt t m i).2 : Int)]) ∧ x.sg = (Gl.sgAt t m i).1 ∧ x.ok w' ∧ Later w w' := by
  have h42 : Gl.isAt t m i 42 = false := by cases h : Gl.isAt t m i 42 with | false => rfl | true => exact absurd (Gl.isAt_one hi h) (by decide)
  have h63 : Gl.isAt t m i 63 = false := by cases h : Gl.isAt t m i 63 with | false => rfl | true => exact absurd (Gl.isAt_one hi h) (by decide)
  have hil := Gl.isAt_lt hi
  have hnl := hn.1
  have hfst := Gl.fst_gt t m i
  have hsg : Gl.sgAt t m i = match Gl.close t m (Gl.fst t m i + 1) with
    | none => (.lit 91, i + 1)
    | some e => (.set (Gl.isAt t m (i + 1) 33) (Gl.mems t m (Gl.fst t m i) e), e + 1) := by
    unfold Gl.sgAt
    rw [h42, h63, hi]
    rfl
  have hff : Gl.fst t m i = if Gl.isAt t m (i + 1) 33 = true then i + 2 else i + 1 := rfl
  have hi1 : ∀ W, Calls Tryd.prog 26 #[.agg #[.string (mkS t), .string (mkS m)], .int .i64 ((i : Int) + 1), .int .u8 33] W fun e w' => e = .returned (.bool (Gl.isAt t m (i + 1) 33)) ∧ Later W w' := is_v t m (i + 1) 33
  have hL := Later.alloc w (.cells #[.string (mkS t), .string (mkS m)] 29)
  have hbx := Box.new w t m
  obtain ⟨f, hf⟩ : ∃ f, f = Gl.fst t m i := ⟨_, rfl⟩
  rw [← hf] at hsg hfst hff
  cases hc : Gl.close t m (f + 1) with
  | none =>
    rw [hc] at hsg
    have hnf : n ≤ f + 1 := by
      by_cases h : f + 1 < n
      · obtain ⟨e, he, _⟩ := Gl.last_some hn h
        rw [hc] at he; cases he
      · omega
    have HS := Lib.hid hsg
    have HL := Lib.hid hL
    cases hb : Gl.isAt t m (i + 1) 33 with
    | false =>
      rw [hb] at hff hi1
      have hff : f = i + 1 := hff
      have h1 : (n : Int) - 1 ≤ (i : Int) + 1 := by omega
      have HI1 := Lib.hid hi1
      clear hsg hL hi1 hff hfst hf hc hbx hn hi h42 h63 hb
      go_enter Tryd.func36, Tryd.ntmps36
      go_wp2_with (first
        | (go_at_call 26; (with_reducible refine (HI1.out _).mono ?_); rintro e w2 ⟨rfl, hl2⟩; have HL2 := Lib.hid hl2; clear hl2))
      go_ret2
      exact ⟨.lit 91, by rw [HS.out]; rfl, by rw [HS.out]; rfl, trivial, HL.out.trans HL2.out⟩
    | true =>
      rw [hb] at hff hi1
      have hff : f = i + 2 := hff
      have h1 : (n : Int) - 1 ≤ (i : Int) + 1 + 1 := by omega
      have HI1 := Lib.hid hi1
      clear hsg hL hi1 hff hfst hf hc hbx hn hi h42 h63 hb
      go_enter Tryd.func36, Tryd.ntmps36
      go_wp2_with (first
        | (go_at_call 26; (with_reducible refine (HI1.out _).mono ?_); rintro e w2 ⟨rfl, hl2⟩; have HL2 := Lib.hid hl2; clear hl2))
      go_ret2
      exact ⟨.lit 91, by rw [HS.out]; rfl, by rw [HS.out]; rfl, trivial, HL.out.trans HL2.out⟩
  | some e =>
    rw [hc] at hsg
    obtain ⟨g1, g2, g3⟩ := Gl.close_some.1 hc
    have he := Gl.isAt_lt g2
    have hen : e < n := by
      by_cases h : e < n
      · exact h
      · have := hn.2.2 e (by omega)
        rw [g2] at this; cases this
    have hIK : ∀ (k : Nat) W, Calls Tryd.prog 26 #[.agg #[.string (mkS t), .string (mkS m)], .int .i64 (k : Int), .int .u8 93] W fun e w' => e = .returned (.bool (Gl.isAt t m k 93)) ∧ Later W w' := fun k => is_v t m k 93
    have hMB := fun W => members_v t m f e W (by omega) he ht
    have HS := Lib.hid hsg
    have HL := Lib.hid hL
    have HBX := Lib.hid hbx
    have HNE0 := Lib.hid (show Gl.mems t m f e ≠ [] by rw [(Gl.mb_mems hc (Nat.le_refl f) (by omega)).1]; exact List.cons_ne_nil _ _)
    have HIK := Lib.hid hIK
    have H2 := Lib.hid g2
    have H3 := Lib.hid g3
    cases hb : Gl.isAt t m (i + 1) 33 with
    | false =>
      rw [hb] at hff hi1
      rw [hb] at hsg
      have HS := Lib.hid hsg
      have hff : f = i + 1 := hff
      subst hff
      have h1 : ¬ ((n : Int) - 1 ≤ (i : Int) + 1) := by omega
      have HI1 := Lib.hid hi1
      have HMB := Lib.hid (show ∀ W, Calls Tryd.prog 45 #[.agg #[.string (mkS t), .string (mkS m)], .int .i64 ((i : Int) + 1), .int .i64 (e : Int)] W _ from hMB)
      clear hsg hL hi1 hfst hf hc hbx hn hi h42 h63 hb hIK hMB g2 g3
      go_enter Tryd.func36, Tryd.ntmps36
      go_wp2_with (first
        | (go_at_call 26; (with_reducible refine (HI1.out _).mono ?_); rintro e w2 ⟨rfl, hl2⟩; (have HL2 := Lib.hid (HL.out.trans hl2)); (have HB2 := Lib.hid (HBX.out.later hl2)); clear hl2))
      go_loopw [10] (fun s10 wr => ∃ k : Nat, s10 = .int .i64 (k : Int) ∧ i + 2 ≤ k ∧ k ≤ e ∧ Later w wr ∧ Box wr w.heap.size t m) (fun i _ => e + 1 - (intOf i).toNat)
      case atStart => exact ⟨i + 2, by go_num, by omega, by omega, HL2.out, HB2.out⟩
      case round =>
        obtain ⟨k, rfl, hk1, hk2, hlr, hbr⟩ := hrel
        obtain ⟨c0, c1⟩ := hbr.cells
        have HLR := Lib.hid hlr
        have HBR := Lib.hid hbr
        have hgs : w.heap.size < wr.heap.size := lt_of_block hbr
        clear hlr hbr
        by_cases hke : k < e
        · have hik := HIK.out k
          rw [H3.out k (by omega) hke] at hik
          have HIK2 := Lib.hid hik
          clear hik
          go_wp2_with (first
            | (go_at_call 26; (with_reducible refine (HIK2.out _).mono ?_); rintro e w3 ⟨rfl, hl3⟩; (have HL3 := Lib.hid (HLR.out.trans hl3)); (have HB3 := Lib.hid (HBR.out.later hl3)); clear hl3 c0 c1))
          go_roundw
          case rel => exact ⟨k + 1, by go_num, by omega, by omega, HL3.out, HB3.out⟩
          case measure => simp [intOf]; omega
        · have hke2 : k = e := by omega
          subst hke2
          have hik := HIK.out k
          rw [H2.out] at hik
          have HNE := Lib.hid HNE0.out
          have HIK2 := Lib.hid hik
          clear hik
          go_wp2_with (first
            | (go_at_call 26; (with_reducible refine (HIK2.out _).mono ?_); rintro e w3 ⟨rfl, hl3⟩; (have HL3 := Lib.hid (HLR.out.trans hl3)); obtain ⟨d0, d1⟩ := (HBR.out.later hl3).cells; clear hl3 c0 c1)
            | (go_at_call 45; (with_reducible refine (HMB.out _).mono ?_); rintro e w4 ⟨v, rfl, hv, hl4⟩; obtain ⟨qn, hqn⟩ : ∃ q, q = (Gl.mems t m (i + 1) k).length := ⟨_, rfl⟩; rw [← hqn] at hv; obtain ⟨A1, cc1, rfl, _⟩ := own_any hv; (have HQ := Lib.hid hqn); clear hqn; (have HL4 := Lib.hid (HL3.out.trans hl4)); (have HV := Lib.hid hv); clear hv hl4))
          go_ret2
          exact ⟨.set false (.slice A1 qn cc1) (Gl.mems t m (i + 1) k), by rw [HS.out]; rfl, by rw [HS.out]; rfl, ⟨HNE.out, own_low (by have := HV.out; rw [HQ.out] at this ⊢; exact this) (Nat.zero_le _)⟩, HL4.out⟩
    | true =>
      rw [hb] at hff hi1
      rw [hb] at hsg
      have HS := Lib.hid hsg
      have hff : f = i + 2 := hff
      subst hff
      have h1 : ¬ ((n : Int) - 1 ≤ (i : Int) + 1 + 1) := by omega
      have HI1 := Lib.hid hi1
      have HMB := Lib.hid (show ∀ W, Calls Tryd.prog 45 #[.agg #[.string (mkS t), .string (mkS m)], .int .i64 ((i : Int) + 1 + 1), .int .i64 (e : Int)] W _ from hMB)
      clear hsg hL hi1 hfst hf hc hbx hn hi h42 h63 hb hIK hMB g2 g3
      go_enter Tryd.func36, Tryd.ntmps36
      go_wp2_with (first
        | (go_at_call 26; (with_reducible refine (HI1.out _).mono ?_); rintro e w2 ⟨rfl, hl2⟩; (have HL2 := Lib.hid (HL.out.trans hl2)); (have HB2 := Lib.hid (HBX.out.later hl2)); clear hl2))
      go_loopw [10] (fun s10 wr => ∃ k : Nat, s10 = .int .i64 (k : Int) ∧ i + 3 ≤ k ∧ k ≤ e ∧ Later w wr ∧ Box wr w.heap.size t m) (fun i _ => e + 1 - (intOf i).toNat)
      case atStart => exact ⟨i + 3, by go_num, by omega, by omega, HL2.out, HB2.out⟩
      case round =>
        obtain ⟨k, rfl, hk1, hk2, hlr, hbr⟩ := hrel
        obtain ⟨c0, c1⟩ := hbr.cells
        have HLR := Lib.hid hlr
        have HBR := Lib.hid hbr
        have hgs : w.heap.size < wr.heap.size := lt_of_block hbr
        clear hlr hbr
        by_cases hke : k < e
        · have hik := HIK.out k
          rw [H3.out k (by omega) hke] at hik
          have HIK2 := Lib.hid hik
          clear hik
          go_wp2_with (first
            | (go_at_call 26; (with_reducible refine (HIK2.out _).mono ?_); rintro e w3 ⟨rfl, hl3⟩; (have HL3 := Lib.hid (HLR.out.trans hl3)); (have HB3 := Lib.hid (HBR.out.later hl3)); clear hl3 c0 c1))
          go_roundw
          case rel => exact ⟨k + 1, by go_num, by omega, by omega, HL3.out, HB3.out⟩
          case measure => simp [intOf]; omega
        · have hke2 : k = e := by omega
          subst hke2
          have hik := HIK.out k
          rw [H2.out] at hik
          have HNE := Lib.hid HNE0.out
          have HIK2 := Lib.hid hik
          clear hik
          go_wp2_with (first
            | (go_at_call 26; (with_reducible refine (HIK2.out _).mono ?_); rintro e w3 ⟨rfl, hl3⟩; (have HL3 := Lib.hid (HLR.out.trans hl3)); obtain ⟨d0, d1⟩ := (HBR.out.later hl3).cells; clear hl3 c0 c1)
            | (go_at_call 45; (with_reducible refine (HMB.out _).mono ?_); rintro e w4 ⟨v, rfl, hv, hl4⟩; obtain ⟨qn, hqn⟩ : ∃ q, q = (Gl.mems t m (i + 2) k).length := ⟨_, rfl⟩; rw [← hqn] at hv; obtain ⟨A1, cc1, rfl, _⟩ := own_any hv; (have HQ := Lib.hid hqn); clear hqn; (have HL4 := Lib.hid (HL3.out.trans hl4)); (have HV := Lib.hid hv); clear hv hl4))
          go_ret2
          exact ⟨.set true (.slice A1 qn cc1) (Gl.mems t m (i + 2) k), by rw [HS.out]; rfl, by rw [HS.out]; rfl, ⟨HNE.out, own_low (by have := HV.out; rw [HQ.out] at this ⊢; exact this) (Nat.zero_le _)⟩, HL4.out⟩
end Gs
end Go.Proofs.YtdfnbanbofnabaaDoor
