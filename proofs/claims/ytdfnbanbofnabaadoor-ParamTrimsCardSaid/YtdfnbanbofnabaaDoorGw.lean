/- The document's own answers: quoted, Is, member, End, in. No premises. -/
import Derived.Test.YtdfnbanbofnabaaDoorGr
namespace Go.Proofs.YtdfnbanbofnabaaDoor
open Go.RowKit Go.Maps
namespace Gl
/-- Where the document says a set ends. -/
def endOf (t m : L) (i : Nat) : Int := match close t m (fst t m i + 1) with
  | none => -1
  | some e => (e : Int) + 1
end Gl
namespace Gr
open Gs
set_option maxRecDepth 100000 in
theorem quoted_v (m : L) (i : Nat) (w : World) : Calls Tryd.prog 46 #[.string (mkS m), .int .i64 (i : Int)] w fun e w' => e = .returned (.bool (m[i]? == some 113)) ∧ w' = w := by
  have hsm : (mkS m).size = m.length := mkS_size m
  go_enter Tryd.func46, Tryd.ntmps46
  go_wp2
  all_goals
    go_ret
    refine ⟨ret_bool ?_, rfl⟩
    first
      | rw [is_in m i 113 (by omega)]
      | rw [is_out m i 113 (by omega)]
    try simp_all
set_option maxRecDepth 100000 in
theorem Is_v (t m : L) (i : Nat) (c : UInt8) (w : World) : Calls Tryd.prog 37 #[.string (mkS t), .string (mkS m), .int .i64 (i : Int), .int .u8 (c.toNat : Int)] w fun e w' => e = .returned (.bool (Gl.isAt t m i c)) ∧ w' = w := by
  have hst : (mkS t).size = t.length := mkS_size t
  have HQ := Lib.hid (quoted_v m i w)
  obtain ⟨q, hq⟩ : ∃ q, q = (m[i]? == some 113) := ⟨_, rfl⟩
  rw [← hq] at HQ
  have HQQ := Lib.hid (show Gl.isAt t m i c = ((t[i]? == some c) && !q) by rw [hq]; rfl)
  clear hq
  go_enter Tryd.func37, Tryd.ntmps37
  go_wp2_with (first
    | (go_at_call 46; (with_reducible refine HQ.out.mono ?_); rintro e w1 ⟨rfl, hw⟩; subst hw))
  all_goals
    go_ret
    refine ⟨ret_bool ?_, rfl⟩
    rw [HQQ.out]
    first
      | rw [is_in t i c (by omega)]
      | rw [is_out t i c (by omega)]
    try simp_all
set_option maxRecDepth 100000 in
theorem member_v (t m : L) (k : Nat) (w : World) (hk : k ≤ 100000) (_ht : t.length ≤ 100000) : Calls Tryd.prog 47 #[.string (mkS t), .string (mkS m), .int .i64 (k : Int)] w fun e w' => e = .returned (.int .i64 (Gl.mb t m k : Int)) ∧ w' = w := by
  have hsi : ((mkS t).size : Int) = (t.length : Int) := by rw [mkS_size]
  have h1 : ∀ W, Calls Tryd.prog 37 #[.string (mkS t), .string (mkS m), .int .i64 ((k : Int) + 1), .int .u8 45] W fun e w' => e = .returned (.bool (Gl.isAt t m (k + 1) 45)) ∧ w' = W := Is_v t m (k + 1) 45
  have h2 : ∀ W, Calls Tryd.prog 37 #[.string (mkS t), .string (mkS m), .int .i64 ((k : Int) + 2), .int .u8 93] W fun e w' => e = .returned (.bool (Gl.isAt t m (k + 2) 93)) ∧ w' = W := Is_v t m (k + 2) 93
  obtain ⟨a, ha⟩ : ∃ a, a = Gl.isAt t m (k + 1) 45 := ⟨_, rfl⟩
  obtain ⟨b, hb⟩ : ∃ b, b = Gl.isAt t m (k + 2) 93 := ⟨_, rfl⟩
  rw [← ha] at h1
  rw [← hb] at h2
  have HM := Lib.hid (show Gl.mb t m k = if a = true ∧ k + 2 < t.length ∧ b = false then k + 3 else k + 1 by rw [ha, hb]; rfl)
  have H1 := Lib.hid h1
  have H2 := Lib.hid h2
  clear h1 h2 ha hb
  by_cases hc : a = true ∧ k + 2 < t.length ∧ b = false
  · have HN := Lib.hid (show Gl.mb t m k = k + 3 by rw [HM.out, if_pos hc])
    obtain ⟨rfl, hkt, rfl⟩ := hc
    have hkt2 : (k : Int) + 2 < (t.length : Int) := by omega
    go_enter Tryd.func47, Tryd.ntmps47
    go_wp2_with (first
      | (go_at_call 37; (with_reducible refine (H1.out _).mono ?_); rintro e w1 ⟨rfl, hw⟩; subst hw)
      | (go_at_call 37; (with_reducible refine (H2.out _).mono ?_); rintro e w2 ⟨rfl, hw⟩; subst hw))
    go_ret
    exact ⟨ret_int (by rw [HN.out]; simp), rfl⟩
  · have HN := Lib.hid (show Gl.mb t m k = k + 1 by rw [HM.out, if_neg hc])
    have hc2 : a = true → b = false → ¬ ((k : Int) + 2 < (t.length : Int)) := fun ha hb h => hc ⟨ha, by omega, hb⟩
    clear hc
    cases a with
    | false =>
      clear hc2
      go_enter Tryd.func47, Tryd.ntmps47
      go_wp2_with (first
        | (go_at_call 37; (with_reducible refine (H1.out _).mono ?_); rintro e w1 ⟨rfl, hw⟩; subst hw)
        | (go_at_call 37; (with_reducible refine (H2.out _).mono ?_); rintro e w2 ⟨rfl, hw⟩; subst hw))
      go_ret
      exact ⟨ret_int (by rw [HN.out]; simp), rfl⟩
    | true =>
      cases b with
      | true =>
        clear hc2
        go_enter Tryd.func47, Tryd.ntmps47
        go_wp2_with (first
          | (go_at_call 37; (with_reducible refine (H1.out _).mono ?_); rintro e w1 ⟨rfl, hw⟩; subst hw)
          | (go_at_call 37; (with_reducible refine (H2.out _).mono ?_); rintro e w2 ⟨rfl, hw⟩; subst hw))
        all_goals
          go_ret
          exact ⟨ret_int (by rw [HN.out]; simp), rfl⟩
      | false =>
        have hc3 := hc2 rfl rfl
        clear hc2
        go_enter Tryd.func47, Tryd.ntmps47
        go_wp2_with (first
          | (go_at_call 37; (with_reducible refine (H1.out _).mono ?_); rintro e w1 ⟨rfl, hw⟩; subst hw)
          | (go_at_call 37; (with_reducible refine (H2.out _).mono ?_); rintro e w2 ⟨rfl, hw⟩; subst hw))
        go_ret
        exact ⟨ret_int (by rw [HN.out]; simp), rfl⟩
set_option maxRecDepth 100000 in
set_option maxHeartbeats 1600000 in
theorem End_v (t m : L) (i : Nat) (w : World) (hi : i < t.length) (ht : t.length ≤ 4096) : Calls Tryd.prog 38 #[.string (mkS t), .string (mkS m), .int .i64 (i : Int)] w fun e w' => e = .returned (.int .i64 (Gl.endOf t m i)) ∧ w' = w := by
  have hsi : ((mkS t).size : Int) = (t.length : Int) := by rw [mkS_size]
  have h1 : ∀ W, Calls Tryd.prog 37 #[.string (mkS t), .string (mkS m), .int .i64 ((i : Int) + 1), .int .u8 33] W fun e w' => e = .returned (.bool (Gl.isAt t m (i + 1) 33)) ∧ w' = W := Is_v t m (i + 1) 33
  have h93 : ∀ (k : Nat) W, Calls Tryd.prog 37 #[.string (mkS t), .string (mkS m), .int .i64 (k : Int), .int .u8 93] W fun e w' => e = .returned (.bool (Gl.isAt t m k 93)) ∧ w' = W := fun k => Is_v t m k 93
  have HK := Lib.hid h93
  have HME := Lib.hid (fun (k : Nat) (hk : k ≤ 100000) W => member_v t m k W hk (by omega))
  have hff : Gl.fst t m i = if Gl.isAt t m (i + 1) 33 = true then i + 2 else i + 1 := rfl
  have hE : Gl.endOf t m i = match Gl.close t m (Gl.fst t m i + 1) with | none => -1 | some e => (e : Int) + 1 := rfl
  obtain ⟨f, hf⟩ : ∃ f, f = Gl.fst t m i := ⟨_, rfl⟩
  rw [← hf] at hff hE
  have HE := Lib.hid hE
  have HMF := Lib.hid (member_v t m f w (by rw [hf]; have := Gl.fst_gt t m i; omega) (by omega))
  have HF := Lib.hid (show f ≤ i + 2 by rw [hf]; exact (Gl.fst_gt t m i).2)
  clear h93 hE hf
  cases hb : Gl.isAt t m (i + 1) 33 with
  | false =>
    rw [hb] at hff h1
    have hff : f = i + 1 := hff
    subst hff
    have H1 := Lib.hid h1
    have HM1 := Lib.hid (show Calls Tryd.prog 47 #[.string (mkS t), .string (mkS m), .int .i64 ((i : Int) + 1)] w fun e w' => e = .returned (.int .i64 (Gl.mb t m (i + 1) : Int)) ∧ w' = w from HMF.out)
    have HGT := Lib.hid (Gl.mb_gt t m (i + 1))
    have HC0 := Lib.hid (Gl.close_mb t m (i + 1))
    clear h1 hb
    obtain ⟨k0, hk0⟩ : ∃ k0, k0 = Gl.mb t m (i + 1) := ⟨_, rfl⟩
    rw [← hk0] at HM1 HGT HC0
    clear hk0
    go_enter Tryd.func38, Tryd.ntmps38
    go_wp2_with (first
      | (go_at_call 37; (with_reducible refine (H1.out _).mono ?_); rintro e w1 ⟨rfl, hw⟩; subst hw)
      | (go_at_call 47; (with_reducible refine HM1.out.mono ?_); rintro e w2 ⟨rfl, hw⟩; subst hw))
    go_loopw [7] (fun s7 wr => ∃ k : Nat, s7 = .int .i64 (k : Int) ∧ k ≤ t.length + 5 ∧ Gl.close t m k = Gl.close t m (i + 1 + 1) ∧ wr = w2) (fun i _ => t.length + 6 - (intOf i).toNat)
    case atStart => exact ⟨k0, rfl, by have := HGT.out; omega, HC0.out, rfl⟩
    case round =>
      obtain ⟨k, rfl, hk, hck, hw⟩ := hrel
      subst hw
      have HCK := Lib.hid hck
      clear hck
      by_cases hkt : k < t.length
      · have hkt2 : (k : Int) < (t.length : Int) := by omega
        have hk93 := HK.out k
        cases hb : Gl.isAt t m k 93 with
        | true =>
          rw [hb] at hk93
          have HK2 := Lib.hid hk93
          have HFIN := Lib.hid (show Gl.endOf t m i = (k : Int) + 1 by rw [HE.out, ← HCK.out, Gl.close_hit hb])
          clear hk93 hb
          go_wp2_with (first
            | (go_at_call 37; (with_reducible refine (HK2.out _).mono ?_); rintro e w3 ⟨rfl, hw⟩; subst hw))
          go_ret
          exact ⟨ret_int (by rw [HFIN.out]), rfl⟩
        | false =>
          rw [hb] at hk93
          have HK2 := Lib.hid hk93
          have HB := Lib.hid hb
          have HMK := Lib.hid (HME.out k (by omega))
          have HGK := Lib.hid (Gl.mb_gt t m k)
          have HCM := Lib.hid (Gl.close_mb t m k)
          obtain ⟨k1, hk1⟩ : ∃ k1, k1 = Gl.mb t m k := ⟨_, rfl⟩
          rw [← hk1] at HMK HGK HCM
          clear hk93 hb hk1
          go_wp2_with (first
            | (go_at_call 37; (with_reducible refine (HK2.out _).mono ?_); rintro e w3 ⟨rfl, hw⟩; subst hw)
            | (go_at_call 47; (with_reducible refine (HMK.out _).mono ?_); rintro e w4 ⟨rfl, hw⟩; subst hw))
          go_roundw
          case rel =>
            refine ⟨k1, rfl, by have := HGK.out; omega, ?_, trivial⟩
            rw [HCM.out, ← Gl.close_skip HB.out, HCK.out]
          case measure => have := HGK.out; simp [intOf]; omega
      · have hkt2 : ¬ ((k : Int) < (t.length : Int)) := by omega
        have HFIN := Lib.hid (show Gl.endOf t m i = -1 by rw [HE.out, ← HCK.out, Gl.close_end (by omega)])
        go_wp2
        go_ret
        exact ⟨ret_int (by rw [HFIN.out]), rfl⟩
  | true =>
    rw [hb] at hff h1
    have hff : f = i + 2 := hff
    subst hff
    have H1 := Lib.hid h1
    have HM1 := Lib.hid (show Calls Tryd.prog 47 #[.string (mkS t), .string (mkS m), .int .i64 ((i : Int) + 1 + 1)] w fun e w' => e = .returned (.int .i64 (Gl.mb t m (i + 2) : Int)) ∧ w' = w from HMF.out)
    have HGT := Lib.hid (Gl.mb_gt t m (i + 2))
    have HC0 := Lib.hid (Gl.close_mb t m (i + 2))
    clear h1 hb
    obtain ⟨k0, hk0⟩ : ∃ k0, k0 = Gl.mb t m (i + 2) := ⟨_, rfl⟩
    rw [← hk0] at HM1 HGT HC0
    clear hk0
    go_enter Tryd.func38, Tryd.ntmps38
    go_wp2_with (first
      | (go_at_call 37; (with_reducible refine (H1.out _).mono ?_); rintro e w1 ⟨rfl, hw⟩; subst hw)
      | (go_at_call 47; (with_reducible refine HM1.out.mono ?_); rintro e w2 ⟨rfl, hw⟩; subst hw))
    go_loopw [7] (fun s7 wr => ∃ k : Nat, s7 = .int .i64 (k : Int) ∧ k ≤ t.length + 5 ∧ Gl.close t m k = Gl.close t m (i + 2 + 1) ∧ wr = w2) (fun i _ => t.length + 6 - (intOf i).toNat)
    case atStart => exact ⟨k0, rfl, by have := HGT.out; omega, HC0.out, rfl⟩
    case round =>
      obtain ⟨k, rfl, hk, hck, hw⟩ := hrel
      subst hw
      have HCK := Lib.hid hck
      clear hck
      by_cases hkt : k < t.length
      · have hkt2 : (k : Int) < (t.length : Int) := by omega
        have hk93 := HK.out k
        cases hb : Gl.isAt t m k 93 with
        | true =>
          rw [hb] at hk93
          have HK2 := Lib.hid hk93
          have HFIN := Lib.hid (show Gl.endOf t m i = (k : Int) + 1 by rw [HE.out, ← HCK.out, Gl.close_hit hb])
          clear hk93 hb
          go_wp2_with (first
            | (go_at_call 37; (with_reducible refine (HK2.out _).mono ?_); rintro e w3 ⟨rfl, hw⟩; subst hw))
          go_ret
          exact ⟨ret_int (by rw [HFIN.out]), rfl⟩
        | false =>
          rw [hb] at hk93
          have HK2 := Lib.hid hk93
          have HB := Lib.hid hb
          have HMK := Lib.hid (HME.out k (by omega))
          have HGK := Lib.hid (Gl.mb_gt t m k)
          have HCM := Lib.hid (Gl.close_mb t m k)
          obtain ⟨k1, hk1⟩ : ∃ k1, k1 = Gl.mb t m k := ⟨_, rfl⟩
          rw [← hk1] at HMK HGK HCM
          clear hk93 hb hk1
          go_wp2_with (first
            | (go_at_call 37; (with_reducible refine (HK2.out _).mono ?_); rintro e w3 ⟨rfl, hw⟩; subst hw)
            | (go_at_call 47; (with_reducible refine (HMK.out _).mono ?_); rintro e w4 ⟨rfl, hw⟩; subst hw))
          go_roundw
          case rel =>
            refine ⟨k1, rfl, by have := HGK.out; omega, ?_, trivial⟩
            rw [HCM.out, ← Gl.close_skip HB.out, HCK.out]
          case measure => have := HGK.out; simp [intOf]; omega
      · have hkt2 : ¬ ((k : Int) < (t.length : Int)) := by omega
        have HFIN := Lib.hid (show Gl.endOf t m i = -1 by rw [HE.out, ← HCK.out, Gl.close_end (by omega)])
        go_wp2
        go_ret
        exact ⟨ret_int (by rw [HFIN.out]), rfl⟩
end Gr
end Go.Proofs.YtdfnbanbofnabaaDoor
