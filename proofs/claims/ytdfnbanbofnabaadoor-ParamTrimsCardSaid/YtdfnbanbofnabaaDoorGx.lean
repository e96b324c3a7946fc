/- The document's 'in': is a byte one of a set's? No premises. -/
import Derived.Test.YtdfnbanbofnabaaDoorGw
namespace Go.Proofs.YtdfnbanbofnabaaDoor
open Go.RowKit Go.Maps
namespace Gr
open Gs
set_option maxRecDepth 100000 in
set_option maxHeartbeats 1600000 in
theorem in_v (t m : L) (i e : Nat) (c : UInt8) (w : World) (hc : Gl.close t m (Gl.fst t m i + 1) = some e) (ht : t.length ≤ 4096) : Calls Tryd.prog 39 #[.string (mkS t), .string (mkS m), .int .i64 (i : Int), .int .i64 ((e : Int) + 1), .int .u8 (c.toNat : Int)] w fun r w' => r = .returned (.bool (Gl.tk (.set (Gl.isAt t m (i + 1) 33) (Gl.mems t m (Gl.fst t m i) e)) c)) ∧ w' = w := by
  have hsi : ((mkS t).size : Int) = (t.length : Int) := by rw [mkS_size]
  have h1 : ∀ W, Calls Tryd.prog 37 #[.string (mkS t), .string (mkS m), .int .i64 ((i : Int) + 1), .int .u8 33] W fun e w' => e = .returned (.bool (Gl.isAt t m (i + 1) 33)) ∧ w' = W := Is_v t m (i + 1) 33
  have HME := Lib.hid (fun (k : Nat) (hk : k ≤ 100000) W => member_v t m k W hk (by omega))
  have hff : Gl.fst t m i = if Gl.isAt t m (i + 1) 33 = true then i + 2 else i + 1 := rfl
  obtain ⟨P, hP⟩ : ∃ P : UInt8 × UInt8 → Bool, P = fun x => decide (x.1 ≤ c) && decide (c ≤ x.2) := ⟨_, rfl⟩
  have HTK := Lib.hid (show Gl.tk (.set (Gl.isAt t m (i + 1) 33) (Gl.mems t m (Gl.fst t m i) e)) c = ((Gl.mems t m (Gl.fst t m i) e).any P != Gl.isAt t m (i + 1) 33) by rw [hP]; rfl)
  have HP := Lib.hid (show ∀ a b, P (a, b) = (decide (a ≤ c) && decide (c ≤ b)) by intro a b; rw [hP])
  have hfe := (Gl.close_some.1 hc).1
  have he := Gl.isAt_lt (Gl.close_some.1 hc).2.1
  obtain ⟨f, hf⟩ : ∃ f, f = Gl.fst t m i := ⟨_, rfl⟩
  rw [← hf] at hff hc hfe HTK ⊢
  have HCL := Lib.hid hc
  clear hc hf hP
  cases hb : Gl.isAt t m (i + 1) 33 with
  | false =>
    rw [hb] at hff h1
    have hff : f = i + 1 := hff
    subst hff
    have H1 := Lib.hid h1
    have HB := Lib.hid hb
    clear h1 hb hff
    go_enter Tryd.func39, Tryd.ntmps39
    go_wp2_with (first
      | (go_at_call 37; (with_reducible refine (H1.out _).mono ?_); rintro e w1 ⟨rfl, hw⟩; subst hw))
    go_loopw [11, 13] (fun s11 s13 wr => ∃ (k : Nat) (b : Bool), s11 = .int .i64 (k : Int) ∧ s13 = .bool b ∧ i + 1 ≤ k ∧ k ≤ e ∧ (Gl.mems t m (i + 1) e).any P = (b || (Gl.mems t m k e).any P) ∧ wr = w1) (fun i _ _ => e - (intOf i).toNat)
    case atStart => exact ⟨i + 1, false, by go_num, rfl, Nat.le_refl _, by omega, by rw [Bool.false_or], rfl⟩
    case round =>
      obtain ⟨k, b, rfl, rfl, hk1, hk2, hinv, hw⟩ := hrel
      subst hw
      have HINV := Lib.hid hinv
      clear hinv
      by_cases hke : k < e
      · have hke2 : (k : Int) < (e : Int) := by omega
        obtain ⟨hmm, hmb⟩ := Gl.mb_mems HCL.out hk1 hke
        have hgt := Gl.mb_gt t m k
        have HMK := Lib.hid (HME.out k (by omega))
        obtain ⟨k1, hk9⟩ : ∃ k1, k1 = Gl.mb t m k := ⟨_, rfl⟩
        rw [← hk9] at hmm hmb hgt HMK
        obtain ⟨n1, hn1⟩ : ∃ n1, n1 = k1 - 1 := ⟨_, rfl⟩
        have hki : (k1 : Int) - 1 = (n1 : Int) := by omega
        rw [← hn1] at hmm
        have hkt : k < (mkS t).size := by rw [mkS_size]; omega
        have hnt : n1 < (mkS t).size := by rw [mkS_size]; omega
        have hkl : k < t.length := by omega
        have hnl : n1 < t.length := by omega
        have HMM := Lib.hid (show (Gl.mems t m k e).any P = ((decide (((mkS t)[k].toNat : Int) ≤ (c.toNat : Int)) && decide ((c.toNat : Int) ≤ ((mkS t)[n1].toNat : Int))) || (Gl.mems t m k1 e).any P) by
          rw [hmm, List.any_cons, HP.out]
          have e1 := get_byte t k hkt
          have e2 := get_byte t n1 hnt
          simp only [List.getD_eq_getElem?_getD, e1, e2, Option.getD_some]
          rw [byte_le, byte_le]
          rfl)
        have HGT := Lib.hid hgt
        have HMB := Lib.hid hmb
        clear hmm hk9 hn1 hgt hmb
        cases b with
        | true =>
          go_wp2_with (first
            | (go_at_call 47; (with_reducible refine (HMK.out _).mono ?_); rintro e w4 ⟨rfl, hw⟩; subst hw))
          go_roundw
          case rel => exact ⟨k1, true, rfl, rfl, by have := HGT.out; omega, by have := HMB.out; omega, by rw [HINV.out]; rfl, trivial⟩
          case measure => have := HGT.out; simp [intOf]; omega
        | false =>
          by_cases hx : ((mkS t)[k].toNat : Int) ≤ (c.toNat : Int)
          · have HX := Lib.hid (decide_eq_true hx)
            go_wp2_with (first
              | (go_at_call 47; (with_reducible refine (HMK.out _).mono ?_); rintro e w4 ⟨rfl, hw⟩; subst hw))
            go_roundw
            case rel =>
              refine ⟨k1, decide (c.toNat ≤ (mkS t)[n1].toNat), rfl, rfl, by have := HGT.out; omega, by have := HMB.out; omega, ?_, trivial⟩
              rw [HINV.out, HMM.out, HX.out, Bool.false_or, Bool.true_and]
              exact congrArg (fun z => (z || (Gl.mems t m k1 e).any P)) (decide_eq_decide.2 Int.ofNat_le)
            case measure => have := HGT.out; simp [intOf]; omega
          · have HX := Lib.hid (decide_eq_false hx)
            go_wp2_with (first
              | (go_at_call 47; (with_reducible refine (HMK.out _).mono ?_); rintro e w4 ⟨rfl, hw⟩; subst hw))
            go_roundw
            case rel =>
              refine ⟨k1, false, rfl, rfl, by have := HGT.out; omega, by have := HMB.out; omega, ?_, trivial⟩
              rw [HINV.out, HMM.out, HX.out, Bool.false_or, Bool.false_and, Bool.false_or]
            case measure => have := HGT.out; simp [intOf]; omega
      · have hke2 : ¬ ((k : Int) < (e : Int)) := by omega
        have HFIN := Lib.hid (show (Gl.mems t m (i + 1) e).any P = b by rw [HINV.out, Gl.mems_end (a := k) (by omega)]; simp)
        go_wp2
        go_ret
        refine ⟨ret_bool ?_, rfl⟩
        have h9 := HTK.out
        rw [HB.out] at h9
        rw [h9, HFIN.out]
        cases b <;> rfl
  | true =>
    rw [hb] at hff h1
    have hff : f = i + 2 := hff
    subst hff
    have H1 := Lib.hid h1
    have HB := Lib.hid hb
    clear h1 hb hff
    go_enter Tryd.func39, Tryd.ntmps39
    go_wp2_with (first
      | (go_at_call 37; (with_reducible refine (H1.out _).mono ?_); rintro e w1 ⟨rfl, hw⟩; subst hw))
    go_loopw [11, 13] (fun s11 s13 wr => ∃ (k : Nat) (b : Bool), s11 = .int .i64 (k : Int) ∧ s13 = .bool b ∧ i + 2 ≤ k ∧ k ≤ e ∧ (Gl.mems t m (i + 2) e).any P = (b || (Gl.mems t m k e).any P) ∧ wr = w1) (fun i _ _ => e - (intOf i).toNat)
    case atStart => exact ⟨i + 2, false, by go_num, rfl, Nat.le_refl _, by omega, by rw [Bool.false_or], rfl⟩
    case round =>
      obtain ⟨k, b, rfl, rfl, hk1, hk2, hinv, hw⟩ := hrel
      subst hw
      have HINV := Lib.hid hinv
      clear hinv
      by_cases hke : k < e
      · have hke2 : (k : Int) < (e : Int) := by omega
        obtain ⟨hmm, hmb⟩ := Gl.mb_mems HCL.out hk1 hke
        have hgt := Gl.mb_gt t m k
        have HMK := Lib.hid (HME.out k (by omega))
        obtain ⟨k1, hk9⟩ : ∃ k1, k1 = Gl.mb t m k := ⟨_, rfl⟩
        rw [← hk9] at hmm hmb hgt HMK
        obtain ⟨n1, hn1⟩ : ∃ n1, n1 = k1 - 1 := ⟨_, rfl⟩
        have hki : (k1 : Int) - 1 = (n1 : Int) := by omega
        rw [← hn1] at hmm
        have hkt : k < (mkS t).size := by rw [mkS_size]; omega
        have hnt : n1 < (mkS t).size := by rw [mkS_size]; omega
        have hkl : k < t.length := by omega
        have hnl : n1 < t.length := by omega
        have HMM := Lib.hid (show (Gl.mems t m k e).any P = ((decide (((mkS t)[k].toNat : Int) ≤ (c.toNat : Int)) && decide ((c.toNat : Int) ≤ ((mkS t)[n1].toNat : Int))) || (Gl.mems t m k1 e).any P) by
          rw [hmm, List.any_cons, HP.out]
          have e1 := get_byte t k hkt
          have e2 := get_byte t n1 hnt
          simp only [List.getD_eq_getElem?_getD, e1, e2, Option.getD_some]
          rw [byte_le, byte_le]
          rfl)
        have HGT := Lib.hid hgt
        have HMB := Lib.hid hmb
        clear hmm hk9 hn1 hgt hmb
        cases b with
        | true =>
          go_wp2_with (first
            | (go_at_call 47; (with_reducible refine (HMK.out _).mono ?_); rintro e w4 ⟨rfl, hw⟩; subst hw))
          go_roundw
          case rel => exact ⟨k1, true, rfl, rfl, by have := HGT.out; omega, by have := HMB.out; omega, by rw [HINV.out]; rfl, trivial⟩
          case measure => have := HGT.out; simp [intOf]; omega
        | false =>
          by_cases hx : ((mkS t)[k].toNat : Int) ≤ (c.toNat : Int)
          · have HX := Lib.hid (decide_eq_true hx)
            go_wp2_with (first
              | (go_at_call 47; (with_reducible refine (HMK.out _).mono ?_); rintro e w4 ⟨rfl, hw⟩; subst hw))
            go_roundw
            case rel =>
              refine ⟨k1, decide (c.toNat ≤ (mkS t)[n1].toNat), rfl, rfl, by have := HGT.out; omega, by have := HMB.out; omega, ?_, trivial⟩
              rw [HINV.out, HMM.out, HX.out, Bool.false_or, Bool.true_and]
              exact congrArg (fun z => (z || (Gl.mems t m k1 e).any P)) (decide_eq_decide.2 Int.ofNat_le)
            case measure => have := HGT.out; simp [intOf]; omega
          · have HX := Lib.hid (decide_eq_false hx)
            go_wp2_with (first
              | (go_at_call 47; (with_reducible refine (HMK.out _).mono ?_); rintro e w4 ⟨rfl, hw⟩; subst hw))
            go_roundw
            case rel =>
              refine ⟨k1, false, rfl, rfl, by have := HGT.out; omega, by have := HMB.out; omega, ?_, trivial⟩
              rw [HINV.out, HMM.out, HX.out, Bool.false_or, Bool.false_and, Bool.false_or]
            case measure => have := HGT.out; simp [intOf]; omega
      · have hke2 : ¬ ((k : Int) < (e : Int)) := by omega
        have HFIN := Lib.hid (show (Gl.mems t m (i + 2) e).any P = b by rw [HINV.out, Gl.mems_end (a := k) (by omega)]; simp)
        go_wp2
        go_ret
        refine ⟨ret_bool ?_, rfl⟩
        have h9 := HTK.out
        rw [HB.out] at h9
        rw [h9, HFIN.out]
        cases b <;> rfl
end Gr
end Go.Proofs.YtdfnbanbofnabaaDoor
