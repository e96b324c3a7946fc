/- The document's Plain. No premises. -/
import Derived.Test.YtjjkeajgcdminaaGz
namespace Go.Proofs.Ytjjkeajgcdminaa
open Go.RowKit Go.Maps
namespace Gr
open Gs
set_option maxRecDepth 100000 in
set_option maxHeartbeats 3200000 in
theorem Plain_v (t m : L) (w : World) (ht : t.length ≤ 4096) : Calls Try.prog 13 #[.string (mkS t), .string (mkS m)] w fun e w' => e = .returned (.bool ((Gl.sgF t m 0).all Gl.isLit)) ∧ w' = w := by
  have hti : ((mkS t).size : Int) = (t.length : Int) := by rw [mkS_size]
  have HPA := Lib.hid (Gl.plain_all (t := t) (m := m) t.length 0 (by omega))
  have H42 := Lib.hid (show ∀ (k : Nat) W, Calls Try.prog 22 #[.string (mkS t), .string (mkS m), .int .i64 (k : Int), .int .u8 42] W fun e w' => e = .returned (.bool (Gl.isAt t m k 42)) ∧ w' = W from fun k => Is_v t m k 42)
  have H63 := Lib.hid (show ∀ (k : Nat) W, Calls Try.prog 22 #[.string (mkS t), .string (mkS m), .int .i64 (k : Int), .int .u8 63] W fun e w' => e = .returned (.bool (Gl.isAt t m k 63)) ∧ w' = W from fun k => Is_v t m k 63)
  have H91 := Lib.hid (show ∀ (k : Nat) W, Calls Try.prog 22 #[.string (mkS t), .string (mkS m), .int .i64 (k : Int), .int .u8 91] W fun e w' => e = .returned (.bool (Gl.isAt t m k 91)) ∧ w' = W from fun k => Is_v t m k 91)
  go_enter Try.func13, Try.ntmps13
  go_wp2_with fail
  go_loopw [5] (fun s5 wr => ∃ k : Nat, s5 = .int .i64 (k : Int) ∧ k ≤ t.length ∧ (∀ j, j < k → Gl.odd t m j = false) ∧ wr = w) (fun i _ => t.length - (intOf i).toNat)
  case atStart => exact ⟨0, rfl, Nat.zero_le _, fun j h => by omega, rfl⟩
  case round =>
    obtain ⟨k, rfl, hk, hall, hw⟩ := hrel
    subst hw
    have HALL := Lib.hid hall
    clear hall
    by_cases hkt : k < t.length
    · have hkt2 : (k : Int) < (t.length : Int) := by omega
      have h42 := H42.out k
      have h63 := H63.out k
      have h91 := H91.out k
      have hod : Gl.odd t m k = (Gl.isAt t m k 42 || (Gl.isAt t m k 63 || (Gl.isAt t m k 91 && (Gl.close t m (Gl.fst t m k + 1)).isSome))) := by
        unfold Gl.odd Gl.sgAt
        cases Gl.isAt t m k 42 <;> cases Gl.isAt t m k 63 <;> cases Gl.isAt t m k 91 <;> cases Gl.close t m (Gl.fst t m k + 1) <;> rfl
      have hEN := fun W => End_v t m k W hkt ht
      cases e42 : Gl.isAt t m k 42 with
      | true =>
        cases e63 : Gl.isAt t m k 63 with
        | true => exact absurd (Gl.isAt_one e42 e63) (by decide)
        | false =>
          cases e91 : Gl.isAt t m k 91 with
          | true => exact absurd (Gl.isAt_one e42 e91) (by decide)
          | false =>
            rw [e42] at h42 hod
            rw [e63] at h63 hod
            rw [e91] at h91 hod
            have K42 := Lib.hid h42
            have K63 := Lib.hid h63
            have K91 := Lib.hid h91
            have KEN := Lib.hid hEN
            have HOD := Lib.hid hod
            clear h42 h63 h91 hod hEN e42 e63 e91
            have HFIN := Lib.hid (show (Gl.sgF t m 0).all Gl.isLit = false by
              cases h : (Gl.sgF t m 0).all Gl.isLit with
              | false => rfl
              | true => have h1 := HPA.out.1 h k (Nat.zero_le _) hkt; rw [HOD.out] at h1; cases h1)
            go_wp2_with (first
              | (go_at_call 22; (with_reducible refine (K42.out _).mono ?_); rintro e w1 ⟨rfl, hw⟩; subst hw)
              | (go_at_call 22; (with_reducible refine (K63.out _).mono ?_); rintro e w1 ⟨rfl, hw⟩; subst hw)
              | (go_at_call 22; (with_reducible refine (K91.out _).mono ?_); rintro e w1 ⟨rfl, hw⟩; subst hw)
              | (go_at_call 23; (with_reducible refine (KEN.out _).mono ?_); rintro e w1 ⟨rfl, hw⟩; subst hw))
            go_ret
            exact ⟨ret_bool HFIN.out.symm, rfl⟩
      | false =>
        cases e63 : Gl.isAt t m k 63 with
        | true =>
          cases e91 : Gl.isAt t m k 91 with
          | true => exact absurd (Gl.isAt_one e63 e91) (by decide)
          | false =>
            rw [e42] at h42 hod
            rw [e63] at h63 hod
            rw [e91] at h91 hod
            have K42 := Lib.hid h42
            have K63 := Lib.hid h63
            have K91 := Lib.hid h91
            have KEN := Lib.hid hEN
            have HOD := Lib.hid hod
            clear h42 h63 h91 hod hEN e42 e63 e91
            have HFIN := Lib.hid (show (Gl.sgF t m 0).all Gl.isLit = false by
              cases h : (Gl.sgF t m 0).all Gl.isLit with
              | false => rfl
              | true => have h1 := HPA.out.1 h k (Nat.zero_le _) hkt; rw [HOD.out] at h1; cases h1)
            go_wp2_with (first
              | (go_at_call 22; (with_reducible refine (K42.out _).mono ?_); rintro e w1 ⟨rfl, hw⟩; subst hw)
              | (go_at_call 22; (with_reducible refine (K63.out _).mono ?_); rintro e w1 ⟨rfl, hw⟩; subst hw)
              | (go_at_call 22; (with_reducible refine (K91.out _).mono ?_); rintro e w1 ⟨rfl, hw⟩; subst hw)
              | (go_at_call 23; (with_reducible refine (KEN.out _).mono ?_); rintro e w1 ⟨rfl, hw⟩; subst hw))
            go_ret
            exact ⟨ret_bool HFIN.out.symm, rfl⟩
        | false =>
          cases e91 : Gl.isAt t m k 91 with
          | true =>
            cases hcl : Gl.close t m (Gl.fst t m k + 1) with
            | some e =>
              rw [e42] at h42 hod
              rw [e63] at h63 hod
              rw [e91] at h91 hod
              have K42 := Lib.hid h42
              have K63 := Lib.hid h63
              have K91 := Lib.hid h91
              rw [hcl] at hod
              have hen2 : ∀ W, Calls Try.prog 23 #[.string (mkS t), .string (mkS m), .int .i64 (k : Int)] W fun r w' => r = .returned (.int .i64 ((e : Int) + 1)) ∧ w' = W := fun W => by
                have := hEN W
                rwa [show Gl.endOf t m k = (e : Int) + 1 by unfold Gl.endOf; rw [hcl]] at this
              have KEN := Lib.hid hen2
              have hpos : (0 : Int) < (e : Int) + 1 := by omega
              have HOD := Lib.hid hod
              clear h42 h63 h91 hod hEN e42 e63 e91 hen2 hcl
              have HFIN := Lib.hid (show (Gl.sgF t m 0).all Gl.isLit = false by
                cases h : (Gl.sgF t m 0).all Gl.isLit with
                | false => rfl
                | true => have h1 := HPA.out.1 h k (Nat.zero_le _) hkt; rw [HOD.out] at h1; cases h1)
              go_wp2_with (first
                | (go_at_call 22; (with_reducible refine (K42.out _).mono ?_); rintro e w1 ⟨rfl, hw⟩; subst hw)
                | (go_at_call 22; (with_reducible refine (K63.out _).mono ?_); rintro e w1 ⟨rfl, hw⟩; subst hw)
                | (go_at_call 22; (with_reducible refine (K91.out _).mono ?_); rintro e w1 ⟨rfl, hw⟩; subst hw)
                | (go_at_call 23; (with_reducible refine (KEN.out _).mono ?_); rintro e w1 ⟨rfl, hw⟩; subst hw))
              go_ret
              exact ⟨ret_bool HFIN.out.symm, rfl⟩
            | none =>
              rw [e42] at h42 hod
              rw [e63] at h63 hod
              rw [e91] at h91 hod
              have K42 := Lib.hid h42
              have K63 := Lib.hid h63
              have K91 := Lib.hid h91
              rw [hcl] at hod
              have hen2 : ∀ W, Calls Try.prog 23 #[.string (mkS t), .string (mkS m), .int .i64 (k : Int)] W fun r w' => r = .returned (.int .i64 (-1)) ∧ w' = W := fun W => by
                have := hEN W
                rwa [show Gl.endOf t m k = -1 by unfold Gl.endOf; rw [hcl]] at this
              have KEN := Lib.hid hen2
              have HOD := Lib.hid hod
              clear h42 h63 h91 hod hEN e42 e63 e91 hen2 hcl
              go_wp2_with (first
                | (go_at_call 22; (with_reducible refine (K42.out _).mono ?_); rintro e w1 ⟨rfl, hw⟩; subst hw)
                | (go_at_call 22; (with_reducible refine (K63.out _).mono ?_); rintro e w1 ⟨rfl, hw⟩; subst hw)
                | (go_at_call 22; (with_reducible refine (K91.out _).mono ?_); rintro e w1 ⟨rfl, hw⟩; subst hw)
                | (go_at_call 23; (with_reducible refine (KEN.out _).mono ?_); rintro e w1 ⟨rfl, hw⟩; subst hw))
              go_roundw
              case rel =>
                refine ⟨k + 1, by go_num, by omega, fun j hj => ?_, trivial⟩
                by_cases e : j = k
                · rw [e, HOD.out]; rfl
                · exact HALL.out j (by omega)
              case measure => (simp [intOf]; try omega)
          | false =>
            rw [e42] at h42 hod
            rw [e63] at h63 hod
            rw [e91] at h91 hod
            have K42 := Lib.hid h42
            have K63 := Lib.hid h63
            have K91 := Lib.hid h91
            have KEN := Lib.hid hEN
            have HOD := Lib.hid hod
            clear h42 h63 h91 hod hEN e42 e63 e91
            go_wp2_with (first
              | (go_at_call 22; (with_reducible refine (K42.out _).mono ?_); rintro e w1 ⟨rfl, hw⟩; subst hw)
              | (go_at_call 22; (with_reducible refine (K63.out _).mono ?_); rintro e w1 ⟨rfl, hw⟩; subst hw)
              | (go_at_call 22; (with_reducible refine (K91.out _).mono ?_); rintro e w1 ⟨rfl, hw⟩; subst hw)
              | (go_at_call 23; (with_reducible refine (KEN.out _).mono ?_); rintro e w1 ⟨rfl, hw⟩; subst hw))
            go_roundw
            case rel =>
              refine ⟨k + 1, by go_num, by omega, fun j hj => ?_, trivial⟩
              by_cases e : j = k
              · rw [e, HOD.out]; rfl
              · exact HALL.out j (by omega)
            case measure => (simp [intOf]; try omega)
    · have hkt2 : ¬ ((k : Int) < (t.length : Int)) := by omega
      have HFIN := Lib.hid (HPA.out.2 fun j _ hj => HALL.out j (by omega))
      go_wp2
      go_ret
      exact ⟨ret_bool HFIN.out.symm, rfl⟩
end Gr
end Go.Proofs.Ytjjkeajgcdminaa
