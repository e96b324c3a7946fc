/- The lexer's reader: what it looks at, and how it goes on. No premises. -/
import Derived.Test.YtnjabmacbgehlaaDoorLmB
namespace Go.Proofs.YtnjabmacbgehlaaDoor
open Go.RowKit Go.Maps
open Lx (nl Tok)
theorem ret_bool {a b : Bool} (h : a = b) : Ending.returned (.bool a) = .returned (.bool b) := by rw [h]
set_option maxRecDepth 100000 in
theorem refuse_v (B g : Nat) (S : L) (σ : St) (W : World) (h : Mem W B g S σ) : Calls Tryd.prog 36 #[.pointer (some ⟨g, 0, none⟩)] W fun r W' => r = .panicked (flt 20 σ.b) ∧ W' = W := by
  have HC := Lib.hid (fail_v B g S σ 20 W h)
  clear h
  go_enter Tryd.func36, Tryd.ntmps36
  go_wp2_with (go_at_call 52; (with_reducible refine HC.out.mono ?_); rintro e w1 ⟨rfl, rfl⟩)
  exact bodyPost_panic rfl ⟨rfl, rfl⟩
set_option maxRecDepth 100000 in
theorem left_v (B g : Nat) (S : L) (σ : St) (W : World) (h : Mem W B g S σ) : Calls Tryd.prog 37 #[.pointer (some ⟨g, 0, none⟩)] W fun r W' => r = .returned (.bool (decide (σ.l ≠ []))) ∧ ∃ m, W' = W.drewN m := by
  obtain ⟨p, n, vt, vh, vx, ms, mp, h⟩ := h
  obtain ⟨⟨c0, c1, _⟩, _⟩ := h.facts
  have hv : decide (p < (mkS S).size) = decide (σ.l ≠ []) := by
    have h1 := h.at_
    rw [mkS_size, decide_eq_decide]
    constructor
    · intro h2 h3; rw [h3] at h1; simp at h1; omega
    · intro h2; have := List.length_pos_iff.2 h2; omega
  have HV := Lib.hid hv
  clear h hv
  go_enter Tryd.func37, Tryd.ntmps37
  go_wp2
  go_quiet (fail)
  go_wp2
  go_ret
  exact ⟨ret_bool HV.out, _, rfl⟩
theorem ret_byte {x : UInt8} {c : UInt8} (h : x = c) : Ending.returned (.int .u8 (x.toNat : Int)) = .returned (.int .u8 (c.toNat : Int)) := by rw [h]
theorem byt_eq {c : UInt8} (k : UInt8) (h : c = k) : ((c.toNat : Int) == (k.toNat : Int)) = true := by rw [h]; exact beq_self_eq_true _
theorem byt_ne {c : UInt8} (k : UInt8) (h : c ≠ k) : ((c.toNat : Int) == (k.toNat : Int)) = false := beq_eq_false_iff_ne.2 fun e => h (UInt8.toNat_inj.1 (by omega))
theorem byt_neq {c : UInt8} (k : UInt8) (h : c ≠ k) : ((c.toNat : Int) != (k.toNat : Int)) = true := by unfold bne; rw [byt_ne k h]; rfl
theorem byt_nne {c : UInt8} (k : UInt8) (h : c = k) : ((c.toNat : Int) != (k.toNat : Int)) = false := by unfold bne; rw [byt_eq k h]; rfl
/-- There is a next byte. -/
theorem MemX.byte {W : World} {B g p n ms mp : Nat} {S : L} {σ : St} {vt vh vx : Value} {c : UInt8} {r : L} (h : MemX W B g S σ p n vt vh vx ms mp) (hl : σ.l = c :: r) : ∃ hp : p < (mkS S).size, (mkS S).get p hp = c := by
  have h1 := h.at_
  have h2 := h.cut
  rw [hl] at h1 h2
  have hp : p < S.length := by simp only [List.length_cons] at h1; omega
  refine ⟨by rw [mkS_size]; exact hp, ?_⟩
  rw [List.drop_eq_getElem_cons hp] at h2
  injection h2 with h2 _
  rw [h2]
  simp [mkS, ByteArray.get]
set_option maxRecDepth 100000 in
theorem peek_v (B g : Nat) (S : L) (σ : St) (c : UInt8) (r : L) (hl : σ.l = c :: r) (W : World) (h : Mem W B g S σ) : Calls Tryd.prog 38 #[.pointer (some ⟨g, 0, none⟩)] W fun e W' => e = .returned (.int .u8 (c.toNat : Int)) ∧ ∃ m, W' = W.drewN m := by
  have HL := Lib.hid (left_v B g S σ W h)
  obtain ⟨p, n, vt, vh, vx, ms, mp, h⟩ := h
  obtain ⟨⟨c0, c1, _⟩, _⟩ := h.facts
  obtain ⟨hp, hc⟩ := h.byte hl
  have hdec : decide (σ.l ≠ []) = true := by rw [hl]; rfl
  rw [hdec] at HL
  have HC := Lib.hid hc
  have hp0 : (0 : Int) ≤ (p : Int) := by omega
  have hp1 : (p : Int) < ((mkS S).size : Int) := by omega
  clear h hc hdec hl
  go_enter Tryd.func38, Tryd.ntmps38
  go_wp2_with (go_at_call 37; (with_reducible refine HL.out.mono ?_); rintro e w1 ⟨rfl, m, rfl⟩)
  go_quiet (fail)
  go_wp2
  go_ret
  exact ⟨ret_byte HC.out, _, (World.drewN_drewN _ _ _)⟩
set_option maxRecDepth 100000 in
theorem peek_bad (B g : Nat) (S : L) (σ : St) (hl : σ.l = []) (W : World) (h : Mem W B g S σ) : Calls Tryd.prog 38 #[.pointer (some ⟨g, 0, none⟩)] W fun e W' => e = .panicked (flt 20 σ.b) ∧ ∃ m, W' = W.drewN m := by
  have HL := Lib.hid (left_v B g S σ W h)
  have hdec : decide (σ.l ≠ []) = false := by rw [hl]; rfl
  rw [hdec] at HL
  have HR := Lib.hid (fun m => refuse_v B g S σ (W.drewN m) (h.drewN m))
  clear h hdec hl
  go_enter Tryd.func38, Tryd.ntmps38
  go_wp2_with (first
    | (go_at_call 37; (with_reducible refine HL.out.mono ?_); rintro e w1 ⟨rfl, m, rfl⟩)
    | (go_at_call 36; (with_reducible refine (HR.out _).mono ?_); rintro e w1 ⟨rfl, rfl⟩))
  exact bodyPost_panic rfl ⟨rfl, _, rfl⟩
end Go.Proofs.YtnjabmacbgehlaaDoor
