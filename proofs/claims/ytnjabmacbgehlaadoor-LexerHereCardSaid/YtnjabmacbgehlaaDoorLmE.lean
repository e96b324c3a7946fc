/- The lexer's reader: bytes that are left out, and bytes that are taken. No premises. -/
import Derived.Test.YtnjabmacbgehlaaDoorLmD
namespace Go.Proofs.YtnjabmacbgehlaaDoor
open Go.RowKit Go.Maps
open Lx (nl Tok)
/-- How far a reader is. -/
def atOf (g : Nat) (w : World) : Nat := match w.cell? ⟨g, 1, none⟩ with | some (.int _ p) => p.toNat | _ => 0
theorem Mem.left {W : World} {B g : Nat} {S : L} {σ : St} (h : Mem W B g S σ) : S.length - atOf g W = σ.l.length := by
  obtain ⟨p, n, vt, vh, vx, ms, mp, h⟩ := h
  obtain ⟨⟨_, c1, _⟩, _⟩ := h.facts
  have := h.at_
  unfold atOf
  rw [c1]
  simp only [Int.toNat_natCast]
  omega
set_option maxRecDepth 100000 in
theorem pass_x (B g : Nat) (S : L) (σ : St) (c : UInt8) (r : L) (hl : σ.l = c :: r) (W : World) (p n : Nat) (vt vh vx : Value) (ms mp : Nat) (h : MemX W B g S σ p n vt vh vx ms mp) : Calls Tryd.prog 30 #[.pointer (some ⟨g, 0, none⟩)] W fun e W' => e = .returned (.tuple #[]) ∧ (∃ p' n', MemX W' B g S { σ with l := r } p' n' vt vh vx ms mp) ∧ W.grownBy W' (some g) := by
  have HP := Lib.hid (next_x B g S σ c r hl W p n vt vh vx ms mp h)
  clear h hl
  go_enter Tryd.func30, Tryd.ntmps30
  go_wp2_with (go_at_call 46; (with_reducible refine HP.out.mono ?_); rintro e w1 ⟨rfl, hm, hb⟩)
  go_end0
  exact ⟨rfl, hm, hb⟩
theorem pass_v (B g : Nat) (S : L) (σ : St) (c : UInt8) (r : L) (hl : σ.l = c :: r) (W : World) (h : Mem W B g S σ) : Calls Tryd.prog 30 #[.pointer (some ⟨g, 0, none⟩)] W fun e W' => e = .returned (.tuple #[]) ∧ Mem W' B g S { σ with l := r } ∧ Below B W W' := by
  obtain ⟨p, n, vt, vh, vx, ms, mp, h⟩ := h
  refine (pass_x B g S σ c r hl W p n vt vh vx ms mp h).mono ?_
  rintro e W' ⟨h1, ⟨p', n', h2⟩, h3⟩
  exact ⟨h1, h2.mem, only_below h3 h.low (Nat.le_trans h.low (Nat.le_of_lt h.lt))⟩
set_option maxRecDepth 100000 in
theorem begin_v (B g : Nat) (S : L) (σ : St) (b : Nat) (hb : b + nl σ.l = 1 + nl S) (W : World) (h : Mem W B g S σ) : Calls Tryd.prog 40 #[.pointer (some ⟨g, 0, none⟩)] W fun e W' => e = .returned (.tuple #[]) ∧ Mem W' B g S { σ with b := b } ∧ Below B W W' := by
  obtain ⟨p, n, vt, vh, vx, ms, mp, h⟩ := h
  obtain rfl : b = n := by have := h.ln; omega
  obtain ⟨⟨_, _, c2, c3, _⟩, hz⟩ := h.facts
  have H := Lib.hid h
  clear h hb
  go_enter Tryd.func40, Tryd.ntmps40
  go_wp2
  go_end0
  exact ⟨rfl, (H.out.set 3 _ (σ' := { σ with b := b }) (by simp) H.out.cut H.out.at_ H.out.ln rfl rfl rfl).mem, Below.setCell (Below.refl _ _) H.out.low _⟩
set_option maxRecDepth 100000 in
theorem passJoin_v (B g : Nat) (S : L) (σ : St) (r : L) (hl : σ.l = 92 :: 10 :: r) (W : World) (h : Mem W B g S σ) : Calls Tryd.prog 44 #[.pointer (some ⟨g, 0, none⟩)] W fun e W' => e = .returned (.bool true) ∧ Mem W' B g S { σ with l := r } ∧ Below B W W' := by
  have ha := ahead_t B g S σ ⟨#[92, 10]⟩ [92, 10] rfl true (by rw [hl]; rfl) W h
  have HA := Lib.hid ha
  have HP := Lib.hid (fun m => pass_v B g S σ 92 (10 :: r) hl (W.drewN m) (h.drewN m))
  clear h hl ha
  go_enter Tryd.func44, Tryd.ntmps44
  go_wp2_with (first
    | (go_at_call 47; (with_reducible refine HA.out.mono ?_); rintro e w1 ⟨rfl, m, rfl⟩)
    | (go_at_call 30; first | ((with_reducible refine (HP.out _).mono ?_); rintro e w2 ⟨rfl, hm2, hb2⟩; have HP2 := Lib.hid (pass_v B g S { σ with l := 10 :: r } 10 r rfl w2 hm2); have HB2 := Lib.hid hb2; clear hm2 hb2) | ((with_reducible refine HP2.out.mono ?_); rintro e w3 ⟨rfl, hm3, hb3⟩))
    )
  go_ret
  exact ⟨rfl, hm3, ((Below.drewN _ _ _).trans HB2.out).trans hb3⟩
set_option maxRecDepth 100000 in
theorem passJoin_no (B g : Nat) (S : L) (σ : St) (hl : ([92, 10] : L).isPrefixOf σ.l = false) (W : World) (h : Mem W B g S σ) : Calls Tryd.prog 44 #[.pointer (some ⟨g, 0, none⟩)] W fun e W' => e = .returned (.bool false) ∧ ∃ m, W' = W.drewN m := by
  have ha := ahead_t B g S σ ⟨#[92, 10]⟩ [92, 10] rfl false hl W h
  have HA := Lib.hid ha
  clear h hl ha
  go_enter Tryd.func44, Tryd.ntmps44
  go_wp2_with (first
    | (go_at_call 47; (with_reducible refine HA.out.mono ?_); rintro e w1 ⟨rfl, m, rfl⟩))
  go_ret
  exact ⟨rfl, _, rfl⟩
set_option maxRecDepth 100000 in
theorem passRow_x (B g : Nat) (S : L) (σ : St) (W : World) (p n : Nat) (vt vh vx : Value) (ms mp : Nat) (h : MemX W B g S σ p n vt vh vx ms mp) : Calls Tryd.prog 28 #[.pointer (some ⟨g, 0, none⟩)] W fun e W' => e = .returned (.tuple #[]) ∧ (∃ p' n', MemX W' B g S { σ with l := Lx.skip σ.l } p' n' vt vh vx ms mp) ∧ W.grownBy W' (some g) := by
  have H := Lib.hid h
  clear h
  go_enter Tryd.func28, Tryd.ntmps28
  go_wp2
  go_loopw [] (fun wr => ∃ l', Lx.skip l' = Lx.skip σ.l ∧ (∃ p' n', MemX wr B g S { σ with l := l' } p' n' vt vh vx ms mp) ∧ W.grownBy wr (some g)) (fun wr => S.length - atOf g wr)
  case atStart => exact ⟨σ.l, rfl, ⟨p, n, H.out⟩, World.grownBy.refl _ _⟩
  case round =>
    obtain ⟨l', hs, ⟨p1, n1, hm⟩, hb⟩ := hrel
    have HS := Lib.hid hs
    have HM := Lib.hid hm
    have HB := Lib.hid hb
    have hl := left_v B g S { σ with l := l' } wr hm.mem
    clear hs hb
    cases l' with
    | nil =>
      have HL := Lib.hid hl
      clear hl hm
      go_wp2_with (first
        | (go_at_call 37; (with_reducible refine HL.out.mono ?_); rintro e w1 ⟨rfl, m, rfl⟩))
      go_end0
      exact ⟨rfl, by rw [← HS.out]; exact ⟨_, _, HM.out.drewN _⟩, only_trans HB.out (only_drewN _ _ _)⟩
    | cons c r =>
      have HL := Lib.hid hl
      have HP := Lib.hid (fun m => peek_v B g S { σ with l := c :: r } c r rfl (wr.drewN m) (hm.drewN m).mem)
      clear hl hm
      have HQ := Lib.hid (fun m => pass_x B g S { σ with l := c :: r } c r rfl (wr.drewN m) _ _ _ _ _ _ _ (HM.out.drewN m))
      by_cases hc : c = 10
      · have h10 : ((c.toNat : Int) != 10) = false := byt_nne 10 hc
        go_wp2_with (first
          | (go_at_call 37; (with_reducible refine HL.out.mono ?_); rintro e w1 ⟨rfl, m, rfl⟩)
          | (go_at_call 38; (with_reducible refine (HP.out _).mono ?_); rintro e w1 ⟨rfl, m2, rfl⟩))
        go_end0
        exact ⟨rfl, by rw [← HS.out, Lx.skip, if_pos hc]; exact ⟨_, _, HM.out.drewN _⟩, only_trans HB.out (only_drewN _ _ _)⟩
      · have h10 : ((c.toNat : Int) != 10) = true := byt_neq 10 hc
        go_wp2_with (first
          | (go_at_call 37; (with_reducible refine HL.out.mono ?_); rintro e w1 ⟨rfl, m, rfl⟩)
          | (go_at_call 38; (with_reducible refine (HP.out _).mono ?_); rintro e w1 ⟨rfl, m2, rfl⟩)
          | (go_at_call 30; (with_reducible refine (HQ.out _).mono ?_); rintro e w3 ⟨rfl, ⟨p3, n3, hm3⟩, hb3⟩; have HM3 := Lib.hid hm3; have HB3 := Lib.hid hb3; clear hm3 hb3))
        go_roundw
        case rel => exact ⟨r, by rw [← HS.out, Lx.skip, if_neg hc], ⟨_, _, HM3.out⟩, only_trans (only_trans HB.out (only_drewN _ _ _)) HB3.out⟩
        case measure => rw [HM3.out.mem.left, HM.out.mem.left]; simp
theorem passRow_v (B g : Nat) (S : L) (σ : St) (W : World) (h : Mem W B g S σ) : Calls Tryd.prog 28 #[.pointer (some ⟨g, 0, none⟩)] W fun e W' => e = .returned (.tuple #[]) ∧ Mem W' B g S { σ with l := Lx.skip σ.l } ∧ Below B W W' := by
  obtain ⟨p, n, vt, vh, vx, ms, mp, h⟩ := h
  refine (passRow_x B g S σ W p n vt vh vx ms mp h).mono ?_
  rintro e W' ⟨h1, ⟨p', n', h2⟩, h3⟩
  exact ⟨h1, h2.mem, only_below h3 h.low (Nat.le_trans h.low (Nat.le_of_lt h.lt))⟩
end Go.Proofs.YtnjabmacbgehlaaDoor
