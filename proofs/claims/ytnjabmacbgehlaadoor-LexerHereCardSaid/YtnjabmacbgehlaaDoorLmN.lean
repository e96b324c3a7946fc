/- The lexer's reader: a part of a word. No premises. -/
import Derived.Test.YtnjabmacbgehlaaDoorLmK
namespace Go.Proofs.YtnjabmacbgehlaaDoor
open Go.RowKit Go.Maps
open Lx (nl Tok R sq ar up pre)
set_option maxRecDepth 100000 in
theorem part_ok (B g : Nat) (S : L) (k : Nat) (σ : St) (c : UInt8) (r : L) (hl : σ.l = c :: r) (f : Nat) (hf : partsT g c = some (fnv f g)) (hent : ∀ args w, (callFunc f args).run Tryd.prog w = .ok (.enter f args) w) (t r2 : L) (W : World) (h : Mem W B g S σ)
    (hc : ∀ m, Calls Tryd.prog f #[.pointer (some ⟨g, 0, none⟩)] (W.drewN m) (Fin B g S σ k (W.drewN m) (.ok (t, r2)))) : Calls Tryd.prog 49 #[.pointer (some ⟨g, 0, none⟩)] W (Fin B g S σ k W (.ok (t, r2))) := by
  have HP := Lib.hid (fun m => peek_v B g S σ c r hl (W.drewN m) (h.drewN m))
  obtain ⟨p, n, vt, vh, vx, ms, mp, h⟩ := h
  obtain ⟨⟨_, _, _, _, _, _, _, _, _, _, c10⟩, hz⟩ := h.facts
  have hlook := h.pa.look c
  rw [hf] at hlook
  have hlook2 : ∀ n, (Instr.lookup 49 (.map (some mp)) (.int .u8 (c.toNat : Int)) true).run Tryd.prog (W.drewN n) = .ok (.tuple #[.func (.func f) #[.pointer (some ⟨g, 0, none⟩)] #[], .bool true]) (W.drewN n) := hlook
  have HC := Lib.hid hc
  clear h hl hf hc hlook
  go_enter Tryd.func49, Tryd.ntmps49
  go_wp2
  go_quiet ((go_at_call 38; exact Calls.quiet_of (HP.out _)))
  go_wp2
  refine (HC.out _).mono ?_
  rintro e w3 ⟨rfl, hm3, hb3, hk3⟩
  go_wp2
  go_end0
  exact ⟨rfl, hm3, (Below.drewN _ _ _).trans hb3, hk3⟩
set_option maxRecDepth 100000 in
theorem part_bad (B g : Nat) (S : L) (k : Nat) (σ : St) (c : UInt8) (r : L) (hl : σ.l = c :: r) (f : Nat) (hf : partsT g c = some (fnv f g)) (hent : ∀ args w, (callFunc f args).run Tryd.prog w = .ok (.enter f args) w) (n2 : Nat) (W : World) (h : Mem W B g S σ)
    (hc : ∀ m, Calls Tryd.prog f #[.pointer (some ⟨g, 0, none⟩)] (W.drewN m) (Fin B g S σ k (W.drewN m) (.error n2))) : Calls Tryd.prog 49 #[.pointer (some ⟨g, 0, none⟩)] W (Fin B g S σ k W (.error n2)) := by
  have HP := Lib.hid (fun m => peek_v B g S σ c r hl (W.drewN m) (h.drewN m))
  obtain ⟨p, n, vt, vh, vx, ms, mp, h⟩ := h
  obtain ⟨⟨_, _, _, _, _, _, _, _, _, _, c10⟩, hz⟩ := h.facts
  have hlook := h.pa.look c
  rw [hf] at hlook
  have hlook2 : ∀ n, (Instr.lookup 49 (.map (some mp)) (.int .u8 (c.toNat : Int)) true).run Tryd.prog (W.drewN n) = .ok (.tuple #[.func (.func f) #[.pointer (some ⟨g, 0, none⟩)] #[], .bool true]) (W.drewN n) := hlook
  have HC := Lib.hid hc
  clear h hl hf hc hlook
  go_enter Tryd.func49, Tryd.ntmps49
  go_wp2
  go_quiet ((go_at_call 38; exact Calls.quiet_of (HP.out _)))
  go_wp2
  refine (HC.out _).mono ?_
  rintro e w3 ⟨rfl, hb3⟩
  exact bodyPost_panic rfl ⟨rfl, (Below.drewN _ _ _).trans hb3⟩
theorem part_any (B g : Nat) (S : L) (k : Nat) (σ : St) (c : UInt8) (r : L) (hl : σ.l = c :: r) (f : Nat) (hf : partsT g c = some (fnv f g)) (hent : ∀ args w, (callFunc f args).run Tryd.prog w = .ok (.enter f args) w) (x : R) (W : World) (h : Mem W B g S σ)
    (hc : ∀ m, Calls Tryd.prog f #[.pointer (some ⟨g, 0, none⟩)] (W.drewN m) (Fin B g S σ k (W.drewN m) x)) : Calls Tryd.prog 49 #[.pointer (some ⟨g, 0, none⟩)] W (Fin B g S σ k W x) := by
  match x, hc with
  | .ok (t, r2), hc => exact part_ok B g S k σ c r hl f hf hent t r2 W h hc
  | .error n, hc => exact part_bad B g S k σ c r hl f hf hent n W h hc
set_option maxRecDepth 100000 in
theorem part_plain (B g : Nat) (S : L) (k : Nat) (σ : St) (c : UInt8) (r : L) (hl : σ.l = c :: r) (hn : Nm k σ) (hf : partsT g c = none) (W : World) (h : Mem W B g S σ) : Calls Tryd.prog 49 #[.pointer (some ⟨g, 0, none⟩)] W (Fin B g S σ k W (.ok ([c], r))) := by
  have HP := Lib.hid (fun m => peek_v B g S σ c r hl (W.drewN m) (h.drewN m))
  have HT := Lib.hid (fun m => take_k B g S k σ c r hl hn (W.drewN m) (h.drewN m))
  obtain ⟨p, n, vt, vh, vx, ms, mp, h⟩ := h
  obtain ⟨⟨_, _, _, _, _, _, _, _, _, _, c10⟩, hz⟩ := h.facts
  have hlook := h.pa.look c
  rw [hf] at hlook
  have hlook2 : ∀ n, (Instr.lookup 49 (.map (some mp)) (.int .u8 (c.toNat : Int)) true).run Tryd.prog (W.drewN n) = .ok (.tuple #[.nilFunc, .bool false]) (W.drewN n) := hlook
  clear h hl hf hlook
  go_enter Tryd.func49, Tryd.ntmps49
  go_wp2
  go_quiet ((go_at_call 38; exact Calls.quiet_of (HP.out _)))
  go_wp2_with (first
    | (go_at_call 48; (with_reducible refine (HT.out _).mono ?_); rintro e w3 ⟨rfl, hm3, hb3, hk3⟩))
  go_end0
  exact ⟨rfl, hm3, (Below.drewN _ _ _).trans hb3, hk3⟩
theorem fin_refuse (B g : Nat) (S : L) (k : Nat) (σ : St) (W : World) (h : Mem W B g S σ) : Calls Tryd.prog 36 #[.pointer (some ⟨g, 0, none⟩)] W (Fin B g S σ k W (.error 20)) := by
  refine (refuse_v B g S σ W h).mono ?_
  rintro e w ⟨rfl, rfl⟩
  exact ⟨rfl, Below.refl _ _⟩
/-- A part, whatever stands ahead. -/
theorem parts_all (B g : Nat) (S : L) (k : Nat) (n : Nat) : Parts B g S k n := by
  induction n with
  | zero => intro σ W h; omega
  | succ n ih =>
    intro σ W hlt hne hn hd h
    have ih' : Parts B g S k σ.l.length := fun σ' W' h1 => ih σ' W' (by omega)
    match hl : σ.l with
    | [] => exact absurd hl hne
    | c :: r =>
      rw [Lx.part_at]
      unfold Lx.oneF
      by_cases h1 : c = 92
      · subst h1
        exact part_any B g S k σ 92 r hl _ rfl (fun _ _ => run_enter Tryd.func32 rfl rfl _ _) (escM r) W h fun m => escape_v B g S k σ r hl hn (W.drewN m) (h.drewN m)
      by_cases h2 : c = 39
      · subst h2
        exact part_any B g S k σ 39 r hl _ rfl (fun _ _ => run_enter Tryd.func33 rfl rfl _ _) (sqM r) W h fun m => single_v B g S k σ r hl hn (W.drewN m) (h.drewN m)
      by_cases h3 : c = 34
      · subst h3
        exact part_any B g S k σ 34 r hl _ rfl (fun _ _ => run_enter Tryd.func34 rfl rfl _ _) (pre [34] (up σ.d 34 true r)) W h fun m => double_v B g S k σ r hl hn hd ih' (W.drewN m) (h.drewN m)
      by_cases h4 : c = 36
      · subst h4
        exact part_any B g S k σ 36 r hl _ rfl (fun _ _ => run_enter Tryd.func35 rfl rfl _ _) (Lx.dolF (up (σ.d + 1) 125 false) (σ.d == 8) r) W h fun m => dollar_v B g S k σ r hl hn hd ih' (W.drewN m) (h.drewN m)
      by_cases h5 : c = 96
      · subst h5
        exact part_any B g S k σ 96 r hl _ rfl (fun _ _ => run_enter Tryd.func36 rfl rfl _ _) (.error 20) W h fun m => fin_refuse B g S k σ (W.drewN m) (h.drewN m)
      · simp only [if_neg h1, if_neg h2, if_neg h3, if_neg h4, if_neg h5]
        refine part_plain B g S k σ c r hl hn ?_ W h
        unfold partsT
        simp only [if_neg h1, if_neg h2, if_neg h3, if_neg h4, if_neg h5]
end Go.Proofs.YtnjabmacbgehlaaDoor
