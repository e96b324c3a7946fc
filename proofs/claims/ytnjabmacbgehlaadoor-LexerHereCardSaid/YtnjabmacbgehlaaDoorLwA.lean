/- The laws' own example: awake is true. No premises. -/
import Derived.Test.YtnjabmacbgehlaaDoorLw
import Derived.Test.YtnjabmacbgehlaaDoorLmZ
namespace Go.Proofs.YtnjabmacbgehlaaDoor
open Go.RowKit Go.Maps
open Lx (nl Tok)
def T1 : List Tok := [⟨1, [97], [], 0⟩, ⟨5, [50], [], 0⟩, ⟨2, [62], [], 0⟩, ⟨1, [98], [], 0⟩, ⟨4, [], [], 0⟩]
set_option maxRecDepth 100000 in
theorem all1 : Lx.all [97, 32, 50, 62, 98] = .ok T1 := by kernel_rfl
set_option maxRecDepth 100000 in
theorem all2 : Lx.all [97, 10, 10, 32, 39, 98] = .error (20, 0) := by kernel_rfl
theorem bare1 : Lx.bare [39, 97, 39, 34, 98, 34, 92, 99] = [97, 98, 99] := by decide
theorem sets1 : setsM [120, 61, 49, 61, 50] = ([120], [49, 61, 50], true) := by decide
theorem name1 : nameB [95, 97, 49] = true := by decide
theorem name2 : nameB [49, 97] = false := by decide
theorem toks_at {w : World} {B N n c : Nat} {e : TypeId} {ad : Addr} {ts : List Tok} (h : w.ownsRow B e 4 (.slice (some ad) n c) ts.length (cellsT N ts)) (i : Nat) (hi : i < ts.length) : TokAt w N (ad.add (i * 4)) ts[i] := by
  obtain ⟨ad', c', e1, _, _, _, h1⟩ := tok_at h hi
  injection e1 with e2 _ _
  injection e2 with e2
  subst e2
  exact h1 i hi
theorem five_at {w : World} {B : Nat} {e : TypeId} {v : Value} (h : w.ownsRow B e 4 v 5 (cellsT 0 T1)) : ∃ ad c, v = .slice (some ad) 5 c ∧ 5 ≤ c := by
  obtain ⟨ad, c, e1, h1, _⟩ := tok_at (ts := T1) h (j := 0) (by decide)
  exact ⟨ad, c, e1, h1⟩
theorem Sgn.later {w w' : World} (h : Sgn w) (hl : Later w w') : Sgn w' := h.keep hl h.pos
set_option maxHeartbeats 1600000 in
set_option maxRecDepth 100000 in
theorem awake_v (W : World) (hg : Sgn W) : Calls Tryd.prog 9 #[] W fun e W' => e = .returned (.bool true) ∧ Later W W' := by
  have h1 := all_v [97, 32, 50, 62, 98] (by decide) W hg
  rw [all1] at h1
  have H1 := Lib.hid (show Calls Tryd.prog 16 #[.string ⟨#[97, 32, 50, 62, 98]⟩] W fun e W' => (∃ vt, e = .returned (.tuple #[vt, .int .i64 0, .int .i64 0]) ∧ W'.ownsRow W.heap.size 33 4 vt 5 (cellsT 0 T1)) ∧ Later W W' from h1)
  have H2 := Lib.hid (show ∀ w, Later W w → Calls Tryd.prog 16 #[.string ⟨#[97, 10, 10, 32, 39, 98]⟩] w fun e W' => e = .returned (.tuple #[.slice none 0 0, .int .i64 20, .int .i64 3]) ∧ Later w W' from fun w hw => by have h := all_v [97, 10, 10, 32, 39, 98] (by decide) w (hg.later hw); rw [all2] at h; exact h)
  have H3 := Lib.hid (show ∀ w, Calls Tryd.prog 10 #[.string ⟨#[39, 97, 39, 34, 98, 34, 92, 99]⟩] w fun e W' => e = .returned (.tuple #[.string ⟨#[97, 98, 99]⟩, .bool true]) ∧ Later w W' from fun w => by have h := bare_v [39, 97, 39, 34, 98, 34, 92, 99] (by decide) w; rw [bare1] at h; exact h)
  have H4 := Lib.hid (show ∀ w, Calls Tryd.prog 12 #[.string ⟨#[120, 61, 49, 61, 50]⟩] w fun e W' => e = .returned (.tuple #[.string ⟨#[120]⟩, .string ⟨#[49, 61, 50]⟩, .bool true]) ∧ Later w W' from fun w => by have h := sets_v [120, 61, 49, 61, 50] (by decide) w; rw [sets1] at h; exact h)
  have H5 := Lib.hid (show ∀ w, Calls Tryd.prog 14 #[.string ⟨#[95, 97, 49]⟩] w fun e W' => e = .returned (.bool true) ∧ Later w W' from fun w => by have h := name_v [95, 97, 49] (by decide) w; rw [name1] at h; exact h)
  have H6 := Lib.hid (show ∀ w, Calls Tryd.prog 14 #[.string ⟨#[49, 97]⟩] w fun e W' => e = .returned (.bool false) ∧ Later w W' from fun w => by have h := name_v [49, 97] (by decide) w; rw [name2] at h; exact h)
  clear h1 hg
  go_enter Tryd.func9, Tryd.ntmps9
  go_wp2_with (first
    | (go_at_call 16; first | ((with_reducible refine H1.out.mono ?_); rintro e w1 ⟨⟨vt, rfl, ho⟩, hl1⟩; obtain ⟨ad, c, hv5, hc55⟩ := five_at ho; subst hv5; have HO1 := Lib.hid ho; have HL1 := Lib.hid hl1; clear ho hl1) | ((with_reducible refine (H2.out _ HL1.out).mono ?_); rintro e w2 ⟨rfl, hl2⟩; have HO2 := Lib.hid (own_below HO1.out hl2); have HL2 := Lib.hid (HL1.out.trans hl2); clear hl2))
    | (go_at_call 10; (with_reducible refine (H3.out _).mono ?_); rintro e w3 ⟨rfl, hl3⟩; have HO3 := Lib.hid (own_below HO2.out hl3); have HL3 := Lib.hid (HL2.out.trans hl3); clear hl3)
    | (go_at_call 12; (with_reducible refine (H4.out _).mono ?_); rintro e w4 ⟨rfl, hl4⟩; have ho4 := own_below HO3.out hl4; have HL4 := Lib.hid (HL3.out.trans hl4); have hat := toks_at (ts := T1) ho4; have x0 : w4.cell? ⟨ad.block, ad.off + 4, none⟩ = some (.int .i64 5) := (hat 1 (by decide)).c0; have x1 : w4.cell? ⟨ad.block, ad.off + 4 + 1, none⟩ = some (.string ⟨#[50]⟩) := (hat 1 (by decide)).c1; have y0 : w4.cell? ⟨ad.block, ad.off + 8, none⟩ = some (.int .i64 2) := (hat 2 (by decide)).c0; have z1 : w4.cell? ⟨ad.block, ad.off + 12 + 1, none⟩ = some (.string ⟨#[98]⟩) := (hat 3 (by decide)).c1; have u0 : w4.cell? ⟨ad.block, ad.off + 16, none⟩ = some (.int .i64 4) := (hat 4 (by decide)).c0; clear hl4 hat ho4)
    | (go_at_call 14; first | ((with_reducible refine (H5.out _).mono ?_); rintro e w5 ⟨rfl, hl5⟩; have HL5 := Lib.hid (HL4.out.trans hl5); clear hl5) | ((with_reducible refine (H6.out _).mono ?_); rintro e w6 ⟨rfl, hl6⟩; have HL6 := Lib.hid (HL5.out.trans hl6); clear hl6)))
  go_ret
  exact ⟨rfl, HL6.out⟩
end Go.Proofs.YtnjabmacbgehlaaDoor
