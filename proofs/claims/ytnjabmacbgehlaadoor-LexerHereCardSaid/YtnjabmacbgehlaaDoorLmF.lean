/- The lexer's reader: a byte is taken into the word. No premises. -/
import Derived.Test.YtnjabmacbgehlaaDoorLmE
namespace Go.Proofs.YtnjabmacbgehlaaDoor
open Go.RowKit Go.Maps
open Lx (nl Tok)
theorem snoc_bv (q : L) (c : UInt8) : (q ++ [c]).map bv = q.map bv ++ [bv c] := by simp
theorem Grew.fz {W W' : World} {B g p n ms mp : Nat} {S : L} {σ : St} {vt vh vx v' : Value} {xs : List Value} (hg : Grew W W' B 5 vx v' xs) (h : MemX W B g S σ p n vt vh vx ms mp) : W'.cell? ⟨g, 6, none⟩ = some vx ∧ W'.frozen? ⟨g, 6, none⟩ = false :=
  cell_row ((hg.grown.block g h.lt (fun e => apart_block h.txt h.box (by decide) e.symm)).trans h.box) 6
theorem Mem.base {W : World} {B g : Nat} {S : L} {σ : St} (h : Mem W B g S σ) : B ≤ W.heap.size := by
  obtain ⟨p, n, vt, vh, vx, ms, mp, h⟩ := h
  exact Nat.le_trans h.low (Nat.le_of_lt h.lt)
set_option maxRecDepth 100000 in
theorem take_v (B g : Nat) (S : L) (σ : St) (c : UInt8) (r : L) (hl : σ.l = c :: r) (hq : σ.q.length ≤ 5000) (W : World) (h : Mem W B g S σ) : Calls Tryd.prog 48 #[.pointer (some ⟨g, 0, none⟩)] W fun e W' => e = .returned (.int .u8 (c.toNat : Int)) ∧ Mem W' B g S { σ with l := r, q := σ.q ++ [c] } ∧ Below B W W' := by
  obtain ⟨i0, hi, hz0, hz1, hz2⟩ := info_parts info_u8
  have hB := h.base
  have HN := Lib.hid (next_v B g S σ c r hl W h)
  have HQ := Lib.hid hq
  obtain ⟨q', hq'⟩ : ∃ q', q' = σ.q ++ [c] := ⟨_, rfl⟩
  have HQ2 := Lib.hid hq'
  have HB := Lib.hid hB
  clear h hl hq hq' hB
  go_enter Tryd.func48, Tryd.ntmps48
  go_wp2_with (first
    | (go_at_call 46; (with_reducible refine HN.out.mono ?_); rintro e w1 ⟨rfl, ⟨p, n, vt, vh, vx, ms, mp, hm⟩, hb⟩; obtain ⟨⟨_, _, _, _, _, _, c6, _⟩, hz⟩ := hm.facts; have HM := Lib.hid hm; have HB1 := Lib.hid hb; have HS := Lib.hid (Nat.le_trans HB.out hb.size); obtain ⟨A, k, rfl, h1, h2, h3⟩ := own_map hm.txt; clear hm hb h1 h2 h3)
    | (at_builtin; refine wpList_app1 w1 (.int .u8 (c.toNat : Int)) rfl (.tmp 10) (.tmp 12) _ rfl B 5 i0 (.int .u8 0) 1 Tryd.underlying38 hi hz0 hz1 hz2 rfl rfl (.slice A σ.q.length k) (σ.q.map bv) rfl HM.out.txt rfl ?hby ?hle HS.out ?_; (case hby => have := HQ.out; rw [List.length_map]; omega); (case hle => have := HQ.out; rw [List.length_map]; omega); intro v2 w2 hg2; rw [show (Value.int .u8 (c.toNat : Int)) = bv c from rfl, ← snoc_bv, ← HQ2.out] at hg2; obtain ⟨c62, hz62⟩ := hg2.fz HM.out; obtain ⟨A2, k2, rfl, h1, h2, h3⟩ := own_map hg2.own; have HG := Lib.hid hg2; clear hg2 h1 h2 h3))
  go_ret
  refine ⟨rfl, ?_, ?_⟩
  · have := HM.out.text HG.out
    rw [HQ2.out] at this
    rw [HQ2.out]
    exact this.mem
  · exact Below.setCell (HB1.out.trans (HG.out.below HM.out.txt HS.out)) HM.out.low _
set_option maxRecDepth 100000 in
theorem take_bad (B g : Nat) (S : L) (σ : St) (hl : σ.l = []) (W : World) (h : Mem W B g S σ) : Calls Tryd.prog 48 #[.pointer (some ⟨g, 0, none⟩)] W fun e W' => e = .panicked (flt 20 σ.b) ∧ ∃ m, W' = W.drewN m := by
  have HP := Lib.hid (next_bad B g S σ hl W h)
  clear h hl
  go_enter Tryd.func48, Tryd.ntmps48
  go_wp2_with (go_at_call 46; (with_reducible refine HP.out.mono ?_); rintro e w1 ⟨rfl, m, rfl⟩)
  exact bodyPost_panic rfl ⟨rfl, _, rfl⟩
end Go.Proofs.YtnjabmacbgehlaaDoor
