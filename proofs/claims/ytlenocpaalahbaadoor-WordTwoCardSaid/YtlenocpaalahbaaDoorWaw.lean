/- The laws' own example: awake is true. No premises. -/
import Derived.Test.YtlenocpaalahbaaDoorWzb
namespace Go.Proofs.YtlenocpaalahbaaDoor
open Go.RowKit Go.Maps
theorem PAt.later {W W' : World} {T : Nat → Prop} {b o : Nat} {p : Wd.P} {vw : Value} (h : PAt W T b o p vw) (hl : Later W W') : PAt W' T b o p vw := ⟨cell_keeps hl h.c0, cell_keeps hl h.c1, cell_keeps hl h.c2, cell_keeps hl h.c3, cell_keeps hl h.c4, h.w.kept hl.size (fun b _ hlt => hl.block b hlt) fun _ hb => hb⟩
namespace Ws
/-- Any parts. -/
abbrev Ps (W : World) (v : Value) (ps : List Wd.P) : Prop := PsAt W (fun _ => True) v ps
theorem Ps.later {W W' : World} {v : Value} {ps : List Wd.P} (h : Ps W v ps) (hl : Later W W') : Ps W' v ps := h.kept hl.size (fun b _ hlt => hl.block b hlt) fun _ hb => hb
theorem Ops.later {W W' : World} (h : Ops W) (ho : 1 < W.heap.size) (hl : Later W W') : Ops W' := h.kept (hl.block _ ho)
theorem Ops.pos {W : World} (h : Ops W) : 1 < W.heap.size := World.block_lt_of_cell? W _ (h 0 (by omega))
theorem parse_t {W : World} (hO : Ops W) (raw : L) (ts : ByteArray) (ht : ts = mkS raw) (y : List Wd.P × Nat) (hy : Wd.parse raw = y) (hr : raw.length ≤ 100000) : Calls Tryd.prog 9 #[.string ts] W (Pg W y) := by
  subst ht hy
  exact parse_v raw hr hO (Ops.pos hO)
theorem body_t {W : World} (hO : Ops W) (raw : L) (ts : ByteArray) (ht : ts = mkS raw) (y : List Wd.P × Nat) (hy : Wd.body raw = y) (hr : raw.length ≤ 100000) : Calls Tryd.prog 11 #[.string ts] W (Pg W y) := by
  subst ht hy
  exact body_v raw hr hO (Ops.pos hO)
theorem aw1 : Wd.parse [97, 34, 36, 120, 34, 39, 98, 39] = ([.mk 1 [97] [] false [], .mk 3 [120] [] true [], .mk 2 [98] [] false []], 0) := by kernel_rfl
theorem aw2 : Wd.parse [36, 123, 120] = ([], 11) := by kernel_rfl
theorem aw3 : Wd.body [97, 34, 36, 120] = ([.mk 2 [97, 34] [] false [], .mk 3 [120] [] true []], 0) := by kernel_rfl
set_option maxHeartbeats 1600000 in
set_option maxRecDepth 100000 in
theorem awake_v {W : World} (hO : Ops W) : Calls Tryd.prog 8 #[] W fun e W' => e = .returned (.bool true) ∧ Later W W' := by
  have HO := Lib.hid hO
  clear hO
  go_enter Tryd.func8, Tryd.ntmps8
  go_wp2_with (first
    | (go_at_call 9; (with_reducible refine (parse_t HO.out [97, 34, 36, 120, 34, 39, 98, 39] ⟨#[97, 34, 36, 120, 34, 39, 98, 39]⟩ rfl _ aw1 (by decide)).mono ?_); rintro e w1 ⟨v1, rfl, h1, l1⟩; obtain ⟨b1, c1, rfl, hc1, _, hg1⟩ := h1.get (by simp); have G1 := Lib.hid hg1; have L1 := Lib.hid l1; have O1 := Lib.hid (Ops.later HO.out (Ops.pos HO.out) l1); clear h1 l1 hg1)
    | (go_at_call 9; (with_reducible refine (parse_t O1.out [36, 123, 120] ⟨#[36, 123, 120]⟩ rfl _ aw2 (by decide)).mono ?_); rintro e w2 ⟨v2, rfl, h2, l2⟩; obtain ⟨_, A2, c2, rfl⟩ := h2.one; have L2 := Lib.hid l2; have O2 := Lib.hid (Ops.later O1.out (Ops.pos O1.out) l2); clear h2 l2)
    | (go_at_call 11; (with_reducible refine (body_t O2.out [97, 34, 36, 120] ⟨#[97, 34, 36, 120]⟩ rfl _ aw3 (by decide)).mono ?_); rintro e w3 ⟨v3, rfl, h3, l3⟩; obtain ⟨b3, c3, rfl, hc3, _, hg3⟩ := h3.get (by simp); obtain ⟨_, p0⟩ := G1.out 0 _ rfl; obtain ⟨_, p1⟩ := G1.out 1 _ rfl; obtain ⟨_, p2⟩ := G1.out 2 _ rfl; obtain ⟨_, p3⟩ := hg3 0 _ rfl; have ll := L2.out.trans l3; have q0 : w3.cell? ⟨b1, 0, none⟩ = some (.int .i64 1) := (p0.later ll).c0; have q1 : w3.cell? ⟨b1, 5, none⟩ = some (.int .i64 3) := (p1.later ll).c0; have q2 : w3.cell? ⟨b1, 8, none⟩ = some (.bool true) := (p1.later ll).c3; have q3 : w3.cell? ⟨b1, 6, none⟩ = some (.string ⟨#[120]⟩) := (p1.later ll).c1; have q4 : w3.cell? ⟨b1, 11, none⟩ = some (.string ⟨#[98]⟩) := (p2.later ll).c1; have q5 : w3.cell? ⟨b3, 1, none⟩ = some (.string ⟨#[97, 34]⟩) := p3.c1; have LL := Lib.hid (L1.out.trans ll); clear h3 l3 hg3 p0 p1 p2 p3 ll))
  go_ret
  exact ⟨rfl, LL.out⟩
end Ws
end Go.Proofs.YtlenocpaalahbaaDoor
