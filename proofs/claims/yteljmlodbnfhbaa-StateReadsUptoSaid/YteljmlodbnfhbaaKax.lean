/- awake. No premises. -/
import Derived.Test.YteljmlodbnfhbaaKaw
namespace Go.Proofs.Yteljmlodbnfhbaa
open Go.RowKit
namespace Ks
set_option maxRecDepth 100000
def awF (W : World) : List Value := [.int .i64 1, .int .i64 0, .int .i64 0, .int .i64 0, .int .i64 0, .bool true, .int .i64 0, .int .i64 0, .string ⟨#[]⟩, .slice (some ⟨W.heap.size + 1, 0, none⟩) 1 1, .slice none 0 0, .slice none 0 0, .slice none 0 0, .slice none 0 0, .int .i64 0, .string ⟨#[]⟩, .slice none 0 0, .slice none 0 0, .slice none 0 0]
def aw4 (W : World) : World := (((W.alloc (.cells #[.string ⟨#[97]⟩] 9)).alloc (.cells #[.int .i64 (-3)] 2)).alloc (.cells (awF W).toArray 70)).alloc (.cells #[.int .i64 2] 3)
def awC (b : Nat) : List Value := zKeep ++ ([.slice (some ⟨b, 0, none⟩) 1 1] ++ ([.slice (some ⟨b + 1 + 1, 0, none⟩) 1 1] ++ (zReq ++ (zAns ++ ([.slice (some ⟨b + 1 + 1 + 1, 0, none⟩) 1 1] ++ [.int .i64 0, .int .i64 0, .int .i64 0, .bool false, .bool false, .bool false, .int .i64 0])))))
theorem aw_C {W w : World} (h : Later (aw4 W) w) : stR.C w w.heap.size (awC W.heap.size) sx := by
  have l1 := Later.alloc W (.cells #[.string ⟨#[97]⟩] 9)
  have l2 := Later.alloc (W.alloc (.cells #[.string ⟨#[97]⟩] 9)) (.cells #[.int .i64 (-3)] 2)
  have l3 := Later.alloc ((W.alloc (.cells #[.string ⟨#[97]⟩] 9)).alloc (.cells #[.int .i64 (-3)] 2)) (.cells (awF W).toArray 70)
  have l4 := Later.alloc (((W.alloc (.cells #[.string ⟨#[97]⟩] 9)).alloc (.cells #[.int .i64 (-3)] 2)).alloc (.cells (awF W).toArray 70)) (.cells #[.int .i64 2] 3)
  have b1 := later_cells h (later_cells l4 (later_cells l3 (later_cells l2 (heap_alloc_new W (.cells #[.string ⟨#[97]⟩] 9)))))
  have b2 := later_cells h (later_cells l4 (later_cells l3 (heap_alloc_new (W.alloc (.cells #[.string ⟨#[97]⟩] 9)) (.cells #[.int .i64 (-3)] 2))))
  have b3 := later_cells h (later_cells l4 (heap_alloc_new ((W.alloc (.cells #[.string ⟨#[97]⟩] 9)).alloc (.cells #[.int .i64 (-3)] 2)) (.cells (awF W).toArray 70)))
  have b4 := later_cells h (heap_alloc_new (((W.alloc (.cells #[.string ⟨#[97]⟩] 9)).alloc (.cells #[.int .i64 (-3)] 2)).alloc (.cells (awF W).toArray 70)) (.cells #[.int .i64 2] 3))
  rw [World.size_alloc] at b2
  rw [World.size_alloc, World.size_alloc] at b3
  rw [World.size_alloc, World.size_alloc, World.size_alloc] at b4
  have h1 := lt_of_block b1
  have h2 := lt_of_block b2
  have h3 := lt_of_block b3
  have h4 := lt_of_block b4
  refine st_C (rrow1 (r := rtxt) (cs := [.string ⟨#[97]⟩]) b1 h1 ⟨rfl, by show ([97] : B).length ≤ _; simp⟩) (rrow1 (r := fmR) b3 h3 ?_) (rrow1 (r := rnum) (cs := [.int .i64 2]) b4 h4 ⟨rfl, by omega, by omega⟩)
  exact ⟨[.int .i64 1], _, rfl, ⟨rfl, by show (-9223372036854775808 : Int) ≤ 1; omega, by show (1 : Int) ≤ 9223372036854775807; omega⟩, [.int .i64 0], _, rfl, ⟨rfl, I64.zero⟩, [.int .i64 0], _, rfl, ⟨rfl, I64.zero⟩, [.int .i64 0], _, rfl, ⟨rfl, I64.zero⟩, [.int .i64 0], _, rfl, ⟨rfl, I64.zero⟩, [.bool true], _, rfl, rfl, [.int .i64 0], _, rfl, ⟨rfl, I64.zero⟩, [.int .i64 0], _, rfl, ⟨rfl, I64.zero⟩, [.string ⟨#[]⟩], _, rfl, ⟨rfl, by show ([] : B).length ≤ _; simp⟩,
    [.slice (some ⟨W.heap.size + 1, 0, none⟩) 1 1], _, rfl, rrow1 (r := rnum) (cs := [.int .i64 (-3)]) b2 h2 ⟨rfl, by omega, by omega⟩, [.slice none 0 0], _, rfl, rrow0 _ _ _, [.slice none 0 0], _, rfl, rrow0 _ _ _, kz_C _ _⟩
/-- What the example's state reads as. -/
structure AwS (w : World) (b : Nat) (g1 o1 c1 g2 o2 c2 g3 o3 c3 : Nat) : Prop where
  f1 : w.cell? ⟨b, 7, none⟩ = some (.slice (some ⟨g1, o1, none⟩) 1 c1)
  f2 : w.cell? ⟨b, 8, none⟩ = some (.slice (some ⟨g2, o2, none⟩) 1 c2)
  f3 : w.cell? ⟨g1, o1, none⟩ = some (.string ⟨#[97]⟩)
  f4 : w.cell? ⟨g2, o2 + 5, none⟩ = some (.bool true)
  f5 : w.cell? ⟨g2, o2 + 9, none⟩ = some (.slice (some ⟨g3, o3, none⟩) 1 c3)
  f6 : w.cell? ⟨g3, o3, none⟩ = some (.int .i64 (-3))
theorem AwS.later {w w' : World} {b g1 o1 c1 g2 o2 c2 g3 o3 c3 : Nat} (h : AwS w b g1 o1 c1 g2 o2 c2 g3 o3 c3) (hl : Later w w') : AwS w' b g1 o1 c1 g2 o2 c2 g3 o3 c3 :=
  ⟨cell_keeps hl h.f1, cell_keeps hl h.f2, cell_keeps hl h.f3, cell_keeps hl h.f4, cell_keeps hl h.f5, cell_keeps hl h.f6⟩
theorem aw_S {w : World} {cs : List Value} {b : Nat} {ty : TypeId} (h : stR.C w w.heap.size cs sx) (hb : w.heap[b]? = some (.cells cs.toArray ty (0, 0))) : ∃ g1 o1 c1 g2 o2 c2 g3 o3 c3, AwS w b g1 o1 c1 g2 o2 c2 g3 o3 c3 := by
  obtain ⟨B1, d1, B2, d2, B3, d3, B4, d4, B5, d5, A1, c1, A2, c2, Q1, e1, Q2, e2, A3, c3, rfl, _, _, _, ⟨hr1, hr2, _⟩, _⟩ := st_cells h
  obtain ⟨g1, o1, rfl, _, hk1⟩ := hr1.lie (by decide) (by decide)
  obtain ⟨g2, o2, rfl, _, hk2⟩ := hr2.lie (by decide) (by decide)
  obtain ⟨x1, ⟨rfl, _⟩, hc1⟩ := hk1 0 (by decide)
  obtain ⟨x2, hx2, hc2⟩ := hk2 0 (by decide)
  obtain ⟨X1, y1, X2, y2, X3, y3, Y1, z1, Y2, z2, Y3, z3, Y4, z4, Y5, z5, rfl, _, ⟨hr3, _, _⟩, _⟩ := fm_cells hx2
  obtain ⟨g3, o3, rfl, _, hk3⟩ := hr3.lie (by decide) (by decide)
  obtain ⟨x3, ⟨rfl, _⟩, hc3⟩ := hk3 0 (by decide)
  refine ⟨g1, o1, c1, g2, o2, c2, g3, o3, y1, ⟨?_, ?_, ?_, ?_, ?_, ?_⟩⟩
  · rw [(cell_row hb 7).1]; rfl
  · rw [(cell_row hb 8).1]; rfl
  · have h : w.cell? ⟨g1, o1 + 0 * Rp.wd rtxt + 0, none⟩ = some (.string ⟨#[97]⟩) := hc1 0 _ rfl
    simpa using h
  · have h : w.cell? ⟨g2, o2 + 0 * Rp.wd fmR + 5, none⟩ = some (.bool true) := hc2 5 _ rfl
    simpa using h
  · have h : w.cell? ⟨g2, o2 + 0 * Rp.wd fmR + 9, none⟩ = some (.slice (some ⟨g3, o3, none⟩) 1 y1) := hc2 9 _ rfl
    simpa using h
  · have h : w.cell? ⟨g3, o3 + 0 * Rp.wd rnum + 0, none⟩ = some (.int .i64 (-3)) := hc3 0 _ rfl
    simpa using h
theorem wpList_loadRunG {P : Program} {ops : Array Oper} {rest : List Oper} {op : Oper} {a : Act} {w : World} {Q : Exit → Act → World → Prop} (hgd : Region.wanted op (yielded ops a.tmps) = true) (ty : TypeId) (x : Operand) (ho : op.op = .load ty x) (p v : Value) (hx : a.eval x = p) (hr : (Instr.loadAt ty p).run P w = .ok v w) (h : wpList P ops Q rest (a.put op.dst v) w) : wpList P ops Q (op :: rest) a w :=
  wpList_step fun _ hK => by
    rw [if_pos hgd]
    unfold Oper.wp execOp
    simp only [ho, hx, Sem.run_bind, hr, Result.andThen_ok, Sem.run_pure]
    exact hK _ _ h
set_option maxHeartbeats 3200000 in
theorem awake_v (W : World) : Calls Try.prog 7 #[] W fun e W' => e = .returned (.bool true) ∧ Later W W' := by
  have HC0 := Lib.hid (show (awC W.heap.size).toArray.size = 29 from rfl)
  have HZN := Lib.hid (show (#[.slice none 0 0, .slice none 0 0, .int .i64 0, .string ⟨#[]⟩, .slice none 0 0, .slice none 0 0, .slice none 0 0, .slice none 0 0, .slice none 0 0, .int .i64 0, .int .i64 0, .int .i64 0, .string ⟨#[]⟩, .slice none 0 0, .int .i64 0, .int .i64 0, .int .i64 0, .int .i64 0, .string ⟨#[]⟩, .slice none 0 0, .int .i64 0, .slice none 0 0, .int .i64 0, .int .i64 0, .int .i64 0, .bool false, .bool false, .bool false, .int .i64 0] : Array Value).size = 29 from rfl)
  have HON := Lib.hid (show (awC W.heap.size).toArray.all (·.oneCell') = true by simp [awC, zKeep, zEnv, zReq, zAns, Value.oneCell'])
  have HLW := Lib.hid (show Later W (aw4 W) from (((Later.alloc W _).trans (Later.alloc _ _)).trans (Later.alloc _ _)).trans (Later.alloc _ _))
  -- behind the first store
  have HA := Lib.hid (show ∀ w1 w2 : World, Later (aw4 W) w1 → w2.heap[(aw4 W).heap.size]? = some (.cells (awC W.heap.size).toArray 40 (0, 0)) → w1.grownBy w2 (some (aw4 W).heap.size) → Later (aw4 W) w2 ∧ (∀ w, Later w2 w → stR.C w w.heap.size (awC W.heap.size) sx ∧ (Instr.loadAt 40 (.pointer (some ⟨(aw4 W).heap.size, 0, none⟩))).run Try.prog w = .ok (.agg (awC W.heap.size).toArray) w) ∧
      Calls Try.prog 9 #[.agg (awC W.heap.size).toArray] w2 fun e w3 => ∃ A n c, e = .returned (.slice A n c) ∧ Later w2 w3 ∧ Calls Try.prog 10 #[.slice A n c] w3 fun e w4 => ∃ cs, e = .returned (.tuple #[.agg (List.toArray cs), .int .i64 0]) ∧ Later w3 w4 ∧ stR.C w4 w4.heap.size cs sx from fun w1 w2 hl hb hg => by
    have hl2 := later_of_new hl hg (Nat.le_refl _)
    refine ⟨hl2, fun w hw => ⟨aw_C (hl2.trans hw), loadO_run (P := Try.prog) 40 _ _ _ (later_cells hw hb) Try.underlying40 rfl (by kernel_rfl)⟩, ?_⟩
    refine (packS_v sx (awC W.heap.size) w2 (aw_C hl2) sx_ok (by have := sx_len; omega)).mono fun e w3 h3 => ?_
    obtain ⟨v', rfl, hg3⟩ := h3
    obtain ⟨A, c, rfl, _, hr, _⟩ := own_map hg3.own
    refine ⟨A, _, c, rfl, hg3.belowNil, ?_⟩
    refine (unpack_v A _ c (stC.put sx) w3 hr (by have := sx_len; omega)).mono fun e w4 h4 => ?_
    obtain ⟨hl4, cs, k, rfl, _, hgood⟩ := h4
    obtain ⟨rfl, hC⟩ := hgood sx (unp_put sx_ok)
    exact ⟨cs, rfl, hl4, hC⟩)
  have HPZ := Lib.hid (show ∀ w : World, Calls Try.prog 9 #[.agg #[.slice none 0 0, .slice none 0 0, .int .i64 0, .string ⟨#[]⟩, .slice none 0 0, .slice none 0 0, .slice none 0 0, .slice none 0 0, .slice none 0 0, .int .i64 0, .int .i64 0, .int .i64 0, .string ⟨#[]⟩, .slice none 0 0, .int .i64 0, .int .i64 0, .int .i64 0, .int .i64 0, .string ⟨#[]⟩, .slice none 0 0, .int .i64 0, .slice none 0 0, .int .i64 0, .int .i64 0, .int .i64 0, .bool false, .bool false, .bool false, .int .i64 0]] w fun e w' => ∃ A c, e = .returned (.slice A 29 c) ∧ Later w w' from fun w => by
    refine (packS_v sz zState w (sz_C _ _) sz_ok (by rw [sz_len]; omega)).mono fun e w' h => ?_
    obtain ⟨v', rfl, hg⟩ := h
    obtain ⟨A, c, rfl, _⟩ := own_map hg.own
    rw [sz_len]
    exact ⟨A, c, rfl, hg.belowNil⟩)
  have HS1 := Lib.hid (show ∀ (w : World) (cs : List Value), stR.C w w.heap.size (awC W.heap.size) sx → stR.C w w.heap.size cs sx → Calls Try.prog 13 #[.agg (awC W.heap.size).toArray, .agg (List.toArray cs)] w fun e w' => e = .returned (.bool true) ∧ Later w w' from fun w cs h1 h2 => by
    refine (same_v sx sx (awC W.heap.size) cs w h1 h2 sx_ok sx_ok (by have := sx_len; omega) (by have := sx_len; omega)).mono fun e w' h => ⟨?_, h.2⟩
    rw [h.1, decide_eq_true rfl])
  have HS2 := Lib.hid (show ∀ (w : World), stR.C w w.heap.size (awC W.heap.size) sx → Calls Try.prog 13 #[.agg (awC W.heap.size).toArray, .agg #[.slice none 0 0, .slice none 0 0, .int .i64 0, .string ⟨#[]⟩, .slice none 0 0, .slice none 0 0, .slice none 0 0, .slice none 0 0, .slice none 0 0, .int .i64 0, .int .i64 0, .int .i64 0, .string ⟨#[]⟩, .slice none 0 0, .int .i64 0, .int .i64 0, .int .i64 0, .int .i64 0, .string ⟨#[]⟩, .slice none 0 0, .int .i64 0, .slice none 0 0, .int .i64 0, .int .i64 0, .int .i64 0, .bool false, .bool false, .bool false, .int .i64 0]] w fun e w' => e = .returned (.bool false) ∧ Later w w' from fun w h1 => by
    refine (same_v sx sz (awC W.heap.size) zState w h1 (sz_C _ _) sx_ok sz_ok (by have := sx_len; omega) (by rw [sz_len]; omega)).mono fun e w' h => ⟨?_, h.2⟩
    rw [h.1, decide_eq_false sx_ne])
  have HT := Lib.hid (show ∀ (w4 w5 w6 : World) (cs : List Value), stR.C w4 w4.heap.size cs sx → Later w4 w5 → w6.heap[w4.heap.size]? = some (.cells (List.toArray cs) 40 (0, 0)) → w5.grownBy w6 (some w4.heap.size) → Later w4 w6 ∧ (∀ w, Later w6 w → stR.C w w.heap.size cs sx ∧ (Instr.loadAt 40 (.pointer (some ⟨w4.heap.size, 0, none⟩))).run Try.prog w = .ok (.agg (List.toArray cs)) w) ∧ ∃ g1 o1 c1 g2 o2 c2 g3 o3 c3, AwS w6 w4.heap.size g1 o1 c1 g2 o2 c2 g3 o3 c3 from fun w4 w5 w6 cs hC hl hb hg => by
    have hl6 := later_of_new hl hg (Nat.le_refl _)
    have hk : ∀ w, Later w6 w → stR.C w w.heap.size cs sx := fun w hw => stR.more (stR.keep hC fun p hp => (hl6.trans hw).cell hp) (hl6.trans hw).size
    refine ⟨hl6, fun w hw => ⟨hk w hw, loadO_run (P := Try.prog) 40 _ _ _ (later_cells hw hb) Try.underlying40 rfl (by rw [List.size_toArray, stR.len hC]; kernel_rfl)⟩, aw_S (hk w6 (Later.refl _)) hb⟩)
  have HSZ := Lib.hid (show ∀ (w4 : World) (cs : List Value), stR.C w4 w4.heap.size cs sx → (Try.prog.info? 40).map (·.size) = some (List.toArray cs).size ∧ (#[.slice none 0 0, .slice none 0 0, .int .i64 0, .string ⟨#[]⟩, .slice none 0 0, .slice none 0 0, .slice none 0 0, .slice none 0 0, .slice none 0 0, .int .i64 0, .int .i64 0, .int .i64 0, .string ⟨#[]⟩, .slice none 0 0, .int .i64 0, .int .i64 0, .int .i64 0, .int .i64 0, .string ⟨#[]⟩, .slice none 0 0, .int .i64 0, .slice none 0 0, .int .i64 0, .int .i64 0, .int .i64 0, .bool false, .bool false, .bool false, .int .i64 0] : Array Value).size = (List.toArray cs).size ∧ (List.toArray cs).all (·.oneCell') = true from fun w4 cs hC => by
    have h29 : (List.toArray cs).size = 29 := by rw [List.size_toArray]; exact stR.len hC
    refine ⟨by rw [h29]; kernel_rfl, by rw [h29]; rfl, ?_⟩
    obtain ⟨B1, d1, B2, d2, B3, d3, B4, d4, B5, d5, A1, c1, A2, c2, Q1, e1, Q2, e2, A3, c3, rfl, _⟩ := st_cells hC
    simp [Value.oneCell'])
  go_enter Try.func7, Try.ntmps7
  go_wp2_with (first
    | (refine wpList_allocO 1 rfl rfl 40 rfl #[.slice none 0 0, .slice none 0 0, .int .i64 0, .string ⟨#[]⟩, .slice none 0 0, .slice none 0 0, .slice none 0 0, .slice none 0 0, .slice none 0 0, .int .i64 0, .int .i64 0, .int .i64 0, .string ⟨#[]⟩, .slice none 0 0, .int .i64 0, .int .i64 0, .int .i64 0, .int .i64 0, .string ⟨#[]⟩, .slice none 0 0, .int .i64 0, .slice none 0 0, .int .i64 0, .int .i64 0, .int .i64 0, .bool false, .bool false, .bool false, .int .i64 0] 29 (by kernel_rfl) ?_; change ∀ w1 : World, w1.heap[(aw4 W).heap.size]? = _ → Later (aw4 W) w1 → w1.heap.size = (aw4 W).heap.size + 1 → _; intro w1 hw1 hl1 hs1; obtain ⟨b1, hb1⟩ : ∃ x, x = (aw4 W).heap.size := ⟨_, rfl⟩; rw [← hb1] at hw1 HA; rw [show (((((W.alloc (.cells #[.string ⟨#[97]⟩] 9)).alloc (.cells #[.int .i64 (-3)] 2)).alloc (.cells #[.int .i64 1, .int .i64 0, .int .i64 0, .int .i64 0, .int .i64 0, .bool true, .int .i64 0, .int .i64 0, .string ⟨#[]⟩, .slice (some ⟨W.heap.size + 1, 0, none⟩) 1 1, .slice none 0 0, .slice none 0 0, .slice none 0 0, .slice none 0 0, .int .i64 0, .string ⟨#[]⟩, .slice none 0 0, .slice none 0 0, .slice none 0 0] 70)).alloc (.cells #[.int .i64 2] 3)).heap.size) = b1 from hb1.symm]; (have HW1 := Lib.hid hw1); (have HL1 := Lib.hid hl1); clear hw1 hl1 hs1 hb1)
    | (refine wpList_storeO rfl 40 (.tmp 1) (.tmp 9) rfl b1 #[.slice none 0 0, .slice none 0 0, .int .i64 0, .string ⟨#[]⟩, .slice none 0 0, .slice none 0 0, .slice none 0 0, .slice none 0 0, .slice none 0 0, .int .i64 0, .int .i64 0, .int .i64 0, .string ⟨#[]⟩, .slice none 0 0, .int .i64 0, .int .i64 0, .int .i64 0, .int .i64 0, .string ⟨#[]⟩, .slice none 0 0, .int .i64 0, .slice none 0 0, .int .i64 0, .int .i64 0, .int .i64 0, .bool false, .bool false, .bool false, .int .i64 0] (awC W.heap.size).toArray rfl rfl HW1.out (by kernel_rfl) rfl HON.out ?_; intro w2 hw2 hg2 hs2; obtain ⟨hl2, hst2, hpk⟩ := HA.out w1 w2 HL1.out hw2 hg2; (have HL2 := Lib.hid hl2); (have HST2 := Lib.hid hst2); (have HPK := Lib.hid hpk); clear hw2 hg2 hs2 hl2 hst2 hpk)
    | (refine wpList_loadRun rfl 40 (.tmp 1) rfl _ _ rfl (HST2.out _ (Later.refl _)).2 ?_)
    | (go_at_call 9; (with_reducible refine HPK.out.mono ?_); rintro e w3 ⟨A, n, c, rfl, hl3, hun⟩; (have HL3 := Lib.hid hl3); (have HUN := Lib.hid hun); clear hl3 hun)
    | (go_at_call 10; (with_reducible refine HUN.out.mono ?_); rintro e w4 ⟨cs, rfl, hl4, hC⟩; obtain ⟨hi4, hz4, ho4⟩ := HSZ.out w4 cs hC; (have HL4 := Lib.hid hl4); (have HCC := Lib.hid hC); (have HI4 := Lib.hid hi4); (have HZ4 := Lib.hid hz4); (have HO4 := Lib.hid ho4); clear hl4 hC hi4 hz4 ho4)
    | (refine wpList_allocO 2 rfl rfl 40 rfl #[.slice none 0 0, .slice none 0 0, .int .i64 0, .string ⟨#[]⟩, .slice none 0 0, .slice none 0 0, .slice none 0 0, .slice none 0 0, .slice none 0 0, .int .i64 0, .int .i64 0, .int .i64 0, .string ⟨#[]⟩, .slice none 0 0, .int .i64 0, .int .i64 0, .int .i64 0, .int .i64 0, .string ⟨#[]⟩, .slice none 0 0, .int .i64 0, .slice none 0 0, .int .i64 0, .int .i64 0, .int .i64 0, .bool false, .bool false, .bool false, .int .i64 0] 29 (by kernel_rfl) ?_; intro w5 hw5 hl5 hs5; (have HW5 := Lib.hid hw5); (have HL5 := Lib.hid hl5); clear hw5 hl5 hs5)
    | (refine wpList_storeO rfl 40 (.tmp 2) (.tmp 14) rfl w4.heap.size #[.slice none 0 0, .slice none 0 0, .int .i64 0, .string ⟨#[]⟩, .slice none 0 0, .slice none 0 0, .slice none 0 0, .slice none 0 0, .slice none 0 0, .int .i64 0, .int .i64 0, .int .i64 0, .string ⟨#[]⟩, .slice none 0 0, .int .i64 0, .int .i64 0, .int .i64 0, .int .i64 0, .string ⟨#[]⟩, .slice none 0 0, .int .i64 0, .slice none 0 0, .int .i64 0, .int .i64 0, .int .i64 0, .bool false, .bool false, .bool false, .int .i64 0] (List.toArray cs) rfl rfl HW5.out HI4.out HZ4.out HO4.out ?_; intro w6 hw6 hg6 hs6; obtain ⟨hl6, hst6, g1, o1, c1, g2, o2, c2, g3, o3, c3, haw⟩ := HT.out w4 w5 w6 cs HCC.out HL5.out hw6 hg6; (have HL6 := Lib.hid ((HL3.out.trans HL4.out).trans hl6)); (have HST6 := Lib.hid hst6); (have HAW := Lib.hid haw); clear hw6 hg6 hs6 hl6 hst6 haw)
    | (go_at_call 9; (with_reducible refine (HPZ.out _).mono ?_); rintro e w7 ⟨Az, cz, rfl, hl7⟩; (have HL7 := Lib.hid hl7); clear hl7)
    | (refine wpList_loadRunG rfl 40 (.tmp 1) rfl _ _ rfl (HST2.out _ (HL6.out.trans HL7.out)).2 ?_)
    | (refine wpList_loadRunG rfl 40 (.tmp 2) rfl _ _ rfl (HST6.out _ HL7.out).2 ?_)
    | (go_at_call 13; (with_reducible refine (HS1.out w7 cs (HST2.out _ (HL6.out.trans HL7.out)).1 (HST6.out _ HL7.out).1).mono ?_); rintro e w8 ⟨rfl, hl8⟩; (have HL8 := Lib.hid hl8); clear hl8)
    | (refine wpList_loadRunG rfl 40 (.tmp 1) rfl _ _ rfl (HST2.out _ ((HL6.out.trans HL7.out).trans HL8.out)).2 ?_)
    | (go_at_call 13; (with_reducible refine (HS2.out w8 (HST2.out _ ((HL6.out.trans HL7.out).trans HL8.out)).1).mono ?_); rintro e w9 ⟨rfl, hl9⟩; obtain ⟨q1, q2, q3, q4, q5, q6⟩ := ((HAW.out.later HL7.out).later HL8.out).later hl9; (have HL9 := Lib.hid (((((HLW.out.trans HL2.out).trans HL6.out).trans HL7.out).trans HL8.out).trans hl9)); clear hl9))
  go_ret
  exact ⟨rfl, HL9.out⟩
end Ks
end Go.Proofs.Yteljmlodbnfhbaa
