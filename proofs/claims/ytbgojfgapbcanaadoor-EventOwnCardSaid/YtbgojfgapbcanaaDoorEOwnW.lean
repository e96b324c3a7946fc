/- The walk of EventOwn. -/
import Derived.Test.YtbgojfgapbcanaaDoorEvX
import Derived.Test.YtbgojfgapbcanaaDoorEvW
import Derived.Test.YtbgojfgapbcanaaDoorSof2
namespace Go.Proofs.YtbgojfgapbcanaaDoor
namespace eventOwn
open Go.RowKit
set_option maxRecDepth 100000 in
set_option maxHeartbeats 1000000 in
theorem walk11 (w : World) (hN : Names w) (A : Option Addr) (n0 cap : Nat) (bs : List UInt8) (hr : Rd w w.heap.size A n0 (bs.map bv)) (hn : n0 ≤ 140737488351232) (h3 : n0 ≤ 3000) (k : Nat) (n m : Int) (t : List UInt8) (l : List (List UInt8)) (kk ee : Nat) (nn mm : Int) (tt : List UInt8) (ll : List (List UInt8)) (ss : Nat) (ha : askedM bs = ((k, n, m, t, l), 0)) (hto : toldM bs = ((kk, ee, nn, mm, tt, ll, ss), 0)) :
    Calls Tryd.prog 6 #[.slice A n0 cap] w fun r w' => r = .returned (.bool true) ∧ Below w.heap.size w w' := by
  have HN := Lib.hid hN
  have HR := Lib.hid hr
  have hbl := Lib.hid hr.len
  have HA := Lib.hid ha
  have HT := Lib.hid hto
  have h3000 : ¬ 3000 < n0 := by omega
  have hb3 := Lib.hid (show bs.length ≤ 3000 by have := hbl.out; omega)
  clear hN hr ha hto
  go_enter Tryd.func6, Tryd.ntmps6
  go_wp2_with (first
    | (go_at_call 8; (with_reducible refine (evAwake_v _ HN.out).mono ?_); rintro r w1 ⟨rfl, hb1⟩; have HB1 := Lib.hid hb1; have R1 := Lib.hid (rd_later HR.out hb1); clear hb1)
    | (go_at_call 22; (with_reducible refine (askedK HA.out A n0 cap w1 R1.out hn).mono ?_); rintro r w2 ⟨A2, c2, rfl, hr2, hc2, hl2, _⟩; have RQ := Lib.hid hr2; have HB2 := Lib.hid (Later.trans HB1.out (Later.trans hl2 (Later.alloc w2 (.cells (qC k n m t A2 l.length c2) 24)))); have R2 := Lib.hid (rd_later HR.out HB2.out); clear hr2 hl2)
    | (go_at_call 24; (with_reducible refine (toldK HT.out A n0 cap _ R2.out hn).mono ?_); rintro r w3 ⟨A3, c3, rfl, hr3, hc3, hl3, _⟩; have RA := Lib.hid hr3; have L3 := Lib.hid hl3; clear hr3 hl3))
  have L3' := Lib.hid (Later.trans L3.out (Later.alloc w3 (.cells (aC kk ee nn mm tt A3 ll.length c3 ss) 26)))
  have HB3 := Lib.hid (Later.trans HB2.out L3'.out)
  obtain ⟨wz, hwz⟩ : ∃ wz, wz = w3.alloc (.cells (aC kk ee nn mm tt A3 ll.length c3 ss) 26) := ⟨_, rfl⟩
  have hk8 : ∀ W, Later wz W → Hid (Later wz W) ∧ W.cell? ⟨w2.heap.size, 0, none⟩ = some (.int .i64 (k : Int)) ∧ W.cell? ⟨w2.heap.size, 1, none⟩ = some (.int .i64 n) ∧ W.cell? ⟨w2.heap.size, 2, none⟩ = some (.int .i64 m) ∧ W.cell? ⟨w2.heap.size, 3, none⟩ = some (.string (mkS t)) ∧ W.cell? ⟨w2.heap.size, 4, none⟩ = some (.slice A2 l.length c2) ∧ (convert 33 9 (.slice A n0 cap)).run Tryd.prog W = .ok (.string (mkS bs)) W := fun W hW => by
    obtain ⟨h0, h1, h2, h3, h4⟩ := qcellsK w2 k n m t A2 l.length c2 (Later.trans L3'.out (by rw [← hwz]; exact hW))
    exact ⟨hW, h0, h1, h2, h3, h4, run_str_of (rd_later HR.out (Later.trans HB3.out (by rw [← hwz]; exact hW))) 33 9 5 Tryd.underlying33 Tryd.underlying5 Tryd.underlying9 cap⟩
  have hk10 : ∀ W, Later wz W → Hid (Later wz W) ∧ W.cell? ⟨w3.heap.size, 0, none⟩ = some (.int .i64 (kk : Int)) ∧ W.cell? ⟨w3.heap.size, 1, none⟩ = some (.int .i64 (ee : Int)) ∧ W.cell? ⟨w3.heap.size, 2, none⟩ = some (.int .i64 nn) ∧ W.cell? ⟨w3.heap.size, 3, none⟩ = some (.int .i64 mm) ∧ W.cell? ⟨w3.heap.size, 4, none⟩ = some (.string (mkS tt)) ∧ W.cell? ⟨w3.heap.size, 5, none⟩ = some (.slice A3 ll.length c3) ∧ W.cell? ⟨w3.heap.size, 6, none⟩ = some (.int .i64 (ss : Int)) ∧ (convert 33 9 (.slice A n0 cap)).run Tryd.prog W = .ok (.string (mkS bs)) W := fun W hW => by
    obtain ⟨h0, h1, h2, h3, h4, h5, h6⟩ := acellsK w3 kk ee nn mm tt A3 ll.length c3 ss (W := W) (by rw [← hwz]; exact hW)
    exact ⟨hW, h0, h1, h2, h3, h4, h5, h6, run_str_of (rd_later HR.out (Later.trans HB3.out (by rw [← hwz]; exact hW))) 33 9 5 Tryd.underlying33 Tryd.underlying5 Tryd.underlying9 cap⟩
  have HK8 := Lib.hid hk8
  have HK10 := Lib.hid hk10
  have RQ3 := Lib.hid (show Rd wz wz.heap.size A2 l.length (l.map sv) by rw [hwz]; exact rd_later RQ.out (Later.trans (Later.alloc w2 _) L3'.out))
  have RA3 := Lib.hid (show Rd wz wz.heap.size A3 ll.length (ll.map sv) by rw [hwz]; exact rd_later RA.out (Later.alloc w3 _))
  have HB4 := Lib.hid (show Later w wz by rw [hwz]; exact HB3.out)
  have LZ := Lib.hid (Later.refl wz)
  rw [← hwz]
  have HWZ := Lib.hid hwz
  clear hk8 hk10 hwz
  refine wp_region_owes (by kernel_rfl) (fun W => Later wz W) (Later) (Later.refl) [Sp.val (.int .i64 0), Sp.val (.bool true), Sp.val (.bool true), Sp.val (.agg #[.int .i64 (k : Int), .int .i64 n, .int .i64 m, .string (mkS t), .slice A2 l.length c2]), spBytes bs.length bs, Sp.val (.string (mkS bs)), Sp.val (.slice A n0 cap), Sp.val (.string (mkS bs)), Sp.val (.bool false), Sp.val (.bool false), Sp.val (.agg #[.int .i64 (k : Int), .int .i64 n, .int .i64 m, .string (mkS t), .slice A2 l.length c2]), Sp.val (.bool true), Sp.val (.bool false), Sp.val (.bool false), Sp.val (.bool false), Sp.val (.bool false), Sp.val (.int .i64 0), Sp.val (.bool false), Sp.val (.bool false), Sp.val (undef), Sp.val (undef), Sp.val (undef), Sp.val (.bool false), Sp.val (.bool false)] (by kernel_rfl) (Later.drew wz) ?_ ?_
  · refine ⟨?_, ?_, ?_, ?_, ?_, ?_, ?_, ?_, ?_, ?_, ?_, ?_, ?_, ?_, ?_, ?_, ?_, ?_, ?_, ?_, ?_, ?_, ?_, ?_, trivial⟩
    · -- 0: slot 24 := Op.move t5
      refine fun a w hC hs => .inl ⟨?_, ?_⟩
      · rfl
      have e5 : a.tmps.getD 5 undef = .int .i64 0 := hs.free 5 rfl
      exact ⟨e5, hC, Later.refl _⟩
    · -- 1: slot 25 := Op.binOp BinOp.eql 39 t24 (const (0:i64)) 39
      refine fun a w hC hs => .inl ⟨?_, ?_⟩
      · rfl
      have e24 : a.tmps.getD 24 undef = .int .i64 0 := hs.dep 0 _ rfl rfl
      refine ValWp.pure (v := .bool true) (fun K' hK' => ?_) ⟨rfl, hC, Later.refl _⟩
      simp only [ValWp, execOp, Act.eval, e24]
      go_simp
      all_goals exact hK'
    · -- 2: slot 26 := Op.move t25
      refine fun a w hC hs => .inl ⟨?_, ?_⟩
      · rfl
      have e25 : a.tmps.getD 25 undef = .bool true := hs.dep 1 _ rfl rfl
      exact ⟨e25, hC, Later.refl _⟩
    · -- 3: slot 27 := Op.load 24 t4 guarded (2, 'true')
      refine fun a w hC hs => .inl ⟨?_, ?_⟩
      · exact (by unfold Region.wanted; dsimp only; rw [yielded_bool (d := 26) rfl (hs.dep 2 _ rfl rfl)]; rfl)
      have e4 : a.tmps.getD 4 undef = .pointer (some ⟨w2.heap.size, 0, none⟩) := hs.free 4 rfl
      obtain ⟨_, q0, q1, q2, q3, q4, hcv⟩ := HK8.out w hC
      refine ValWp.pure (v := .agg #[.int .i64 (k : Int), .int .i64 n, .int .i64 m, .string (mkS t), .slice A2 l.length c2]) (fun K' hK' => ?_) ⟨rfl, hC, Later.refl _⟩
      simp only [ValWp, execOp, Act.eval, e4]
      go_simp
      all_goals exact hK'
    · -- 4: slot 28 := Op.call { value (Operand.func 18), args := #[t27], argTypes := #[24] } guarded (2, 'true')
      refine fun a w hC hs => .inl ⟨?_, ?_⟩
      · exact (by unfold Region.wanted; dsimp only; rw [yielded_bool (d := 26) rfl (hs.dep 2 _ rfl rfl)]; rfl)
      have e27 : a.tmps.getD 27 undef = .agg #[.int .i64 (k : Int), .int .i64 n, .int .i64 m, .string (mkS t), .slice A2 l.length c2] := hs.dep 3 _ rfl rfl
      refine ValWp.call #[.agg #[.int .i64 (k : Int), .int .i64 n, .int .i64 m, .string (mkS t), .slice A2 l.length c2]] rfl rfl Tryd.func18 rfl rfl (by simp only [List.map_toArray, List.map_cons, List.map_nil, Act.eval, e27]) ?_
      refine (askK HA.out hb3.out A2 c2 w (rd_later RQ3.out hC)).mono ?_
      rintro r w' ⟨A6, c6, rfl, hl6, hr6⟩
      exact ⟨_, rfl, ⟨A6, c6, rfl, hr6⟩, Later.trans hC hl6, hl6⟩
    · -- 5: slot 29 := Op.convert 33 9 t28 guarded (2, 'true')
      refine fun a w hC hs => .inl ⟨?_, ?_⟩
      · exact (by unfold Region.wanted; dsimp only; rw [yielded_bool (d := 26) rfl (hs.dep 2 _ rfl rfl)]; rfl)
      obtain ⟨A28, c28, e28, h28⟩ := hs.dep 4 _ rfl rfl
      change a.tmps.getD 28 undef = _ at e28
      have hcv := run_str_of (P := Tryd.prog) h28 33 9 5 Tryd.underlying33 Tryd.underlying5 Tryd.underlying9 c28
      refine ValWp.pure (v := .string (mkS bs)) (fun K' hK' => ?_) ⟨rfl, hC, Later.refl _⟩
      simp only [ValWp, execOp, Act.eval, e28]
      go_simp
      all_goals exact hK'
    · -- 6: slot 30 := Op.move t0 guarded (2, 'true')
      refine fun a w hC hs => .inl ⟨?_, ?_⟩
      · exact (by unfold Region.wanted; dsimp only; rw [yielded_bool (d := 26) rfl (hs.dep 2 _ rfl rfl)]; rfl)
      have e0 : a.tmps.getD 0 undef = .slice A n0 cap := hs.free 0 rfl
      exact ⟨e0, hC, Later.refl _⟩
    · -- 7: slot 31 := Op.convert 33 9 t30 guarded (2, 'true')
      refine fun a w hC hs => .inl ⟨?_, ?_⟩
      · exact (by unfold Region.wanted; dsimp only; rw [yielded_bool (d := 26) rfl (hs.dep 2 _ rfl rfl)]; rfl)
      have e30 : a.tmps.getD 30 undef = .slice A n0 cap := hs.dep 6 _ rfl rfl
      obtain ⟨_, q0, q1, q2, q3, q4, hcv⟩ := HK8.out w hC
      refine ValWp.pure (v := .string (mkS bs)) (fun K' hK' => ?_) ⟨rfl, hC, Later.refl _⟩
      simp only [ValWp, execOp, Act.eval, e30]
      go_simp
      all_goals exact hK'
    · -- 8: slot 32 := Op.binOp BinOp.neq 9 t29 t31 9 guarded (2, 'true')
      refine fun a w hC hs => .inl ⟨?_, ?_⟩
      · exact (by unfold Region.wanted; dsimp only; rw [yielded_bool (d := 26) rfl (hs.dep 2 _ rfl rfl)]; rfl)
      have e29 : a.tmps.getD 29 undef = .string (mkS bs) := hs.dep 5 _ rfl rfl
      have e31 : a.tmps.getD 31 undef = .string (mkS bs) := hs.dep 7 _ rfl rfl
      refine ValWp.pure (v := .bool false) (fun K' hK' => ?_) ⟨rfl, hC, Later.refl _⟩
      simp only [ValWp, execOp, Act.eval, e29, e31]
      go_simp
      all_goals exact hK'
    · -- 9: slot 33 := Op.move t32 guarded (2, 'true')
      refine fun a w hC hs => .inl ⟨?_, ?_⟩
      · exact (by unfold Region.wanted; dsimp only; rw [yielded_bool (d := 26) rfl (hs.dep 2 _ rfl rfl)]; rfl)
      have e32 : a.tmps.getD 32 undef = .bool false := hs.dep 8 _ rfl rfl
      exact ⟨e32, hC, Later.refl _⟩
    · -- 10: slot 34 := Op.load 24 t4 guarded (9, 'false')
      refine fun a w hC hs => .inl ⟨?_, ?_⟩
      · exact (by unfold Region.wanted; dsimp only; rw [yielded_bool (d := 33) rfl (hs.dep 9 _ rfl rfl)]; rfl)
      have e4 : a.tmps.getD 4 undef = .pointer (some ⟨w2.heap.size, 0, none⟩) := hs.free 4 rfl
      obtain ⟨_, q0, q1, q2, q3, q4, hcv⟩ := HK8.out w hC
      refine ValWp.pure (v := .agg #[.int .i64 (k : Int), .int .i64 n, .int .i64 m, .string (mkS t), .slice A2 l.length c2]) (fun K' hK' => ?_) ⟨rfl, hC, Later.refl _⟩
      simp only [ValWp, execOp, Act.eval, e4]
      go_simp
      all_goals exact hK'
    · -- 11: slot 35 := Op.call { value (Operand.func 12), args := #[t34], argTypes := #[24] } guarded (9, 'false')
      refine fun a w hC hs => .inl ⟨?_, ?_⟩
      · exact (by unfold Region.wanted; dsimp only; rw [yielded_bool (d := 33) rfl (hs.dep 9 _ rfl rfl)]; rfl)
      have e34 : a.tmps.getD 34 undef = .agg #[.int .i64 (k : Int), .int .i64 n, .int .i64 m, .string (mkS t), .slice A2 l.length c2] := hs.dep 10 _ rfl rfl
      refine ValWp.call #[.agg #[.int .i64 (k : Int), .int .i64 n, .int .i64 m, .string (mkS t), .slice A2 l.length c2]] rfl rfl Tryd.func12 rfl rfl (by simp only [List.map_toArray, List.map_cons, List.map_nil, Act.eval, e34]) ?_
      refine (rightK HA.out A2 c2 w).mono ?_
      rintro r w' ⟨rfl, hl7⟩
      exact ⟨_, rfl, rfl, Later.trans hC hl7, hl7⟩
    · -- 12: slot 36 := Op.unOp UnOp.not 4 t35 guarded (9, 'false')
      refine fun a w hC hs => .inl ⟨?_, ?_⟩
      · exact (by unfold Region.wanted; dsimp only; rw [yielded_bool (d := 33) rfl (hs.dep 9 _ rfl rfl)]; rfl)
      have e35 : a.tmps.getD 35 undef = .bool true := hs.dep 11 _ rfl rfl
      refine ValWp.pure (v := .bool false) (fun K' hK' => ?_) ⟨rfl, hC, Later.refl _⟩
      simp only [ValWp, execOp, Act.eval, e35]
      go_simp
      all_goals exact hK'
    · -- 13: slot 37 := Op.pick t33 (const (Value.bool true)) t36 guarded (2, 'true')
      refine fun a w hC hs => .inl ⟨?_, ?_⟩
      · exact (by unfold Region.wanted; dsimp only; rw [yielded_bool (d := 26) rfl (hs.dep 2 _ rfl rfl)]; rfl)
      have e33 : a.tmps.getD 33 undef = .bool false := hs.dep 9 _ rfl rfl
      have e36 : a.tmps.getD 36 undef = .bool false := hs.dep 12 _ rfl rfl
      refine ValWp.pure (v := .bool false) (fun K' hK' => ?_) ⟨rfl, hC, Later.refl _⟩
      simp only [ValWp, execOp, Act.eval, e33, e36]
      go_simp
      all_goals exact hK'
    · -- 14: slot 38 := Op.pick t26 t37 (const (Value.bool false))
      refine fun a w hC hs => .inl ⟨?_, ?_⟩
      · rfl
      have e26 : a.tmps.getD 26 undef = .bool true := hs.dep 2 _ rfl rfl
      have e37 : a.tmps.getD 37 undef = .bool false := hs.dep 13 _ rfl rfl
      refine ValWp.pure (v := .bool false) (fun K' hK' => ?_) ⟨rfl, hC, Later.refl _⟩
      simp only [ValWp, execOp, Act.eval, e26, e37]
      go_simp
      all_goals exact hK'
    · -- 15: slot 39 := Op.move t38
      refine fun a w hC hs => .inl ⟨?_, ?_⟩
      · rfl
      have e38 : a.tmps.getD 38 undef = .bool false := hs.dep 14 _ rfl rfl
      exact ⟨e38, hC, Later.refl _⟩
    · -- 16: slot 40 := Op.move t5 guarded (15, 'false')
      refine fun a w hC hs => .inl ⟨?_, ?_⟩
      · exact (by unfold Region.wanted; dsimp only; rw [yielded_bool (d := 39) rfl (hs.dep 15 _ rfl rfl)]; rfl)
      have e5 : a.tmps.getD 5 undef = .int .i64 0 := hs.free 5 rfl
      exact ⟨e5, hC, Later.refl _⟩
    · -- 17: slot 41 := Op.binOp BinOp.neq 39 t40 (const (0:i64)) 39 guarded (15, 'false')
      refine fun a w hC hs => .inl ⟨?_, ?_⟩
      · exact (by unfold Region.wanted; dsimp only; rw [yielded_bool (d := 39) rfl (hs.dep 15 _ rfl rfl)]; rfl)
      have e40 : a.tmps.getD 40 undef = .int .i64 0 := hs.dep 16 _ rfl rfl
      refine ValWp.pure (v := .bool false) (fun K' hK' => ?_) ⟨rfl, hC, Later.refl _⟩
      simp only [ValWp, execOp, Act.eval, e40]
      go_simp
      all_goals exact hK'
    · -- 18: slot 42 := Op.move t41 guarded (15, 'false')
      refine fun a w hC hs => .inl ⟨?_, ?_⟩
      · exact (by unfold Region.wanted; dsimp only; rw [yielded_bool (d := 39) rfl (hs.dep 15 _ rfl rfl)]; rfl)
      have e41 : a.tmps.getD 41 undef = .bool false := hs.dep 17 _ rfl rfl
      exact ⟨e41, hC, Later.refl _⟩
    · -- 19: slot 43 := Op.fieldAddr 24 t4 0 guarded (18, 'true')
      exact fun a w hC hs => .inr ⟨(by unfold Region.wanted; dsimp only; rw [yielded_bool (d := 42) rfl (hs.dep 18 _ rfl rfl)]; rfl), rfl⟩
    · -- 20: slot 44 := Op.load 3 t43 guarded (18, 'true')
      exact fun a w hC hs => .inr ⟨(by unfold Region.wanted; dsimp only; rw [yielded_bool (d := 42) rfl (hs.dep 18 _ rfl rfl)]; rfl), rfl⟩
    · -- 21: slot 45 := Op.binOp BinOp.neq 3 t44 (const (0:i64)) 3 guarded (18, 'true')
      exact fun a w hC hs => .inr ⟨(by unfold Region.wanted; dsimp only; rw [yielded_bool (d := 42) rfl (hs.dep 18 _ rfl rfl)]; rfl), rfl⟩
    · -- 22: slot 46 := Op.pick t42 t45 (const (Value.bool false)) guarded (15, 'false')
      refine fun a w hC hs => .inl ⟨?_, ?_⟩
      · exact (by unfold Region.wanted; dsimp only; rw [yielded_bool (d := 39) rfl (hs.dep 15 _ rfl rfl)]; rfl)
      have e42 : a.tmps.getD 42 undef = .bool false := hs.dep 18 _ rfl rfl
      have e45 : a.tmps.getD 45 undef = undef := hs.dep 21 _ rfl rfl
      refine ValWp.pure (v := .bool false) (fun K' hK' => ?_) ⟨rfl, hC, Later.refl _⟩
      simp only [ValWp, execOp, Act.eval, e42, e45]
      go_simp
      all_goals exact hK'
    · -- 23: slot 47 := Op.pick t39 (const (Value.bool true)) t46
      refine fun a w hC hs => .inl ⟨?_, ?_⟩
      · rfl
      have e39 : a.tmps.getD 39 undef = .bool false := hs.dep 15 _ rfl rfl
      have e46 : a.tmps.getD 46 undef = .bool false := hs.dep 22 _ rfl rfl
      refine ValWp.pure (v := .bool false) (fun K' hK' => ?_) ⟨rfl, hC, Later.refl _⟩
      simp only [ValWp, execOp, Act.eval, e39, e46]
      go_simp
      all_goals exact hK'
  · intro a W hC hd hsz hfree hs
    obtain ⟨u1, hu1⟩ : ∃ u, u = a.tmps.getD 1 undef := ⟨_, rfl⟩
    obtain ⟨u2, hu2⟩ : ∃ u, u = a.tmps.getD 2 undef := ⟨_, rfl⟩
    obtain ⟨u3, hu3⟩ : ∃ u, u = a.tmps.getD 3 undef := ⟨_, rfl⟩
    obtain ⟨u4, hu4⟩ : ∃ u, u = a.tmps.getD 4 undef := ⟨_, rfl⟩
    obtain ⟨u5, hu5⟩ : ∃ u, u = a.tmps.getD 5 undef := ⟨_, rfl⟩
    obtain ⟨u8, hu8⟩ : ∃ u, u = a.tmps.getD 8 undef := ⟨_, rfl⟩
    obtain ⟨u9, hu9⟩ : ∃ u, u = a.tmps.getD 9 undef := ⟨_, rfl⟩
    obtain ⟨u10, hu10⟩ : ∃ u, u = a.tmps.getD 10 undef := ⟨_, rfl⟩
    obtain ⟨u11, hu11⟩ : ∃ u, u = a.tmps.getD 11 undef := ⟨_, rfl⟩
    obtain ⟨u12, hu12⟩ : ∃ u, u = a.tmps.getD 12 undef := ⟨_, rfl⟩
    obtain ⟨u13, hu13⟩ : ∃ u, u = a.tmps.getD 13 undef := ⟨_, rfl⟩
    obtain ⟨u14, hu14⟩ : ∃ u, u = a.tmps.getD 14 undef := ⟨_, rfl⟩
    obtain ⟨u15, hu15⟩ : ∃ u, u = a.tmps.getD 15 undef := ⟨_, rfl⟩
    obtain ⟨u16, hu16⟩ : ∃ u, u = a.tmps.getD 16 undef := ⟨_, rfl⟩
    obtain ⟨u17, hu17⟩ : ∃ u, u = a.tmps.getD 17 undef := ⟨_, rfl⟩
    obtain ⟨u18, hu18⟩ : ∃ u, u = a.tmps.getD 18 undef := ⟨_, rfl⟩
    obtain ⟨u19, hu19⟩ : ∃ u, u = a.tmps.getD 19 undef := ⟨_, rfl⟩
    obtain ⟨u20, hu20⟩ : ∃ u, u = a.tmps.getD 20 undef := ⟨_, rfl⟩
    obtain ⟨u21, hu21⟩ : ∃ u, u = a.tmps.getD 21 undef := ⟨_, rfl⟩
    obtain ⟨u22, hu22⟩ : ∃ u, u = a.tmps.getD 22 undef := ⟨_, rfl⟩
    obtain ⟨u23, hu23⟩ : ∃ u, u = a.tmps.getD 23 undef := ⟨_, rfl⟩
    obtain ⟨u24, hu24⟩ : ∃ u, u = a.tmps.getD 24 undef := ⟨_, rfl⟩
    obtain ⟨u25, hu25⟩ : ∃ u, u = a.tmps.getD 25 undef := ⟨_, rfl⟩
    obtain ⟨u26, hu26⟩ : ∃ u, u = a.tmps.getD 26 undef := ⟨_, rfl⟩
    obtain ⟨u27, hu27⟩ : ∃ u, u = a.tmps.getD 27 undef := ⟨_, rfl⟩
    obtain ⟨u28, hu28⟩ : ∃ u, u = a.tmps.getD 28 undef := ⟨_, rfl⟩
    obtain ⟨u29, hu29⟩ : ∃ u, u = a.tmps.getD 29 undef := ⟨_, rfl⟩
    obtain ⟨u30, hu30⟩ : ∃ u, u = a.tmps.getD 30 undef := ⟨_, rfl⟩
    obtain ⟨u31, hu31⟩ : ∃ u, u = a.tmps.getD 31 undef := ⟨_, rfl⟩
    obtain ⟨u32, hu32⟩ : ∃ u, u = a.tmps.getD 32 undef := ⟨_, rfl⟩
    obtain ⟨u33, hu33⟩ : ∃ u, u = a.tmps.getD 33 undef := ⟨_, rfl⟩
    obtain ⟨u34, hu34⟩ : ∃ u, u = a.tmps.getD 34 undef := ⟨_, rfl⟩
    obtain ⟨u35, hu35⟩ : ∃ u, u = a.tmps.getD 35 undef := ⟨_, rfl⟩
    obtain ⟨u36, hu36⟩ : ∃ u, u = a.tmps.getD 36 undef := ⟨_, rfl⟩
    obtain ⟨u37, hu37⟩ : ∃ u, u = a.tmps.getD 37 undef := ⟨_, rfl⟩
    obtain ⟨u38, hu38⟩ : ∃ u, u = a.tmps.getD 38 undef := ⟨_, rfl⟩
    obtain ⟨u39, hu39⟩ : ∃ u, u = a.tmps.getD 39 undef := ⟨_, rfl⟩
    obtain ⟨u40, hu40⟩ : ∃ u, u = a.tmps.getD 40 undef := ⟨_, rfl⟩
    obtain ⟨u41, hu41⟩ : ∃ u, u = a.tmps.getD 41 undef := ⟨_, rfl⟩
    obtain ⟨u42, hu42⟩ : ∃ u, u = a.tmps.getD 42 undef := ⟨_, rfl⟩
    obtain ⟨u43, hu43⟩ : ∃ u, u = a.tmps.getD 43 undef := ⟨_, rfl⟩
    obtain ⟨u44, hu44⟩ : ∃ u, u = a.tmps.getD 44 undef := ⟨_, rfl⟩
    obtain ⟨u45, hu45⟩ : ∃ u, u = a.tmps.getD 45 undef := ⟨_, rfl⟩
    obtain ⟨u46, hu46⟩ : ∃ u, u = a.tmps.getD 46 undef := ⟨_, rfl⟩
    obtain ⟨u48, hu48⟩ : ∃ u, u = a.tmps.getD 48 undef := ⟨_, rfl⟩
    obtain ⟨u49, hu49⟩ : ∃ u, u = a.tmps.getD 49 undef := ⟨_, rfl⟩
    obtain ⟨u50, hu50⟩ : ∃ u, u = a.tmps.getD 50 undef := ⟨_, rfl⟩
    obtain ⟨u51, hu51⟩ : ∃ u, u = a.tmps.getD 51 undef := ⟨_, rfl⟩
    obtain ⟨u52, hu52⟩ : ∃ u, u = a.tmps.getD 52 undef := ⟨_, rfl⟩
    obtain ⟨u53, hu53⟩ : ∃ u, u = a.tmps.getD 53 undef := ⟨_, rfl⟩
    obtain ⟨u54, hu54⟩ : ∃ u, u = a.tmps.getD 54 undef := ⟨_, rfl⟩
    obtain ⟨u55, hu55⟩ : ∃ u, u = a.tmps.getD 55 undef := ⟨_, rfl⟩
    obtain ⟨u56, hu56⟩ : ∃ u, u = a.tmps.getD 56 undef := ⟨_, rfl⟩
    obtain ⟨u57, hu57⟩ : ∃ u, u = a.tmps.getD 57 undef := ⟨_, rfl⟩
    obtain ⟨u58, hu58⟩ : ∃ u, u = a.tmps.getD 58 undef := ⟨_, rfl⟩
    obtain ⟨u59, hu59⟩ : ∃ u, u = a.tmps.getD 59 undef := ⟨_, rfl⟩
    obtain ⟨u60, hu60⟩ : ∃ u, u = a.tmps.getD 60 undef := ⟨_, rfl⟩
    obtain ⟨u61, hu61⟩ : ∃ u, u = a.tmps.getD 61 undef := ⟨_, rfl⟩
    obtain ⟨u62, hu62⟩ : ∃ u, u = a.tmps.getD 62 undef := ⟨_, rfl⟩
    obtain ⟨u63, hu63⟩ : ∃ u, u = a.tmps.getD 63 undef := ⟨_, rfl⟩
    obtain ⟨u64, hu64⟩ : ∃ u, u = a.tmps.getD 64 undef := ⟨_, rfl⟩
    obtain ⟨u65, hu65⟩ : ∃ u, u = a.tmps.getD 65 undef := ⟨_, rfl⟩
    obtain ⟨u66, hu66⟩ : ∃ u, u = a.tmps.getD 66 undef := ⟨_, rfl⟩
    obtain ⟨u67, hu67⟩ : ∃ u, u = a.tmps.getD 67 undef := ⟨_, rfl⟩
    obtain ⟨u68, hu68⟩ : ∃ u, u = a.tmps.getD 68 undef := ⟨_, rfl⟩
    obtain ⟨u69, hu69⟩ : ∃ u, u = a.tmps.getD 69 undef := ⟨_, rfl⟩
    obtain ⟨u70, hu70⟩ : ∃ u, u = a.tmps.getD 70 undef := ⟨_, rfl⟩
    obtain ⟨u71, hu71⟩ : ∃ u, u = a.tmps.getD 71 undef := ⟨_, rfl⟩
    obtain ⟨u72, hu72⟩ : ∃ u, u = a.tmps.getD 72 undef := ⟨_, rfl⟩
    obtain ⟨u73, hu73⟩ : ∃ u, u = a.tmps.getD 73 undef := ⟨_, rfl⟩
    obtain ⟨u74, hu74⟩ : ∃ u, u = a.tmps.getD 74 undef := ⟨_, rfl⟩
    obtain ⟨u75, hu75⟩ : ∃ u, u = a.tmps.getD 75 undef := ⟨_, rfl⟩
    obtain ⟨u76, hu76⟩ : ∃ u, u = a.tmps.getD 76 undef := ⟨_, rfl⟩
    obtain ⟨u77, hu77⟩ : ∃ u, u = a.tmps.getD 77 undef := ⟨_, rfl⟩
    obtain ⟨u78, hu78⟩ : ∃ u, u = a.tmps.getD 78 undef := ⟨_, rfl⟩
    have hal : AllAt a 0 [.slice A n0 cap, u1, u2, u3, u4, u5, .pointer (some ⟨w3.heap.size, 0, none⟩), .int .i64 0, u8, u9, u10, u11, u12, u13, u14, u15, u16, u17, u18, u19, u20, u21, u22, u23, u24, u25, u26, u27, u28, u29, u30, u31, u32, u33, u34, u35, u36, u37, u38, u39, u40, u41, u42, u43, u44, u45, u46, .bool false, u48, u49, u50, u51, u52, u53, u54, u55, u56, u57, u58, u59, u60, u61, u62, u63, u64, u65, u66, u67, u68, u69, u70, u71, u72, u73, u74, u75, u76, u77, u78] := ⟨hfree 0 rfl, hu1.symm, hu2.symm, hu3.symm, hu4.symm, hu5.symm, hfree 6 rfl, hfree 7 rfl, hu8.symm, hu9.symm, hu10.symm, hu11.symm, hu12.symm, hu13.symm, hu14.symm, hu15.symm, hu16.symm, hu17.symm, hu18.symm, hu19.symm, hu20.symm, hu21.symm, hu22.symm, hu23.symm, hu24.symm, hu25.symm, hu26.symm, hu27.symm, hu28.symm, hu29.symm, hu30.symm, hu31.symm, hu32.symm, hu33.symm, hu34.symm, hu35.symm, hu36.symm, hu37.symm, hu38.symm, hu39.symm, hu40.symm, hu41.symm, hu42.symm, hu43.symm, hu44.symm, hu45.symm, hu46.symm, hs 23 _ rfl, hu48.symm, hu49.symm, hu50.symm, hu51.symm, hu52.symm, hu53.symm, hu54.symm, hu55.symm, hu56.symm, hu57.symm, hu58.symm, hu59.symm, hu60.symm, hu61.symm, hu62.symm, hu63.symm, hu64.symm, hu65.symm, hu66.symm, hu67.symm, hu68.symm, hu69.symm, hu70.symm, hu71.symm, hu72.symm, hu73.symm, hu74.symm, hu75.symm, hu76.symm, hu77.symm, hu78.symm, trivial⟩
    have hlit := fun h => act_lit hd h hal
    rw [hlit hsz]
    clear hlit hal hd hsz hfree hs hu1 hu2 hu3 hu4 hu5 hu8 hu9 hu10 hu11 hu12 hu13 hu14 hu15 hu16 hu17 hu18 hu19 hu20 hu21 hu22 hu23 hu24 hu25 hu26 hu27 hu28 hu29 hu30 hu31 hu32 hu33 hu34 hu35 hu36 hu37 hu38 hu39 hu40 hu41 hu42 hu43 hu44 hu45 hu46 hu48 hu49 hu50 hu51 hu52 hu53 hu54 hu55 hu56 hu57 hu58 hu59 hu60 hu61 hu62 hu63 hu64 hu65 hu66 hu67 hu68 hu69 hu70 hu71 hu72 hu73 hu74 hu75 hu76 hu77 hu78
    have LW := Lib.hid (show Later wz W from hC)
    clear hC
    go_wp2
    refine wp_region_owes (by kernel_rfl) (fun X => Later wz X) (Later) (Later.refl) [Sp.val (.int .i64 0), Sp.val (.bool true), Sp.val (.bool true), Sp.val (.agg #[.int .i64 (kk : Int), .int .i64 (ee : Int), .int .i64 nn, .int .i64 mm, .string (mkS tt), .slice A3 ll.length c3, .int .i64 (ss : Int)]), spBytes bs.length bs, Sp.val (.string (mkS bs)), Sp.val (.slice A n0 cap), Sp.val (.string (mkS bs)), Sp.val (.bool true), Sp.val (.bool true), Sp.val (.bool true), Sp.val (.pointer (some ⟨w3.heap.size, 0, none⟩)), Sp.val (.int .i64 (kk : Int)), Sp.val (.agg #[.int .i64 (kk : Int), .int .i64 (ee : Int), .int .i64 nn, .int .i64 mm, .string (mkS tt), .slice A3 ll.length c3, .int .i64 (ss : Int)]), Sp.val (.bool true), Sp.val (.bool true), Sp.val (.bool true), Sp.val (undef), Sp.val (undef), Sp.val (undef), Sp.val (undef), Sp.val (undef), Sp.val (undef), Sp.val (undef), Sp.val (undef), Sp.val (undef), Sp.val (undef), Sp.val (undef), Sp.val (undef), Sp.val (undef), Sp.val (.bool true), Sp.val (.bool true)] (by kernel_rfl) (Later.trans LW.out (Later.drew _)) ?_ ?_
    · refine ⟨?_, ?_, ?_, ?_, ?_, ?_, ?_, ?_, ?_, ?_, ?_, ?_, ?_, ?_, ?_, ?_, ?_, ?_, ?_, ?_, ?_, ?_, ?_, ?_, ?_, ?_, ?_, ?_, ?_, ?_, ?_, ?_, trivial⟩
      · -- 0: slot 48 := Op.move t7
        refine fun a w hC hs => .inl ⟨?_, ?_⟩
        · rfl
        have e7 : a.tmps.getD 7 undef = .int .i64 0 := hs.free 7 rfl
        exact ⟨e7, hC, Later.refl _⟩
      · -- 1: slot 49 := Op.binOp BinOp.eql 39 t48 (const (0:i64)) 39
        refine fun a w hC hs => .inl ⟨?_, ?_⟩
        · rfl
        have e48 : a.tmps.getD 48 undef = .int .i64 0 := hs.dep 0 _ rfl rfl
        refine ValWp.pure (v := .bool true) (fun K' hK' => ?_) ⟨rfl, hC, Later.refl _⟩
        simp only [ValWp, execOp, Act.eval, e48]
        go_simp
        all_goals exact hK'
      · -- 2: slot 50 := Op.move t49
        refine fun a w hC hs => .inl ⟨?_, ?_⟩
        · rfl
        have e49 : a.tmps.getD 49 undef = .bool true := hs.dep 1 _ rfl rfl
        exact ⟨e49, hC, Later.refl _⟩
      · -- 3: slot 51 := Op.load 26 t6 guarded (2, 'true')
        refine fun a w hC hs => .inl ⟨?_, ?_⟩
        · exact (by unfold Region.wanted; dsimp only; rw [yielded_bool (d := 50) rfl (hs.dep 2 _ rfl rfl)]; rfl)
        have e6 : a.tmps.getD 6 undef = .pointer (some ⟨w3.heap.size, 0, none⟩) := hs.free 6 rfl
        obtain ⟨_, q0, q1, q2, q3, q4, q5, q6, hcv⟩ := HK10.out w hC
        refine ValWp.pure (v := .agg #[.int .i64 (kk : Int), .int .i64 (ee : Int), .int .i64 nn, .int .i64 mm, .string (mkS tt), .slice A3 ll.length c3, .int .i64 (ss : Int)]) (fun K' hK' => ?_) ⟨rfl, hC, Later.refl _⟩
        simp only [ValWp, execOp, Act.eval, e6]
        go_simp
        all_goals exact hK'
      · -- 4: slot 52 := Op.call { value (Operand.func 20), args := #[t51], argTypes := #[26] } guarded (2, 'true')
        refine fun a w hC hs => .inl ⟨?_, ?_⟩
        · exact (by unfold Region.wanted; dsimp only; rw [yielded_bool (d := 50) rfl (hs.dep 2 _ rfl rfl)]; rfl)
        have e51 : a.tmps.getD 51 undef = .agg #[.int .i64 (kk : Int), .int .i64 (ee : Int), .int .i64 nn, .int .i64 mm, .string (mkS tt), .slice A3 ll.length c3, .int .i64 (ss : Int)] := hs.dep 3 _ rfl rfl
        refine ValWp.call #[.agg #[.int .i64 (kk : Int), .int .i64 (ee : Int), .int .i64 nn, .int .i64 mm, .string (mkS tt), .slice A3 ll.length c3, .int .i64 (ss : Int)]] rfl rfl Tryd.func20 rfl rfl (by simp only [List.map_toArray, List.map_cons, List.map_nil, Act.eval, e51]) ?_
        refine (tellK HT.out hb3.out A3 c3 w (rd_later RA3.out hC)).mono ?_
        rintro r w' ⟨A8, c8, rfl, hl8, hr8⟩
        exact ⟨_, rfl, ⟨A8, c8, rfl, hr8⟩, Later.trans hC hl8, hl8⟩
      · -- 5: slot 53 := Op.convert 33 9 t52 guarded (2, 'true')
        refine fun a w hC hs => .inl ⟨?_, ?_⟩
        · exact (by unfold Region.wanted; dsimp only; rw [yielded_bool (d := 50) rfl (hs.dep 2 _ rfl rfl)]; rfl)
        obtain ⟨A52, c52, e52, h52⟩ := hs.dep 4 _ rfl rfl
        change a.tmps.getD 52 undef = _ at e52
        have hcv := run_str_of (P := Tryd.prog) h52 33 9 5 Tryd.underlying33 Tryd.underlying5 Tryd.underlying9 c52
        refine ValWp.pure (v := .string (mkS bs)) (fun K' hK' => ?_) ⟨rfl, hC, Later.refl _⟩
        simp only [ValWp, execOp, Act.eval, e52]
        go_simp
        all_goals exact hK'
      · -- 6: slot 54 := Op.move t0 guarded (2, 'true')
        refine fun a w hC hs => .inl ⟨?_, ?_⟩
        · exact (by unfold Region.wanted; dsimp only; rw [yielded_bool (d := 50) rfl (hs.dep 2 _ rfl rfl)]; rfl)
        have e0 : a.tmps.getD 0 undef = .slice A n0 cap := hs.free 0 rfl
        exact ⟨e0, hC, Later.refl _⟩
      · -- 7: slot 55 := Op.convert 33 9 t54 guarded (2, 'true')
        refine fun a w hC hs => .inl ⟨?_, ?_⟩
        · exact (by unfold Region.wanted; dsimp only; rw [yielded_bool (d := 50) rfl (hs.dep 2 _ rfl rfl)]; rfl)
        have e54 : a.tmps.getD 54 undef = .slice A n0 cap := hs.dep 6 _ rfl rfl
        obtain ⟨_, q0, q1, q2, q3, q4, q5, q6, hcv⟩ := HK10.out w hC
        refine ValWp.pure (v := .string (mkS bs)) (fun K' hK' => ?_) ⟨rfl, hC, Later.refl _⟩
        simp only [ValWp, execOp, Act.eval, e54]
        go_simp
        all_goals exact hK'
      · -- 8: slot 56 := Op.binOp BinOp.eql 9 t53 t55 9 guarded (2, 'true')
        refine fun a w hC hs => .inl ⟨?_, ?_⟩
        · exact (by unfold Region.wanted; dsimp only; rw [yielded_bool (d := 50) rfl (hs.dep 2 _ rfl rfl)]; rfl)
        have e53 : a.tmps.getD 53 undef = .string (mkS bs) := hs.dep 5 _ rfl rfl
        have e55 : a.tmps.getD 55 undef = .string (mkS bs) := hs.dep 7 _ rfl rfl
        refine ValWp.pure (v := .bool true) (fun K' hK' => ?_) ⟨rfl, hC, Later.refl _⟩
        simp only [ValWp, execOp, Act.eval, e53, e55]
        go_simp
        all_goals exact hK'
      · -- 9: slot 57 := Op.pick t50 t56 (const (Value.bool false))
        refine fun a w hC hs => .inl ⟨?_, ?_⟩
        · rfl
        have e50 : a.tmps.getD 50 undef = .bool true := hs.dep 2 _ rfl rfl
        have e56 : a.tmps.getD 56 undef = .bool true := hs.dep 8 _ rfl rfl
        refine ValWp.pure (v := .bool true) (fun K' hK' => ?_) ⟨rfl, hC, Later.refl _⟩
        simp only [ValWp, execOp, Act.eval, e50, e56]
        go_simp
        all_goals exact hK'
      · -- 10: slot 58 := Op.move t57
        refine fun a w hC hs => .inl ⟨?_, ?_⟩
        · rfl
        have e57 : a.tmps.getD 57 undef = .bool true := hs.dep 9 _ rfl rfl
        exact ⟨e57, hC, Later.refl _⟩
      · -- 11: slot 59 := Op.fieldAddr 26 t6 0 guarded (10, 'true')
        refine fun a w hC hs => .inl ⟨?_, ?_⟩
        · exact (by unfold Region.wanted; dsimp only; rw [yielded_bool (d := 58) rfl (hs.dep 10 _ rfl rfl)]; rfl)
        have e6 : a.tmps.getD 6 undef = .pointer (some ⟨w3.heap.size, 0, none⟩) := hs.free 6 rfl
        refine ValWp.pure (v := .pointer (some ⟨w3.heap.size, 0, none⟩)) (fun K' hK' => ?_) ⟨rfl, hC, Later.refl _⟩
        simp only [ValWp, execOp, Act.eval, e6]
        go_simp
        all_goals exact hK'
      · -- 12: slot 60 := Op.load 3 t59 guarded (10, 'true')
        refine fun a w hC hs => .inl ⟨?_, ?_⟩
        · exact (by unfold Region.wanted; dsimp only; rw [yielded_bool (d := 58) rfl (hs.dep 10 _ rfl rfl)]; rfl)
        have e59 : a.tmps.getD 59 undef = .pointer (some ⟨w3.heap.size, 0, none⟩) := hs.dep 11 _ rfl rfl
        obtain ⟨_, q0, q1, q2, q3, q4, q5, q6, hcv⟩ := HK10.out w hC
        refine ValWp.pure (v := .int .i64 (kk : Int)) (fun K' hK' => ?_) ⟨rfl, hC, Later.refl _⟩
        simp only [ValWp, execOp, Act.eval, e59]
        go_simp
        all_goals exact hK'
      · -- 13: slot 61 := Op.load 26 t6 guarded (10, 'true')
        refine fun a w hC hs => .inl ⟨?_, ?_⟩
        · exact (by unfold Region.wanted; dsimp only; rw [yielded_bool (d := 58) rfl (hs.dep 10 _ rfl rfl)]; rfl)
        have e6 : a.tmps.getD 6 undef = .pointer (some ⟨w3.heap.size, 0, none⟩) := hs.free 6 rfl
        obtain ⟨_, q0, q1, q2, q3, q4, q5, q6, hcv⟩ := HK10.out w hC
        refine ValWp.pure (v := .agg #[.int .i64 (kk : Int), .int .i64 (ee : Int), .int .i64 nn, .int .i64 mm, .string (mkS tt), .slice A3 ll.length c3, .int .i64 (ss : Int)]) (fun K' hK' => ?_) ⟨rfl, hC, Later.refl _⟩
        simp only [ValWp, execOp, Act.eval, e6]
        go_simp
        all_goals exact hK'
      · -- 14: slot 62 := Op.call { value (Operand.func 14), args := #[t60, t61], argTypes := #[3, 26] } guarded (10, 'true')
        refine fun a w hC hs => .inl ⟨?_, ?_⟩
        · exact (by unfold Region.wanted; dsimp only; rw [yielded_bool (d := 58) rfl (hs.dep 10 _ rfl rfl)]; rfl)
        have e60 : a.tmps.getD 60 undef = .int .i64 (kk : Int) := hs.dep 12 _ rfl rfl
        have e61 : a.tmps.getD 61 undef = .agg #[.int .i64 (kk : Int), .int .i64 (ee : Int), .int .i64 nn, .int .i64 mm, .string (mkS tt), .slice A3 ll.length c3, .int .i64 (ss : Int)] := hs.dep 13 _ rfl rfl
        refine ValWp.call #[.int .i64 (kk : Int), .agg #[.int .i64 (kk : Int), .int .i64 (ee : Int), .int .i64 nn, .int .i64 mm, .string (mkS tt), .slice A3 ll.length c3, .int .i64 (ss : Int)]] rfl rfl Tryd.func14 rfl rfl (by simp only [List.map_toArray, List.map_cons, List.map_nil, Act.eval, e60, e61]) ?_
        refine (fitsK HT.out A3 c3 w).mono ?_
        rintro r w' ⟨rfl, hl9⟩
        exact ⟨_, rfl, rfl, Later.trans hC hl9, hl9⟩
      · -- 15: slot 63 := Op.pick t58 t62 (const (Value.bool false))
        refine fun a w hC hs => .inl ⟨?_, ?_⟩
        · rfl
        have e58 : a.tmps.getD 58 undef = .bool true := hs.dep 10 _ rfl rfl
        have e62 : a.tmps.getD 62 undef = .bool true := hs.dep 14 _ rfl rfl
        refine ValWp.pure (v := .bool true) (fun K' hK' => ?_) ⟨rfl, hC, Later.refl _⟩
        simp only [ValWp, execOp, Act.eval, e58, e62]
        go_simp
        all_goals exact hK'
      · -- 16: slot 64 := Op.move t63
        refine fun a w hC hs => .inl ⟨?_, ?_⟩
        · rfl
        have e63 : a.tmps.getD 63 undef = .bool true := hs.dep 15 _ rfl rfl
        exact ⟨e63, hC, Later.refl _⟩
      · -- 17: slot 65 := Op.move t7 guarded (16, 'false')
        exact fun a w hC hs => .inr ⟨(by unfold Region.wanted; dsimp only; rw [yielded_bool (d := 64) rfl (hs.dep 16 _ rfl rfl)]; rfl), rfl⟩
      · -- 18: slot 66 := Op.binOp BinOp.neq 39 t65 (const (0:i64)) 39 guarded (16, 'false')
        exact fun a w hC hs => .inr ⟨(by unfold Region.wanted; dsimp only; rw [yielded_bool (d := 64) rfl (hs.dep 16 _ rfl rfl)]; rfl), rfl⟩
      · -- 19: slot 67 := Op.move t66 guarded (16, 'false')
        exact fun a w hC hs => .inr ⟨(by unfold Region.wanted; dsimp only; rw [yielded_bool (d := 64) rfl (hs.dep 16 _ rfl rfl)]; rfl), rfl⟩
      · -- 20: slot 68 := Op.fieldAddr 26 t6 0 guarded (19, 'true')
        exact fun a w hC hs => .inr ⟨(by unfold Region.wanted; dsimp only; rw [yielded_undef (d := 67) rfl (hs.dep 19 _ rfl rfl)]; rfl), rfl⟩
      · -- 21: slot 69 := Op.load 3 t68 guarded (19, 'true')
        exact fun a w hC hs => .inr ⟨(by unfold Region.wanted; dsimp only; rw [yielded_undef (d := 67) rfl (hs.dep 19 _ rfl rfl)]; rfl), rfl⟩
      · -- 22: slot 70 := Op.binOp BinOp.eql 3 t69 (const (0:i64)) 3 guarded (19, 'true')
        exact fun a w hC hs => .inr ⟨(by unfold Region.wanted; dsimp only; rw [yielded_undef (d := 67) rfl (hs.dep 19 _ rfl rfl)]; rfl), rfl⟩
      · -- 23: slot 71 := Op.pick t67 t70 (const (Value.bool false)) guarded (16, 'false')
        exact fun a w hC hs => .inr ⟨(by unfold Region.wanted; dsimp only; rw [yielded_bool (d := 64) rfl (hs.dep 16 _ rfl rfl)]; rfl), rfl⟩
      · -- 24: slot 72 := Op.move t71 guarded (16, 'false')
        exact fun a w hC hs => .inr ⟨(by unfold Region.wanted; dsimp only; rw [yielded_bool (d := 64) rfl (hs.dep 16 _ rfl rfl)]; rfl), rfl⟩
      · -- 25: slot 73 := Op.fieldAddr 26 t6 5 guarded (24, 'true')
        exact fun a w hC hs => .inr ⟨(by unfold Region.wanted; dsimp only; rw [yielded_undef (d := 72) rfl (hs.dep 24 _ rfl rfl)]; rfl), rfl⟩
      · -- 26: slot 74 := Op.load 22 t73 guarded (24, 'true')
        exact fun a w hC hs => .inr ⟨(by unfold Region.wanted; dsimp only; rw [yielded_undef (d := 72) rfl (hs.dep 24 _ rfl rfl)]; rfl), rfl⟩
      · -- 27: slot 75 := Op.call { builtin len, args := #[t74], argTypes := #[22] } guarded (24, 'true')
        exact fun a w hC hs => .inr ⟨(by unfold Region.wanted; dsimp only; rw [yielded_undef (d := 72) rfl (hs.dep 24 _ rfl rfl)]; rfl), rfl⟩
      · -- 28: slot 76 := Op.binOp BinOp.eql 3 t75 (const (0:i64)) 3 guarded (24, 'true')
        exact fun a w hC hs => .inr ⟨(by unfold Region.wanted; dsimp only; rw [yielded_undef (d := 72) rfl (hs.dep 24 _ rfl rfl)]; rfl), rfl⟩
      · -- 29: slot 77 := Op.pick t72 t76 (const (Value.bool false)) guarded (16, 'false')
        exact fun a w hC hs => .inr ⟨(by unfold Region.wanted; dsimp only; rw [yielded_bool (d := 64) rfl (hs.dep 16 _ rfl rfl)]; rfl), rfl⟩
      · -- 30: slot 78 := Op.pick t64 (const (Value.bool true)) t77
        refine fun a w hC hs => .inl ⟨?_, ?_⟩
        · rfl
        have e64 : a.tmps.getD 64 undef = .bool true := hs.dep 16 _ rfl rfl
        have e77 : a.tmps.getD 77 undef = undef := hs.dep 29 _ rfl rfl
        refine ValWp.pure (v := .bool true) (fun K' hK' => ?_) ⟨rfl, hC, Later.refl _⟩
        simp only [ValWp, execOp, Act.eval, e64, e77]
        go_simp
        all_goals exact hK'
      · -- 31: slot 2 := Op.assign t78
        refine fun a w hC hs => .inl ⟨?_, ?_⟩
        · rfl
        have e78 : a.tmps.getD 78 undef = .bool true := hs.dep 30 _ rfl rfl
        exact ⟨e78, hC, Later.refl _⟩
    · intro a X hC hd hs hf hr
      have e2 : a.tmps.getD 2 undef = .bool true := hr 31 _ rfl
      have hd' : a.defers = [] := hd
      clear hd hs hf hr
      go_wp2
      refine bodyPost_ret (results_tmp rfl _ _ _) hd' ?_
      exact ⟨by rw [e2], Later.trans HB4.out hC⟩
set_option maxRecDepth 100000 in
set_option maxHeartbeats 1000000 in
theorem walk01 (w : World) (hN : Names w) (A : Option Addr) (n0 cap : Nat) (bs : List UInt8) (hr : Rd w w.heap.size A n0 (bs.map bv)) (hn : n0 ≤ 140737488351232) (h3 : n0 ≤ 3000) (k : Nat) (n m : Int) (t : List UInt8) (l : List (List UInt8)) (kk ee : Nat) (nn mm : Int) (tt : List UInt8) (ll : List (List UInt8)) (ss : Nat) (f : Nat) (hf : f ≠ 0) (ha : askedM bs = ((k, n, m, t, l), f)) (hto : toldM bs = ((kk, ee, nn, mm, tt, ll, ss), 0)) :
    Calls Tryd.prog 6 #[.slice A n0 cap] w fun r w' => r = .returned (.bool true) ∧ Below w.heap.size w w' := by
  obtain ⟨rfl, rfl, rfl, rfl, rfl⟩ : k = 0 ∧ n = 0 ∧ m = 0 ∧ t = [] ∧ l = [] := by
    have h := asked_err (bs := bs) (by rw [ha]; exact hf)
    rw [ha] at h
    simpa [noAsked] using h
  have hfn : ((f : Int) == 0) = false := by simp; omega
  have hfm : ((f : Int) != 0) = true := by simp; omega
  have HN := Lib.hid hN
  have HR := Lib.hid hr
  have hbl := Lib.hid hr.len
  have HA := Lib.hid ha
  have HT := Lib.hid hto
  have h3000 : ¬ 3000 < n0 := by omega
  have hb3 := Lib.hid (show bs.length ≤ 3000 by have := hbl.out; omega)
  clear hN hr ha hto hf
  go_enter Tryd.func6, Tryd.ntmps6
  go_wp2_with (first
    | (go_at_call 8; (with_reducible refine (evAwake_v _ HN.out).mono ?_); rintro r w1 ⟨rfl, hb1⟩; have HB1 := Lib.hid hb1; have R1 := Lib.hid (rd_later HR.out hb1); clear hb1)
    | (go_at_call 22; (with_reducible refine (askedK HA.out A n0 cap w1 R1.out hn).mono ?_); rintro r w2 ⟨A2, c2, rfl, hr2, hc2, hl2, _⟩; have RQ := Lib.hid hr2; have HB2 := Lib.hid (Later.trans HB1.out (Later.trans hl2 (Later.alloc w2 (.cells (qC 0 0 0 [] A2 0 c2) 24)))); have R2 := Lib.hid (rd_later HR.out HB2.out); clear hr2 hl2)
    | (go_at_call 24; (with_reducible refine (toldK HT.out A n0 cap _ R2.out hn).mono ?_); rintro r w3 ⟨A3, c3, rfl, hr3, hc3, hl3, _⟩; have RA := Lib.hid hr3; have L3 := Lib.hid hl3; clear hr3 hl3))
  have L3' := Lib.hid (Later.trans L3.out (Later.alloc w3 (.cells (aC kk ee nn mm tt A3 ll.length c3 ss) 26)))
  have HB3 := Lib.hid (Later.trans HB2.out L3'.out)
  obtain ⟨wz, hwz⟩ : ∃ wz, wz = w3.alloc (.cells (aC kk ee nn mm tt A3 ll.length c3 ss) 26) := ⟨_, rfl⟩
  have hk8 : ∀ W, Later wz W → Hid (Later wz W) ∧ W.cell? ⟨w2.heap.size, 0, none⟩ = some (.int .i64 0) ∧ W.cell? ⟨w2.heap.size, 1, none⟩ = some (.int .i64 0) ∧ W.cell? ⟨w2.heap.size, 2, none⟩ = some (.int .i64 0) ∧ W.cell? ⟨w2.heap.size, 3, none⟩ = some (.string (mkS [])) ∧ W.cell? ⟨w2.heap.size, 4, none⟩ = some (.slice A2 0 c2) ∧ (convert 33 9 (.slice A n0 cap)).run Tryd.prog W = .ok (.string (mkS bs)) W := fun W hW => by
    obtain ⟨h0, h1, h2, h3, h4⟩ := qcellsK w2 0 0 0 [] A2 0 c2 (Later.trans L3'.out (by rw [← hwz]; exact hW))
    exact ⟨hW, h0, h1, h2, h3, h4, run_str_of (rd_later HR.out (Later.trans HB3.out (by rw [← hwz]; exact hW))) 33 9 5 Tryd.underlying33 Tryd.underlying5 Tryd.underlying9 cap⟩
  have hk10 : ∀ W, Later wz W → Hid (Later wz W) ∧ W.cell? ⟨w3.heap.size, 0, none⟩ = some (.int .i64 (kk : Int)) ∧ W.cell? ⟨w3.heap.size, 1, none⟩ = some (.int .i64 (ee : Int)) ∧ W.cell? ⟨w3.heap.size, 2, none⟩ = some (.int .i64 nn) ∧ W.cell? ⟨w3.heap.size, 3, none⟩ = some (.int .i64 mm) ∧ W.cell? ⟨w3.heap.size, 4, none⟩ = some (.string (mkS tt)) ∧ W.cell? ⟨w3.heap.size, 5, none⟩ = some (.slice A3 ll.length c3) ∧ W.cell? ⟨w3.heap.size, 6, none⟩ = some (.int .i64 (ss : Int)) ∧ (convert 33 9 (.slice A n0 cap)).run Tryd.prog W = .ok (.string (mkS bs)) W := fun W hW => by
    obtain ⟨h0, h1, h2, h3, h4, h5, h6⟩ := acellsK w3 kk ee nn mm tt A3 ll.length c3 ss (W := W) (by rw [← hwz]; exact hW)
    exact ⟨hW, h0, h1, h2, h3, h4, h5, h6, run_str_of (rd_later HR.out (Later.trans HB3.out (by rw [← hwz]; exact hW))) 33 9 5 Tryd.underlying33 Tryd.underlying5 Tryd.underlying9 cap⟩
  have HK8 := Lib.hid hk8
  have HK10 := Lib.hid hk10
  have RQ3 := Lib.hid (show Rd wz wz.heap.size A2 0 [] by rw [hwz]; exact rd_later RQ.out (Later.trans (Later.alloc w2 _) L3'.out))
  have RA3 := Lib.hid (show Rd wz wz.heap.size A3 ll.length (ll.map sv) by rw [hwz]; exact rd_later RA.out (Later.alloc w3 _))
  have HB4 := Lib.hid (show Later w wz by rw [hwz]; exact HB3.out)
  have LZ := Lib.hid (Later.refl wz)
  rw [← hwz]
  have HWZ := Lib.hid hwz
  clear hk8 hk10 hwz
  refine wp_region_owes (by kernel_rfl) (fun W => Later wz W) (Later) (Later.refl) [Sp.val (.int .i64 (f : Int)), Sp.val (.bool false), Sp.val (.bool false), Sp.val (undef), Sp.val (undef), Sp.val (undef), Sp.val (undef), Sp.val (undef), Sp.val (undef), Sp.val (undef), Sp.val (undef), Sp.val (undef), Sp.val (undef), Sp.val (undef), Sp.val (.bool false), Sp.val (.bool false), Sp.val (.int .i64 (f : Int)), Sp.val (.bool true), Sp.val (.bool true), Sp.val (.pointer (some ⟨w2.heap.size, 0, none⟩)), Sp.val (.int .i64 0), Sp.val (.bool false), Sp.val (.bool false), Sp.val (.bool false)] (by kernel_rfl) (Later.drew wz) ?_ ?_
  · refine ⟨?_, ?_, ?_, ?_, ?_, ?_, ?_, ?_, ?_, ?_, ?_, ?_, ?_, ?_, ?_, ?_, ?_, ?_, ?_, ?_, ?_, ?_, ?_, ?_, trivial⟩
    · -- 0: slot 24 := Op.move t5
      refine fun a w hC hs => .inl ⟨?_, ?_⟩
      · rfl
      have e5 : a.tmps.getD 5 undef = .int .i64 (f : Int) := hs.free 5 rfl
      exact ⟨e5, hC, Later.refl _⟩
    · -- 1: slot 25 := Op.binOp BinOp.eql 39 t24 (const (0:i64)) 39
      refine fun a w hC hs => .inl ⟨?_, ?_⟩
      · rfl
      have e24 : a.tmps.getD 24 undef = .int .i64 (f : Int) := hs.dep 0 _ rfl rfl
      refine ValWp.pure (v := .bool false) (fun K' hK' => ?_) ⟨rfl, hC, Later.refl _⟩
      simp only [ValWp, execOp, Act.eval, e24]
      go_simp
      all_goals exact hK'
    · -- 2: slot 26 := Op.move t25
      refine fun a w hC hs => .inl ⟨?_, ?_⟩
      · rfl
      have e25 : a.tmps.getD 25 undef = .bool false := hs.dep 1 _ rfl rfl
      exact ⟨e25, hC, Later.refl _⟩
    · -- 3: slot 27 := Op.load 24 t4 guarded (2, 'true')
      exact fun a w hC hs => .inr ⟨(by unfold Region.wanted; dsimp only; rw [yielded_bool (d := 26) rfl (hs.dep 2 _ rfl rfl)]; rfl), rfl⟩
    · -- 4: slot 28 := Op.call { value (Operand.func 18), args := #[t27], argTypes := #[24] } guarded (2, 'true')
      exact fun a w hC hs => .inr ⟨(by unfold Region.wanted; dsimp only; rw [yielded_bool (d := 26) rfl (hs.dep 2 _ rfl rfl)]; rfl), rfl⟩
    · -- 5: slot 29 := Op.convert 33 9 t28 guarded (2, 'true')
      exact fun a w hC hs => .inr ⟨(by unfold Region.wanted; dsimp only; rw [yielded_bool (d := 26) rfl (hs.dep 2 _ rfl rfl)]; rfl), rfl⟩
    · -- 6: slot 30 := Op.move t0 guarded (2, 'true')
      exact fun a w hC hs => .inr ⟨(by unfold Region.wanted; dsimp only; rw [yielded_bool (d := 26) rfl (hs.dep 2 _ rfl rfl)]; rfl), rfl⟩
    · -- 7: slot 31 := Op.convert 33 9 t30 guarded (2, 'true')
      exact fun a w hC hs => .inr ⟨(by unfold Region.wanted; dsimp only; rw [yielded_bool (d := 26) rfl (hs.dep 2 _ rfl rfl)]; rfl), rfl⟩
    · -- 8: slot 32 := Op.binOp BinOp.neq 9 t29 t31 9 guarded (2, 'true')
      exact fun a w hC hs => .inr ⟨(by unfold Region.wanted; dsimp only; rw [yielded_bool (d := 26) rfl (hs.dep 2 _ rfl rfl)]; rfl), rfl⟩
    · -- 9: slot 33 := Op.move t32 guarded (2, 'true')
      exact fun a w hC hs => .inr ⟨(by unfold Region.wanted; dsimp only; rw [yielded_bool (d := 26) rfl (hs.dep 2 _ rfl rfl)]; rfl), rfl⟩
    · -- 10: slot 34 := Op.load 24 t4 guarded (9, 'false')
      exact fun a w hC hs => .inr ⟨(by unfold Region.wanted; dsimp only; rw [yielded_undef (d := 33) rfl (hs.dep 9 _ rfl rfl)]; rfl), rfl⟩
    · -- 11: slot 35 := Op.call { value (Operand.func 12), args := #[t34], argTypes := #[24] } guarded (9, 'false')
      exact fun a w hC hs => .inr ⟨(by unfold Region.wanted; dsimp only; rw [yielded_undef (d := 33) rfl (hs.dep 9 _ rfl rfl)]; rfl), rfl⟩
    · -- 12: slot 36 := Op.unOp UnOp.not 4 t35 guarded (9, 'false')
      exact fun a w hC hs => .inr ⟨(by unfold Region.wanted; dsimp only; rw [yielded_undef (d := 33) rfl (hs.dep 9 _ rfl rfl)]; rfl), rfl⟩
    · -- 13: slot 37 := Op.pick t33 (const (Value.bool true)) t36 guarded (2, 'true')
      exact fun a w hC hs => .inr ⟨(by unfold Region.wanted; dsimp only; rw [yielded_bool (d := 26) rfl (hs.dep 2 _ rfl rfl)]; rfl), rfl⟩
    · -- 14: slot 38 := Op.pick t26 t37 (const (Value.bool false))
      refine fun a w hC hs => .inl ⟨?_, ?_⟩
      · rfl
      have e26 : a.tmps.getD 26 undef = .bool false := hs.dep 2 _ rfl rfl
      have e37 : a.tmps.getD 37 undef = undef := hs.dep 13 _ rfl rfl
      refine ValWp.pure (v := .bool false) (fun K' hK' => ?_) ⟨rfl, hC, Later.refl _⟩
      simp only [ValWp, execOp, Act.eval, e26, e37]
      go_simp
      all_goals exact hK'
    · -- 15: slot 39 := Op.move t38
      refine fun a w hC hs => .inl ⟨?_, ?_⟩
      · rfl
      have e38 : a.tmps.getD 38 undef = .bool false := hs.dep 14 _ rfl rfl
      exact ⟨e38, hC, Later.refl _⟩
    · -- 16: slot 40 := Op.move t5 guarded (15, 'false')
      refine fun a w hC hs => .inl ⟨?_, ?_⟩
      · exact (by unfold Region.wanted; dsimp only; rw [yielded_bool (d := 39) rfl (hs.dep 15 _ rfl rfl)]; rfl)
      have e5 : a.tmps.getD 5 undef = .int .i64 (f : Int) := hs.free 5 rfl
      exact ⟨e5, hC, Later.refl _⟩
    · -- 17: slot 41 := Op.binOp BinOp.neq 39 t40 (const (0:i64)) 39 guarded (15, 'false')
      refine fun a w hC hs => .inl ⟨?_, ?_⟩
      · exact (by unfold Region.wanted; dsimp only; rw [yielded_bool (d := 39) rfl (hs.dep 15 _ rfl rfl)]; rfl)
      have e40 : a.tmps.getD 40 undef = .int .i64 (f : Int) := hs.dep 16 _ rfl rfl
      refine ValWp.pure (v := .bool true) (fun K' hK' => ?_) ⟨rfl, hC, Later.refl _⟩
      simp only [ValWp, execOp, Act.eval, e40]
      go_simp
      all_goals exact hK'
    · -- 18: slot 42 := Op.move t41 guarded (15, 'false')
      refine fun a w hC hs => .inl ⟨?_, ?_⟩
      · exact (by unfold Region.wanted; dsimp only; rw [yielded_bool (d := 39) rfl (hs.dep 15 _ rfl rfl)]; rfl)
      have e41 : a.tmps.getD 41 undef = .bool true := hs.dep 17 _ rfl rfl
      exact ⟨e41, hC, Later.refl _⟩
    · -- 19: slot 43 := Op.fieldAddr 24 t4 0 guarded (18, 'true')
      refine fun a w hC hs => .inl ⟨?_, ?_⟩
      · exact (by unfold Region.wanted; dsimp only; rw [yielded_bool (d := 42) rfl (hs.dep 18 _ rfl rfl)]; rfl)
      have e4 : a.tmps.getD 4 undef = .pointer (some ⟨w2.heap.size, 0, none⟩) := hs.free 4 rfl
      refine ValWp.pure (v := .pointer (some ⟨w2.heap.size, 0, none⟩)) (fun K' hK' => ?_) ⟨rfl, hC, Later.refl _⟩
      simp only [ValWp, execOp, Act.eval, e4]
      go_simp
      all_goals exact hK'
    · -- 20: slot 44 := Op.load 3 t43 guarded (18, 'true')
      refine fun a w hC hs => .inl ⟨?_, ?_⟩
      · exact (by unfold Region.wanted; dsimp only; rw [yielded_bool (d := 42) rfl (hs.dep 18 _ rfl rfl)]; rfl)
      have e43 : a.tmps.getD 43 undef = .pointer (some ⟨w2.heap.size, 0, none⟩) := hs.dep 19 _ rfl rfl
      obtain ⟨_, q0, q1, q2, q3, q4, hcv⟩ := HK8.out w hC
      refine ValWp.pure (v := .int .i64 0) (fun K' hK' => ?_) ⟨rfl, hC, Later.refl _⟩
      simp only [ValWp, execOp, Act.eval, e43]
      go_simp
      all_goals exact hK'
    · -- 21: slot 45 := Op.binOp BinOp.neq 3 t44 (const (0:i64)) 3 guarded (18, 'true')
      refine fun a w hC hs => .inl ⟨?_, ?_⟩
      · exact (by unfold Region.wanted; dsimp only; rw [yielded_bool (d := 42) rfl (hs.dep 18 _ rfl rfl)]; rfl)
      have e44 : a.tmps.getD 44 undef = .int .i64 0 := hs.dep 20 _ rfl rfl
      refine ValWp.pure (v := .bool false) (fun K' hK' => ?_) ⟨rfl, hC, Later.refl _⟩
      simp only [ValWp, execOp, Act.eval, e44]
      go_simp
      all_goals exact hK'
    · -- 22: slot 46 := Op.pick t42 t45 (const (Value.bool false)) guarded (15, 'false')
      refine fun a w hC hs => .inl ⟨?_, ?_⟩
      · exact (by unfold Region.wanted; dsimp only; rw [yielded_bool (d := 39) rfl (hs.dep 15 _ rfl rfl)]; rfl)
      have e42 : a.tmps.getD 42 undef = .bool true := hs.dep 18 _ rfl rfl
      have e45 : a.tmps.getD 45 undef = .bool false := hs.dep 21 _ rfl rfl
      refine ValWp.pure (v := .bool false) (fun K' hK' => ?_) ⟨rfl, hC, Later.refl _⟩
      simp only [ValWp, execOp, Act.eval, e42, e45]
      go_simp
      all_goals exact hK'
    · -- 23: slot 47 := Op.pick t39 (const (Value.bool true)) t46
      refine fun a w hC hs => .inl ⟨?_, ?_⟩
      · rfl
      have e39 : a.tmps.getD 39 undef = .bool false := hs.dep 15 _ rfl rfl
      have e46 : a.tmps.getD 46 undef = .bool false := hs.dep 22 _ rfl rfl
      refine ValWp.pure (v := .bool false) (fun K' hK' => ?_) ⟨rfl, hC, Later.refl _⟩
      simp only [ValWp, execOp, Act.eval, e39, e46]
      go_simp
      all_goals exact hK'
  · intro a W hC hd hsz hfree hs
    obtain ⟨u1, hu1⟩ : ∃ u, u = a.tmps.getD 1 undef := ⟨_, rfl⟩
    obtain ⟨u2, hu2⟩ : ∃ u, u = a.tmps.getD 2 undef := ⟨_, rfl⟩
    obtain ⟨u3, hu3⟩ : ∃ u, u = a.tmps.getD 3 undef := ⟨_, rfl⟩
    obtain ⟨u4, hu4⟩ : ∃ u, u = a.tmps.getD 4 undef := ⟨_, rfl⟩
    obtain ⟨u5, hu5⟩ : ∃ u, u = a.tmps.getD 5 undef := ⟨_, rfl⟩
    obtain ⟨u8, hu8⟩ : ∃ u, u = a.tmps.getD 8 undef := ⟨_, rfl⟩
    obtain ⟨u9, hu9⟩ : ∃ u, u = a.tmps.getD 9 undef := ⟨_, rfl⟩
    obtain ⟨u10, hu10⟩ : ∃ u, u = a.tmps.getD 10 undef := ⟨_, rfl⟩
    obtain ⟨u11, hu11⟩ : ∃ u, u = a.tmps.getD 11 undef := ⟨_, rfl⟩
    obtain ⟨u12, hu12⟩ : ∃ u, u = a.tmps.getD 12 undef := ⟨_, rfl⟩
    obtain ⟨u13, hu13⟩ : ∃ u, u = a.tmps.getD 13 undef := ⟨_, rfl⟩
    obtain ⟨u14, hu14⟩ : ∃ u, u = a.tmps.getD 14 undef := ⟨_, rfl⟩
    obtain ⟨u15, hu15⟩ : ∃ u, u = a.tmps.getD 15 undef := ⟨_, rfl⟩
    obtain ⟨u16, hu16⟩ : ∃ u, u = a.tmps.getD 16 undef := ⟨_, rfl⟩
    obtain ⟨u17, hu17⟩ : ∃ u, u = a.tmps.getD 17 undef := ⟨_, rfl⟩
    obtain ⟨u18, hu18⟩ : ∃ u, u = a.tmps.getD 18 undef := ⟨_, rfl⟩
    obtain ⟨u19, hu19⟩ : ∃ u, u = a.tmps.getD 19 undef := ⟨_, rfl⟩
    obtain ⟨u20, hu20⟩ : ∃ u, u = a.tmps.getD 20 undef := ⟨_, rfl⟩
    obtain ⟨u21, hu21⟩ : ∃ u, u = a.tmps.getD 21 undef := ⟨_, rfl⟩
    obtain ⟨u22, hu22⟩ : ∃ u, u = a.tmps.getD 22 undef := ⟨_, rfl⟩
    obtain ⟨u23, hu23⟩ : ∃ u, u = a.tmps.getD 23 undef := ⟨_, rfl⟩
    obtain ⟨u24, hu24⟩ : ∃ u, u = a.tmps.getD 24 undef := ⟨_, rfl⟩
    obtain ⟨u25, hu25⟩ : ∃ u, u = a.tmps.getD 25 undef := ⟨_, rfl⟩
    obtain ⟨u26, hu26⟩ : ∃ u, u = a.tmps.getD 26 undef := ⟨_, rfl⟩
    obtain ⟨u27, hu27⟩ : ∃ u, u = a.tmps.getD 27 undef := ⟨_, rfl⟩
    obtain ⟨u28, hu28⟩ : ∃ u, u = a.tmps.getD 28 undef := ⟨_, rfl⟩
    obtain ⟨u29, hu29⟩ : ∃ u, u = a.tmps.getD 29 undef := ⟨_, rfl⟩
    obtain ⟨u30, hu30⟩ : ∃ u, u = a.tmps.getD 30 undef := ⟨_, rfl⟩
    obtain ⟨u31, hu31⟩ : ∃ u, u = a.tmps.getD 31 undef := ⟨_, rfl⟩
    obtain ⟨u32, hu32⟩ : ∃ u, u = a.tmps.getD 32 undef := ⟨_, rfl⟩
    obtain ⟨u33, hu33⟩ : ∃ u, u = a.tmps.getD 33 undef := ⟨_, rfl⟩
    obtain ⟨u34, hu34⟩ : ∃ u, u = a.tmps.getD 34 undef := ⟨_, rfl⟩
    obtain ⟨u35, hu35⟩ : ∃ u, u = a.tmps.getD 35 undef := ⟨_, rfl⟩
    obtain ⟨u36, hu36⟩ : ∃ u, u = a.tmps.getD 36 undef := ⟨_, rfl⟩
    obtain ⟨u37, hu37⟩ : ∃ u, u = a.tmps.getD 37 undef := ⟨_, rfl⟩
    obtain ⟨u38, hu38⟩ : ∃ u, u = a.tmps.getD 38 undef := ⟨_, rfl⟩
    obtain ⟨u39, hu39⟩ : ∃ u, u = a.tmps.getD 39 undef := ⟨_, rfl⟩
    obtain ⟨u40, hu40⟩ : ∃ u, u = a.tmps.getD 40 undef := ⟨_, rfl⟩
    obtain ⟨u41, hu41⟩ : ∃ u, u = a.tmps.getD 41 undef := ⟨_, rfl⟩
    obtain ⟨u42, hu42⟩ : ∃ u, u = a.tmps.getD 42 undef := ⟨_, rfl⟩
    obtain ⟨u43, hu43⟩ : ∃ u, u = a.tmps.getD 43 undef := ⟨_, rfl⟩
    obtain ⟨u44, hu44⟩ : ∃ u, u = a.tmps.getD 44 undef := ⟨_, rfl⟩
    obtain ⟨u45, hu45⟩ : ∃ u, u = a.tmps.getD 45 undef := ⟨_, rfl⟩
    obtain ⟨u46, hu46⟩ : ∃ u, u = a.tmps.getD 46 undef := ⟨_, rfl⟩
    obtain ⟨u48, hu48⟩ : ∃ u, u = a.tmps.getD 48 undef := ⟨_, rfl⟩
    obtain ⟨u49, hu49⟩ : ∃ u, u = a.tmps.getD 49 undef := ⟨_, rfl⟩
    obtain ⟨u50, hu50⟩ : ∃ u, u = a.tmps.getD 50 undef := ⟨_, rfl⟩
    obtain ⟨u51, hu51⟩ : ∃ u, u = a.tmps.getD 51 undef := ⟨_, rfl⟩
    obtain ⟨u52, hu52⟩ : ∃ u, u = a.tmps.getD 52 undef := ⟨_, rfl⟩
    obtain ⟨u53, hu53⟩ : ∃ u, u = a.tmps.getD 53 undef := ⟨_, rfl⟩
    obtain ⟨u54, hu54⟩ : ∃ u, u = a.tmps.getD 54 undef := ⟨_, rfl⟩
    obtain ⟨u55, hu55⟩ : ∃ u, u = a.tmps.getD 55 undef := ⟨_, rfl⟩
    obtain ⟨u56, hu56⟩ : ∃ u, u = a.tmps.getD 56 undef := ⟨_, rfl⟩
    obtain ⟨u57, hu57⟩ : ∃ u, u = a.tmps.getD 57 undef := ⟨_, rfl⟩
    obtain ⟨u58, hu58⟩ : ∃ u, u = a.tmps.getD 58 undef := ⟨_, rfl⟩
    obtain ⟨u59, hu59⟩ : ∃ u, u = a.tmps.getD 59 undef := ⟨_, rfl⟩
    obtain ⟨u60, hu60⟩ : ∃ u, u = a.tmps.getD 60 undef := ⟨_, rfl⟩
    obtain ⟨u61, hu61⟩ : ∃ u, u = a.tmps.getD 61 undef := ⟨_, rfl⟩
    obtain ⟨u62, hu62⟩ : ∃ u, u = a.tmps.getD 62 undef := ⟨_, rfl⟩
    obtain ⟨u63, hu63⟩ : ∃ u, u = a.tmps.getD 63 undef := ⟨_, rfl⟩
    obtain ⟨u64, hu64⟩ : ∃ u, u = a.tmps.getD 64 undef := ⟨_, rfl⟩
    obtain ⟨u65, hu65⟩ : ∃ u, u = a.tmps.getD 65 undef := ⟨_, rfl⟩
    obtain ⟨u66, hu66⟩ : ∃ u, u = a.tmps.getD 66 undef := ⟨_, rfl⟩
    obtain ⟨u67, hu67⟩ : ∃ u, u = a.tmps.getD 67 undef := ⟨_, rfl⟩
    obtain ⟨u68, hu68⟩ : ∃ u, u = a.tmps.getD 68 undef := ⟨_, rfl⟩
    obtain ⟨u69, hu69⟩ : ∃ u, u = a.tmps.getD 69 undef := ⟨_, rfl⟩
    obtain ⟨u70, hu70⟩ : ∃ u, u = a.tmps.getD 70 undef := ⟨_, rfl⟩
    obtain ⟨u71, hu71⟩ : ∃ u, u = a.tmps.getD 71 undef := ⟨_, rfl⟩
    obtain ⟨u72, hu72⟩ : ∃ u, u = a.tmps.getD 72 undef := ⟨_, rfl⟩
    obtain ⟨u73, hu73⟩ : ∃ u, u = a.tmps.getD 73 undef := ⟨_, rfl⟩
    obtain ⟨u74, hu74⟩ : ∃ u, u = a.tmps.getD 74 undef := ⟨_, rfl⟩
    obtain ⟨u75, hu75⟩ : ∃ u, u = a.tmps.getD 75 undef := ⟨_, rfl⟩
    obtain ⟨u76, hu76⟩ : ∃ u, u = a.tmps.getD 76 undef := ⟨_, rfl⟩
    obtain ⟨u77, hu77⟩ : ∃ u, u = a.tmps.getD 77 undef := ⟨_, rfl⟩
    obtain ⟨u78, hu78⟩ : ∃ u, u = a.tmps.getD 78 undef := ⟨_, rfl⟩
    have hal : AllAt a 0 [.slice A n0 cap, u1, u2, u3, u4, u5, .pointer (some ⟨w3.heap.size, 0, none⟩), .int .i64 0, u8, u9, u10, u11, u12, u13, u14, u15, u16, u17, u18, u19, u20, u21, u22, u23, u24, u25, u26, u27, u28, u29, u30, u31, u32, u33, u34, u35, u36, u37, u38, u39, u40, u41, u42, u43, u44, u45, u46, .bool false, u48, u49, u50, u51, u52, u53, u54, u55, u56, u57, u58, u59, u60, u61, u62, u63, u64, u65, u66, u67, u68, u69, u70, u71, u72, u73, u74, u75, u76, u77, u78] := ⟨hfree 0 rfl, hu1.symm, hu2.symm, hu3.symm, hu4.symm, hu5.symm, hfree 6 rfl, hfree 7 rfl, hu8.symm, hu9.symm, hu10.symm, hu11.symm, hu12.symm, hu13.symm, hu14.symm, hu15.symm, hu16.symm, hu17.symm, hu18.symm, hu19.symm, hu20.symm, hu21.symm, hu22.symm, hu23.symm, hu24.symm, hu25.symm, hu26.symm, hu27.symm, hu28.symm, hu29.symm, hu30.symm, hu31.symm, hu32.symm, hu33.symm, hu34.symm, hu35.symm, hu36.symm, hu37.symm, hu38.symm, hu39.symm, hu40.symm, hu41.symm, hu42.symm, hu43.symm, hu44.symm, hu45.symm, hu46.symm, hs 23 _ rfl, hu48.symm, hu49.symm, hu50.symm, hu51.symm, hu52.symm, hu53.symm, hu54.symm, hu55.symm, hu56.symm, hu57.symm, hu58.symm, hu59.symm, hu60.symm, hu61.symm, hu62.symm, hu63.symm, hu64.symm, hu65.symm, hu66.symm, hu67.symm, hu68.symm, hu69.symm, hu70.symm, hu71.symm, hu72.symm, hu73.symm, hu74.symm, hu75.symm, hu76.symm, hu77.symm, hu78.symm, trivial⟩
    have hlit := fun h => act_lit hd h hal
    rw [hlit hsz]
    clear hlit hal hd hsz hfree hs hu1 hu2 hu3 hu4 hu5 hu8 hu9 hu10 hu11 hu12 hu13 hu14 hu15 hu16 hu17 hu18 hu19 hu20 hu21 hu22 hu23 hu24 hu25 hu26 hu27 hu28 hu29 hu30 hu31 hu32 hu33 hu34 hu35 hu36 hu37 hu38 hu39 hu40 hu41 hu42 hu43 hu44 hu45 hu46 hu48 hu49 hu50 hu51 hu52 hu53 hu54 hu55 hu56 hu57 hu58 hu59 hu60 hu61 hu62 hu63 hu64 hu65 hu66 hu67 hu68 hu69 hu70 hu71 hu72 hu73 hu74 hu75 hu76 hu77 hu78
    have LW := Lib.hid (show Later wz W from hC)
    clear hC
    go_wp2
    refine wp_region_owes (by kernel_rfl) (fun X => Later wz X) (Later) (Later.refl) [Sp.val (.int .i64 0), Sp.val (.bool true), Sp.val (.bool true), Sp.val (.agg #[.int .i64 (kk : Int), .int .i64 (ee : Int), .int .i64 nn, .int .i64 mm, .string (mkS tt), .slice A3 ll.length c3, .int .i64 (ss : Int)]), spBytes bs.length bs, Sp.val (.string (mkS bs)), Sp.val (.slice A n0 cap), Sp.val (.string (mkS bs)), Sp.val (.bool true), Sp.val (.bool true), Sp.val (.bool true), Sp.val (.pointer (some ⟨w3.heap.size, 0, none⟩)), Sp.val (.int .i64 (kk : Int)), Sp.val (.agg #[.int .i64 (kk : Int), .int .i64 (ee : Int), .int .i64 nn, .int .i64 mm, .string (mkS tt), .slice A3 ll.length c3, .int .i64 (ss : Int)]), Sp.val (.bool true), Sp.val (.bool true), Sp.val (.bool true), Sp.val (undef), Sp.val (undef), Sp.val (undef), Sp.val (undef), Sp.val (undef), Sp.val (undef), Sp.val (undef), Sp.val (undef), Sp.val (undef), Sp.val (undef), Sp.val (undef), Sp.val (undef), Sp.val (undef), Sp.val (.bool true), Sp.val (.bool true)] (by kernel_rfl) (Later.trans LW.out (Later.drew _)) ?_ ?_
    · refine ⟨?_, ?_, ?_, ?_, ?_, ?_, ?_, ?_, ?_, ?_, ?_, ?_, ?_, ?_, ?_, ?_, ?_, ?_, ?_, ?_, ?_, ?_, ?_, ?_, ?_, ?_, ?_, ?_, ?_, ?_, ?_, ?_, trivial⟩
      · -- 0: slot 48 := Op.move t7
        refine fun a w hC hs => .inl ⟨?_, ?_⟩
        · rfl
        have e7 : a.tmps.getD 7 undef = .int .i64 0 := hs.free 7 rfl
        exact ⟨e7, hC, Later.refl _⟩
      · -- 1: slot 49 := Op.binOp BinOp.eql 39 t48 (const (0:i64)) 39
        refine fun a w hC hs => .inl ⟨?_, ?_⟩
        · rfl
        have e48 : a.tmps.getD 48 undef = .int .i64 0 := hs.dep 0 _ rfl rfl
        refine ValWp.pure (v := .bool true) (fun K' hK' => ?_) ⟨rfl, hC, Later.refl _⟩
        simp only [ValWp, execOp, Act.eval, e48]
        go_simp
        all_goals exact hK'
      · -- 2: slot 50 := Op.move t49
        refine fun a w hC hs => .inl ⟨?_, ?_⟩
        · rfl
        have e49 : a.tmps.getD 49 undef = .bool true := hs.dep 1 _ rfl rfl
        exact ⟨e49, hC, Later.refl _⟩
      · -- 3: slot 51 := Op.load 26 t6 guarded (2, 'true')
        refine fun a w hC hs => .inl ⟨?_, ?_⟩
        · exact (by unfold Region.wanted; dsimp only; rw [yielded_bool (d := 50) rfl (hs.dep 2 _ rfl rfl)]; rfl)
        have e6 : a.tmps.getD 6 undef = .pointer (some ⟨w3.heap.size, 0, none⟩) := hs.free 6 rfl
        obtain ⟨_, q0, q1, q2, q3, q4, q5, q6, hcv⟩ := HK10.out w hC
        refine ValWp.pure (v := .agg #[.int .i64 (kk : Int), .int .i64 (ee : Int), .int .i64 nn, .int .i64 mm, .string (mkS tt), .slice A3 ll.length c3, .int .i64 (ss : Int)]) (fun K' hK' => ?_) ⟨rfl, hC, Later.refl _⟩
        simp only [ValWp, execOp, Act.eval, e6]
        go_simp
        all_goals exact hK'
      · -- 4: slot 52 := Op.call { value (Operand.func 20), args := #[t51], argTypes := #[26] } guarded (2, 'true')
        refine fun a w hC hs => .inl ⟨?_, ?_⟩
        · exact (by unfold Region.wanted; dsimp only; rw [yielded_bool (d := 50) rfl (hs.dep 2 _ rfl rfl)]; rfl)
        have e51 : a.tmps.getD 51 undef = .agg #[.int .i64 (kk : Int), .int .i64 (ee : Int), .int .i64 nn, .int .i64 mm, .string (mkS tt), .slice A3 ll.length c3, .int .i64 (ss : Int)] := hs.dep 3 _ rfl rfl
        refine ValWp.call #[.agg #[.int .i64 (kk : Int), .int .i64 (ee : Int), .int .i64 nn, .int .i64 mm, .string (mkS tt), .slice A3 ll.length c3, .int .i64 (ss : Int)]] rfl rfl Tryd.func20 rfl rfl (by simp only [List.map_toArray, List.map_cons, List.map_nil, Act.eval, e51]) ?_
        refine (tellK HT.out hb3.out A3 c3 w (rd_later RA3.out hC)).mono ?_
        rintro r w' ⟨A8, c8, rfl, hl8, hr8⟩
        exact ⟨_, rfl, ⟨A8, c8, rfl, hr8⟩, Later.trans hC hl8, hl8⟩
      · -- 5: slot 53 := Op.convert 33 9 t52 guarded (2, 'true')
        refine fun a w hC hs => .inl ⟨?_, ?_⟩
        · exact (by unfold Region.wanted; dsimp only; rw [yielded_bool (d := 50) rfl (hs.dep 2 _ rfl rfl)]; rfl)
        obtain ⟨A52, c52, e52, h52⟩ := hs.dep 4 _ rfl rfl
        change a.tmps.getD 52 undef = _ at e52
        have hcv := run_str_of (P := Tryd.prog) h52 33 9 5 Tryd.underlying33 Tryd.underlying5 Tryd.underlying9 c52
        refine ValWp.pure (v := .string (mkS bs)) (fun K' hK' => ?_) ⟨rfl, hC, Later.refl _⟩
        simp only [ValWp, execOp, Act.eval, e52]
        go_simp
        all_goals exact hK'
      · -- 6: slot 54 := Op.move t0 guarded (2, 'true')
        refine fun a w hC hs => .inl ⟨?_, ?_⟩
        · exact (by unfold Region.wanted; dsimp only; rw [yielded_bool (d := 50) rfl (hs.dep 2 _ rfl rfl)]; rfl)
        have e0 : a.tmps.getD 0 undef = .slice A n0 cap := hs.free 0 rfl
        exact ⟨e0, hC, Later.refl _⟩
      · -- 7: slot 55 := Op.convert 33 9 t54 guarded (2, 'true')
        refine fun a w hC hs => .inl ⟨?_, ?_⟩
        · exact (by unfold Region.wanted; dsimp only; rw [yielded_bool (d := 50) rfl (hs.dep 2 _ rfl rfl)]; rfl)
        have e54 : a.tmps.getD 54 undef = .slice A n0 cap := hs.dep 6 _ rfl rfl
        obtain ⟨_, q0, q1, q2, q3, q4, q5, q6, hcv⟩ := HK10.out w hC
        refine ValWp.pure (v := .string (mkS bs)) (fun K' hK' => ?_) ⟨rfl, hC, Later.refl _⟩
        simp only [ValWp, execOp, Act.eval, e54]
        go_simp
        all_goals exact hK'
      · -- 8: slot 56 := Op.binOp BinOp.eql 9 t53 t55 9 guarded (2, 'true')
        refine fun a w hC hs => .inl ⟨?_, ?_⟩
        · exact (by unfold Region.wanted; dsimp only; rw [yielded_bool (d := 50) rfl (hs.dep 2 _ rfl rfl)]; rfl)
        have e53 : a.tmps.getD 53 undef = .string (mkS bs) := hs.dep 5 _ rfl rfl
        have e55 : a.tmps.getD 55 undef = .string (mkS bs) := hs.dep 7 _ rfl rfl
        refine ValWp.pure (v := .bool true) (fun K' hK' => ?_) ⟨rfl, hC, Later.refl _⟩
        simp only [ValWp, execOp, Act.eval, e53, e55]
        go_simp
        all_goals exact hK'
      · -- 9: slot 57 := Op.pick t50 t56 (const (Value.bool false))
        refine fun a w hC hs => .inl ⟨?_, ?_⟩
        · rfl
        have e50 : a.tmps.getD 50 undef = .bool true := hs.dep 2 _ rfl rfl
        have e56 : a.tmps.getD 56 undef = .bool true := hs.dep 8 _ rfl rfl
        refine ValWp.pure (v := .bool true) (fun K' hK' => ?_) ⟨rfl, hC, Later.refl _⟩
        simp only [ValWp, execOp, Act.eval, e50, e56]
        go_simp
        all_goals exact hK'
      · -- 10: slot 58 := Op.move t57
        refine fun a w hC hs => .inl ⟨?_, ?_⟩
        · rfl
        have e57 : a.tmps.getD 57 undef = .bool true := hs.dep 9 _ rfl rfl
        exact ⟨e57, hC, Later.refl _⟩
      · -- 11: slot 59 := Op.fieldAddr 26 t6 0 guarded (10, 'true')
        refine fun a w hC hs => .inl ⟨?_, ?_⟩
        · exact (by unfold Region.wanted; dsimp only; rw [yielded_bool (d := 58) rfl (hs.dep 10 _ rfl rfl)]; rfl)
        have e6 : a.tmps.getD 6 undef = .pointer (some ⟨w3.heap.size, 0, none⟩) := hs.free 6 rfl
        refine ValWp.pure (v := .pointer (some ⟨w3.heap.size, 0, none⟩)) (fun K' hK' => ?_) ⟨rfl, hC, Later.refl _⟩
        simp only [ValWp, execOp, Act.eval, e6]
        go_simp
        all_goals exact hK'
      · -- 12: slot 60 := Op.load 3 t59 guarded (10, 'true')
        refine fun a w hC hs => .inl ⟨?_, ?_⟩
        · exact (by unfold Region.wanted; dsimp only; rw [yielded_bool (d := 58) rfl (hs.dep 10 _ rfl rfl)]; rfl)
        have e59 : a.tmps.getD 59 undef = .pointer (some ⟨w3.heap.size, 0, none⟩) := hs.dep 11 _ rfl rfl
        obtain ⟨_, q0, q1, q2, q3, q4, q5, q6, hcv⟩ := HK10.out w hC
        refine ValWp.pure (v := .int .i64 (kk : Int)) (fun K' hK' => ?_) ⟨rfl, hC, Later.refl _⟩
        simp only [ValWp, execOp, Act.eval, e59]
        go_simp
        all_goals exact hK'
      · -- 13: slot 61 := Op.load 26 t6 guarded (10, 'true')
        refine fun a w hC hs => .inl ⟨?_, ?_⟩
        · exact (by unfold Region.wanted; dsimp only; rw [yielded_bool (d := 58) rfl (hs.dep 10 _ rfl rfl)]; rfl)
        have e6 : a.tmps.getD 6 undef = .pointer (some ⟨w3.heap.size, 0, none⟩) := hs.free 6 rfl
        obtain ⟨_, q0, q1, q2, q3, q4, q5, q6, hcv⟩ := HK10.out w hC
        refine ValWp.pure (v := .agg #[.int .i64 (kk : Int), .int .i64 (ee : Int), .int .i64 nn, .int .i64 mm, .string (mkS tt), .slice A3 ll.length c3, .int .i64 (ss : Int)]) (fun K' hK' => ?_) ⟨rfl, hC, Later.refl _⟩
        simp only [ValWp, execOp, Act.eval, e6]
        go_simp
        all_goals exact hK'
      · -- 14: slot 62 := Op.call { value (Operand.func 14), args := #[t60, t61], argTypes := #[3, 26] } guarded (10, 'true')
        refine fun a w hC hs => .inl ⟨?_, ?_⟩
        · exact (by unfold Region.wanted; dsimp only; rw [yielded_bool (d := 58) rfl (hs.dep 10 _ rfl rfl)]; rfl)
        have e60 : a.tmps.getD 60 undef = .int .i64 (kk : Int) := hs.dep 12 _ rfl rfl
        have e61 : a.tmps.getD 61 undef = .agg #[.int .i64 (kk : Int), .int .i64 (ee : Int), .int .i64 nn, .int .i64 mm, .string (mkS tt), .slice A3 ll.length c3, .int .i64 (ss : Int)] := hs.dep 13 _ rfl rfl
        refine ValWp.call #[.int .i64 (kk : Int), .agg #[.int .i64 (kk : Int), .int .i64 (ee : Int), .int .i64 nn, .int .i64 mm, .string (mkS tt), .slice A3 ll.length c3, .int .i64 (ss : Int)]] rfl rfl Tryd.func14 rfl rfl (by simp only [List.map_toArray, List.map_cons, List.map_nil, Act.eval, e60, e61]) ?_
        refine (fitsK HT.out A3 c3 w).mono ?_
        rintro r w' ⟨rfl, hl9⟩
        exact ⟨_, rfl, rfl, Later.trans hC hl9, hl9⟩
      · -- 15: slot 63 := Op.pick t58 t62 (const (Value.bool false))
        refine fun a w hC hs => .inl ⟨?_, ?_⟩
        · rfl
        have e58 : a.tmps.getD 58 undef = .bool true := hs.dep 10 _ rfl rfl
        have e62 : a.tmps.getD 62 undef = .bool true := hs.dep 14 _ rfl rfl
        refine ValWp.pure (v := .bool true) (fun K' hK' => ?_) ⟨rfl, hC, Later.refl _⟩
        simp only [ValWp, execOp, Act.eval, e58, e62]
        go_simp
        all_goals exact hK'
      · -- 16: slot 64 := Op.move t63
        refine fun a w hC hs => .inl ⟨?_, ?_⟩
        · rfl
        have e63 : a.tmps.getD 63 undef = .bool true := hs.dep 15 _ rfl rfl
        exact ⟨e63, hC, Later.refl _⟩
      · -- 17: slot 65 := Op.move t7 guarded (16, 'false')
        exact fun a w hC hs => .inr ⟨(by unfold Region.wanted; dsimp only; rw [yielded_bool (d := 64) rfl (hs.dep 16 _ rfl rfl)]; rfl), rfl⟩
      · -- 18: slot 66 := Op.binOp BinOp.neq 39 t65 (const (0:i64)) 39 guarded (16, 'false')
        exact fun a w hC hs => .inr ⟨(by unfold Region.wanted; dsimp only; rw [yielded_bool (d := 64) rfl (hs.dep 16 _ rfl rfl)]; rfl), rfl⟩
      · -- 19: slot 67 := Op.move t66 guarded (16, 'false')
        exact fun a w hC hs => .inr ⟨(by unfold Region.wanted; dsimp only; rw [yielded_bool (d := 64) rfl (hs.dep 16 _ rfl rfl)]; rfl), rfl⟩
      · -- 20: slot 68 := Op.fieldAddr 26 t6 0 guarded (19, 'true')
        exact fun a w hC hs => .inr ⟨(by unfold Region.wanted; dsimp only; rw [yielded_undef (d := 67) rfl (hs.dep 19 _ rfl rfl)]; rfl), rfl⟩
      · -- 21: slot 69 := Op.load 3 t68 guarded (19, 'true')
        exact fun a w hC hs => .inr ⟨(by unfold Region.wanted; dsimp only; rw [yielded_undef (d := 67) rfl (hs.dep 19 _ rfl rfl)]; rfl), rfl⟩
      · -- 22: slot 70 := Op.binOp BinOp.eql 3 t69 (const (0:i64)) 3 guarded (19, 'true')
        exact fun a w hC hs => .inr ⟨(by unfold Region.wanted; dsimp only; rw [yielded_undef (d := 67) rfl (hs.dep 19 _ rfl rfl)]; rfl), rfl⟩
      · -- 23: slot 71 := Op.pick t67 t70 (const (Value.bool false)) guarded (16, 'false')
        exact fun a w hC hs => .inr ⟨(by unfold Region.wanted; dsimp only; rw [yielded_bool (d := 64) rfl (hs.dep 16 _ rfl rfl)]; rfl), rfl⟩
      · -- 24: slot 72 := Op.move t71 guarded (16, 'false')
        exact fun a w hC hs => .inr ⟨(by unfold Region.wanted; dsimp only; rw [yielded_bool (d := 64) rfl (hs.dep 16 _ rfl rfl)]; rfl), rfl⟩
      · -- 25: slot 73 := Op.fieldAddr 26 t6 5 guarded (24, 'true')
        exact fun a w hC hs => .inr ⟨(by unfold Region.wanted; dsimp only; rw [yielded_undef (d := 72) rfl (hs.dep 24 _ rfl rfl)]; rfl), rfl⟩
      · -- 26: slot 74 := Op.load 22 t73 guarded (24, 'true')
        exact fun a w hC hs => .inr ⟨(by unfold Region.wanted; dsimp only; rw [yielded_undef (d := 72) rfl (hs.dep 24 _ rfl rfl)]; rfl), rfl⟩
      · -- 27: slot 75 := Op.call { builtin len, args := #[t74], argTypes := #[22] } guarded (24, 'true')
        exact fun a w hC hs => .inr ⟨(by unfold Region.wanted; dsimp only; rw [yielded_undef (d := 72) rfl (hs.dep 24 _ rfl rfl)]; rfl), rfl⟩
      · -- 28: slot 76 := Op.binOp BinOp.eql 3 t75 (const (0:i64)) 3 guarded (24, 'true')
        exact fun a w hC hs => .inr ⟨(by unfold Region.wanted; dsimp only; rw [yielded_undef (d := 72) rfl (hs.dep 24 _ rfl rfl)]; rfl), rfl⟩
      · -- 29: slot 77 := Op.pick t72 t76 (const (Value.bool false)) guarded (16, 'false')
        exact fun a w hC hs => .inr ⟨(by unfold Region.wanted; dsimp only; rw [yielded_bool (d := 64) rfl (hs.dep 16 _ rfl rfl)]; rfl), rfl⟩
      · -- 30: slot 78 := Op.pick t64 (const (Value.bool true)) t77
        refine fun a w hC hs => .inl ⟨?_, ?_⟩
        · rfl
        have e64 : a.tmps.getD 64 undef = .bool true := hs.dep 16 _ rfl rfl
        have e77 : a.tmps.getD 77 undef = undef := hs.dep 29 _ rfl rfl
        refine ValWp.pure (v := .bool true) (fun K' hK' => ?_) ⟨rfl, hC, Later.refl _⟩
        simp only [ValWp, execOp, Act.eval, e64, e77]
        go_simp
        all_goals exact hK'
      · -- 31: slot 2 := Op.assign t78
        refine fun a w hC hs => .inl ⟨?_, ?_⟩
        · rfl
        have e78 : a.tmps.getD 78 undef = .bool true := hs.dep 30 _ rfl rfl
        exact ⟨e78, hC, Later.refl _⟩
    · intro a X hC hd hs hf hr
      have e2 : a.tmps.getD 2 undef = .bool true := hr 31 _ rfl
      have hd' : a.defers = [] := hd
      clear hd hs hf hr
      go_wp2
      refine bodyPost_ret (results_tmp rfl _ _ _) hd' ?_
      exact ⟨by rw [e2], Later.trans HB4.out hC⟩
set_option maxRecDepth 100000 in
set_option maxHeartbeats 1000000 in
theorem walk10 (w : World) (hN : Names w) (A : Option Addr) (n0 cap : Nat) (bs : List UInt8) (hr : Rd w w.heap.size A n0 (bs.map bv)) (hn : n0 ≤ 140737488351232) (h3 : n0 ≤ 3000) (k : Nat) (n m : Int) (t : List UInt8) (l : List (List UInt8)) (kk ee : Nat) (nn mm : Int) (tt : List UInt8) (ll : List (List UInt8)) (ss : Nat) (g : Nat) (hg : g ≠ 0) (ha : askedM bs = ((k, n, m, t, l), 0)) (hto : toldM bs = ((kk, ee, nn, mm, tt, ll, ss), g)) :
    Calls Tryd.prog 6 #[.slice A n0 cap] w fun r w' => r = .returned (.bool true) ∧ Below w.heap.size w w' := by
  obtain ⟨rfl, rfl, rfl, rfl, rfl, rfl, rfl⟩ : kk = 0 ∧ ee = 0 ∧ nn = 0 ∧ mm = 0 ∧ tt = [] ∧ ll = [] ∧ ss = 0 := by
    have h := told_err (bs := bs) (by rw [hto]; exact hg)
    rw [hto] at h
    simpa [noTold] using h
  have hgn : ((g : Int) == 0) = false := by simp; omega
  have hgm : ((g : Int) != 0) = true := by simp; omega
  have HN := Lib.hid hN
  have HR := Lib.hid hr
  have hbl := Lib.hid hr.len
  have HA := Lib.hid ha
  have HT := Lib.hid hto
  have h3000 : ¬ 3000 < n0 := by omega
  have hb3 := Lib.hid (show bs.length ≤ 3000 by have := hbl.out; omega)
  clear hN hr ha hto hg
  go_enter Tryd.func6, Tryd.ntmps6
  go_wp2_with (first
    | (go_at_call 8; (with_reducible refine (evAwake_v _ HN.out).mono ?_); rintro r w1 ⟨rfl, hb1⟩; have HB1 := Lib.hid hb1; have R1 := Lib.hid (rd_later HR.out hb1); clear hb1)
    | (go_at_call 22; (with_reducible refine (askedK HA.out A n0 cap w1 R1.out hn).mono ?_); rintro r w2 ⟨A2, c2, rfl, hr2, hc2, hl2, _⟩; have RQ := Lib.hid hr2; have HB2 := Lib.hid (Later.trans HB1.out (Later.trans hl2 (Later.alloc w2 (.cells (qC k n m t A2 l.length c2) 24)))); have R2 := Lib.hid (rd_later HR.out HB2.out); clear hr2 hl2)
    | (go_at_call 24; (with_reducible refine (toldK HT.out A n0 cap _ R2.out hn).mono ?_); rintro r w3 ⟨A3, c3, rfl, hr3, hc3, hl3, _⟩; have RA := Lib.hid hr3; have L3 := Lib.hid hl3; clear hr3 hl3))
  have L3' := Lib.hid (Later.trans L3.out (Later.alloc w3 (.cells (aC 0 0 0 0 [] A3 0 c3 0) 26)))
  have HB3 := Lib.hid (Later.trans HB2.out L3'.out)
  obtain ⟨wz, hwz⟩ : ∃ wz, wz = w3.alloc (.cells (aC 0 0 0 0 [] A3 0 c3 0) 26) := ⟨_, rfl⟩
  have hk8 : ∀ W, Later wz W → Hid (Later wz W) ∧ W.cell? ⟨w2.heap.size, 0, none⟩ = some (.int .i64 (k : Int)) ∧ W.cell? ⟨w2.heap.size, 1, none⟩ = some (.int .i64 n) ∧ W.cell? ⟨w2.heap.size, 2, none⟩ = some (.int .i64 m) ∧ W.cell? ⟨w2.heap.size, 3, none⟩ = some (.string (mkS t)) ∧ W.cell? ⟨w2.heap.size, 4, none⟩ = some (.slice A2 l.length c2) ∧ (convert 33 9 (.slice A n0 cap)).run Tryd.prog W = .ok (.string (mkS bs)) W := fun W hW => by
    obtain ⟨h0, h1, h2, h3, h4⟩ := qcellsK w2 k n m t A2 l.length c2 (Later.trans L3'.out (by rw [← hwz]; exact hW))
    exact ⟨hW, h0, h1, h2, h3, h4, run_str_of (rd_later HR.out (Later.trans HB3.out (by rw [← hwz]; exact hW))) 33 9 5 Tryd.underlying33 Tryd.underlying5 Tryd.underlying9 cap⟩
  have hk10 : ∀ W, Later wz W → Hid (Later wz W) ∧ W.cell? ⟨w3.heap.size, 0, none⟩ = some (.int .i64 0) ∧ W.cell? ⟨w3.heap.size, 1, none⟩ = some (.int .i64 0) ∧ W.cell? ⟨w3.heap.size, 2, none⟩ = some (.int .i64 0) ∧ W.cell? ⟨w3.heap.size, 3, none⟩ = some (.int .i64 0) ∧ W.cell? ⟨w3.heap.size, 4, none⟩ = some (.string (mkS [])) ∧ W.cell? ⟨w3.heap.size, 5, none⟩ = some (.slice A3 0 c3) ∧ W.cell? ⟨w3.heap.size, 6, none⟩ = some (.int .i64 0) ∧ (convert 33 9 (.slice A n0 cap)).run Tryd.prog W = .ok (.string (mkS bs)) W := fun W hW => by
    obtain ⟨h0, h1, h2, h3, h4, h5, h6⟩ := acellsK w3 0 0 0 0 [] A3 0 c3 0 (W := W) (by rw [← hwz]; exact hW)
    exact ⟨hW, h0, h1, h2, h3, h4, h5, h6, run_str_of (rd_later HR.out (Later.trans HB3.out (by rw [← hwz]; exact hW))) 33 9 5 Tryd.underlying33 Tryd.underlying5 Tryd.underlying9 cap⟩
  have HK8 := Lib.hid hk8
  have HK10 := Lib.hid hk10
  have RQ3 := Lib.hid (show Rd wz wz.heap.size A2 l.length (l.map sv) by rw [hwz]; exact rd_later RQ.out (Later.trans (Later.alloc w2 _) L3'.out))
  have RA3 := Lib.hid (show Rd wz wz.heap.size A3 0 [] by rw [hwz]; exact rd_later RA.out (Later.alloc w3 _))
  have HB4 := Lib.hid (show Later w wz by rw [hwz]; exact HB3.out)
  have LZ := Lib.hid (Later.refl wz)
  rw [← hwz]
  have HWZ := Lib.hid hwz
  clear hk8 hk10 hwz
  refine wp_region_owes (by kernel_rfl) (fun W => Later wz W) (Later) (Later.refl) [Sp.val (.int .i64 0), Sp.val (.bool true), Sp.val (.bool true), Sp.val (.agg #[.int .i64 (k : Int), .int .i64 n, .int .i64 m, .string (mkS t), .slice A2 l.length c2]), spBytes bs.length bs, Sp.val (.string (mkS bs)), Sp.val (.slice A n0 cap), Sp.val (.string (mkS bs)), Sp.val (.bool false), Sp.val (.bool false), Sp.val (.agg #[.int .i64 (k : Int), .int .i64 n, .int .i64 m, .string (mkS t), .slice A2 l.length c2]), Sp.val (.bool true), Sp.val (.bool false), Sp.val (.bool false), Sp.val (.bool false), Sp.val (.bool false), Sp.val (.int .i64 0), Sp.val (.bool false), Sp.val (.bool false), Sp.val (undef), Sp.val (undef), Sp.val (undef), Sp.val (.bool false), Sp.val (.bool false)] (by kernel_rfl) (Later.drew wz) ?_ ?_
  · refine ⟨?_, ?_, ?_, ?_, ?_, ?_, ?_, ?_, ?_, ?_, ?_, ?_, ?_, ?_, ?_, ?_, ?_, ?_, ?_, ?_, ?_, ?_, ?_, ?_, trivial⟩
    · -- 0: slot 24 := Op.move t5
      refine fun a w hC hs => .inl ⟨?_, ?_⟩
      · rfl
      have e5 : a.tmps.getD 5 undef = .int .i64 0 := hs.free 5 rfl
      exact ⟨e5, hC, Later.refl _⟩
    · -- 1: slot 25 := Op.binOp BinOp.eql 39 t24 (const (0:i64)) 39
      refine fun a w hC hs => .inl ⟨?_, ?_⟩
      · rfl
      have e24 : a.tmps.getD 24 undef = .int .i64 0 := hs.dep 0 _ rfl rfl
      refine ValWp.pure (v := .bool true) (fun K' hK' => ?_) ⟨rfl, hC, Later.refl _⟩
      simp only [ValWp, execOp, Act.eval, e24]
      go_simp
      all_goals exact hK'
    · -- 2: slot 26 := Op.move t25
      refine fun a w hC hs => .inl ⟨?_, ?_⟩
      · rfl
      have e25 : a.tmps.getD 25 undef = .bool true := hs.dep 1 _ rfl rfl
      exact ⟨e25, hC, Later.refl _⟩
    · -- 3: slot 27 := Op.load 24 t4 guarded (2, 'true')
      refine fun a w hC hs => .inl ⟨?_, ?_⟩
      · exact (by unfold Region.wanted; dsimp only; rw [yielded_bool (d := 26) rfl (hs.dep 2 _ rfl rfl)]; rfl)
      have e4 : a.tmps.getD 4 undef = .pointer (some ⟨w2.heap.size, 0, none⟩) := hs.free 4 rfl
      obtain ⟨_, q0, q1, q2, q3, q4, hcv⟩ := HK8.out w hC
      refine ValWp.pure (v := .agg #[.int .i64 (k : Int), .int .i64 n, .int .i64 m, .string (mkS t), .slice A2 l.length c2]) (fun K' hK' => ?_) ⟨rfl, hC, Later.refl _⟩
      simp only [ValWp, execOp, Act.eval, e4]
      go_simp
      all_goals exact hK'
    · -- 4: slot 28 := Op.call { value (Operand.func 18), args := #[t27], argTypes := #[24] } guarded (2, 'true')
      refine fun a w hC hs => .inl ⟨?_, ?_⟩
      · exact (by unfold Region.wanted; dsimp only; rw [yielded_bool (d := 26) rfl (hs.dep 2 _ rfl rfl)]; rfl)
      have e27 : a.tmps.getD 27 undef = .agg #[.int .i64 (k : Int), .int .i64 n, .int .i64 m, .string (mkS t), .slice A2 l.length c2] := hs.dep 3 _ rfl rfl
      refine ValWp.call #[.agg #[.int .i64 (k : Int), .int .i64 n, .int .i64 m, .string (mkS t), .slice A2 l.length c2]] rfl rfl Tryd.func18 rfl rfl (by simp only [List.map_toArray, List.map_cons, List.map_nil, Act.eval, e27]) ?_
      refine (askK HA.out hb3.out A2 c2 w (rd_later RQ3.out hC)).mono ?_
      rintro r w' ⟨A6, c6, rfl, hl6, hr6⟩
      exact ⟨_, rfl, ⟨A6, c6, rfl, hr6⟩, Later.trans hC hl6, hl6⟩
    · -- 5: slot 29 := Op.convert 33 9 t28 guarded (2, 'true')
      refine fun a w hC hs => .inl ⟨?_, ?_⟩
      · exact (by unfold Region.wanted; dsimp only; rw [yielded_bool (d := 26) rfl (hs.dep 2 _ rfl rfl)]; rfl)
      obtain ⟨A28, c28, e28, h28⟩ := hs.dep 4 _ rfl rfl
      change a.tmps.getD 28 undef = _ at e28
      have hcv := run_str_of (P := Tryd.prog) h28 33 9 5 Tryd.underlying33 Tryd.underlying5 Tryd.underlying9 c28
      refine ValWp.pure (v := .string (mkS bs)) (fun K' hK' => ?_) ⟨rfl, hC, Later.refl _⟩
      simp only [ValWp, execOp, Act.eval, e28]
      go_simp
      all_goals exact hK'
    · -- 6: slot 30 := Op.move t0 guarded (2, 'true')
      refine fun a w hC hs => .inl ⟨?_, ?_⟩
      · exact (by unfold Region.wanted; dsimp only; rw [yielded_bool (d := 26) rfl (hs.dep 2 _ rfl rfl)]; rfl)
      have e0 : a.tmps.getD 0 undef = .slice A n0 cap := hs.free 0 rfl
      exact ⟨e0, hC, Later.refl _⟩
    · -- 7: slot 31 := Op.convert 33 9 t30 guarded (2, 'true')
      refine fun a w hC hs => .inl ⟨?_, ?_⟩
      · exact (by unfold Region.wanted; dsimp only; rw [yielded_bool (d := 26) rfl (hs.dep 2 _ rfl rfl)]; rfl)
      have e30 : a.tmps.getD 30 undef = .slice A n0 cap := hs.dep 6 _ rfl rfl
      obtain ⟨_, q0, q1, q2, q3, q4, hcv⟩ := HK8.out w hC
      refine ValWp.pure (v := .string (mkS bs)) (fun K' hK' => ?_) ⟨rfl, hC, Later.refl _⟩
      simp only [ValWp, execOp, Act.eval, e30]
      go_simp
      all_goals exact hK'
    · -- 8: slot 32 := Op.binOp BinOp.neq 9 t29 t31 9 guarded (2, 'true')
      refine fun a w hC hs => .inl ⟨?_, ?_⟩
      · exact (by unfold Region.wanted; dsimp only; rw [yielded_bool (d := 26) rfl (hs.dep 2 _ rfl rfl)]; rfl)
      have e29 : a.tmps.getD 29 undef = .string (mkS bs) := hs.dep 5 _ rfl rfl
      have e31 : a.tmps.getD 31 undef = .string (mkS bs) := hs.dep 7 _ rfl rfl
      refine ValWp.pure (v := .bool false) (fun K' hK' => ?_) ⟨rfl, hC, Later.refl _⟩
      simp only [ValWp, execOp, Act.eval, e29, e31]
      go_simp
      all_goals exact hK'
    · -- 9: slot 33 := Op.move t32 guarded (2, 'true')
      refine fun a w hC hs => .inl ⟨?_, ?_⟩
      · exact (by unfold Region.wanted; dsimp only; rw [yielded_bool (d := 26) rfl (hs.dep 2 _ rfl rfl)]; rfl)
      have e32 : a.tmps.getD 32 undef = .bool false := hs.dep 8 _ rfl rfl
      exact ⟨e32, hC, Later.refl _⟩
    · -- 10: slot 34 := Op.load 24 t4 guarded (9, 'false')
      refine fun a w hC hs => .inl ⟨?_, ?_⟩
      · exact (by unfold Region.wanted; dsimp only; rw [yielded_bool (d := 33) rfl (hs.dep 9 _ rfl rfl)]; rfl)
      have e4 : a.tmps.getD 4 undef = .pointer (some ⟨w2.heap.size, 0, none⟩) := hs.free 4 rfl
      obtain ⟨_, q0, q1, q2, q3, q4, hcv⟩ := HK8.out w hC
      refine ValWp.pure (v := .agg #[.int .i64 (k : Int), .int .i64 n, .int .i64 m, .string (mkS t), .slice A2 l.length c2]) (fun K' hK' => ?_) ⟨rfl, hC, Later.refl _⟩
      simp only [ValWp, execOp, Act.eval, e4]
      go_simp
      all_goals exact hK'
    · -- 11: slot 35 := Op.call { value (Operand.func 12), args := #[t34], argTypes := #[24] } guarded (9, 'false')
      refine fun a w hC hs => .inl ⟨?_, ?_⟩
      · exact (by unfold Region.wanted; dsimp only; rw [yielded_bool (d := 33) rfl (hs.dep 9 _ rfl rfl)]; rfl)
      have e34 : a.tmps.getD 34 undef = .agg #[.int .i64 (k : Int), .int .i64 n, .int .i64 m, .string (mkS t), .slice A2 l.length c2] := hs.dep 10 _ rfl rfl
      refine ValWp.call #[.agg #[.int .i64 (k : Int), .int .i64 n, .int .i64 m, .string (mkS t), .slice A2 l.length c2]] rfl rfl Tryd.func12 rfl rfl (by simp only [List.map_toArray, List.map_cons, List.map_nil, Act.eval, e34]) ?_
      refine (rightK HA.out A2 c2 w).mono ?_
      rintro r w' ⟨rfl, hl7⟩
      exact ⟨_, rfl, rfl, Later.trans hC hl7, hl7⟩
    · -- 12: slot 36 := Op.unOp UnOp.not 4 t35 guarded (9, 'false')
      refine fun a w hC hs => .inl ⟨?_, ?_⟩
      · exact (by unfold Region.wanted; dsimp only; rw [yielded_bool (d := 33) rfl (hs.dep 9 _ rfl rfl)]; rfl)
      have e35 : a.tmps.getD 35 undef = .bool true := hs.dep 11 _ rfl rfl
      refine ValWp.pure (v := .bool false) (fun K' hK' => ?_) ⟨rfl, hC, Later.refl _⟩
      simp only [ValWp, execOp, Act.eval, e35]
      go_simp
      all_goals exact hK'
    · -- 13: slot 37 := Op.pick t33 (const (Value.bool true)) t36 guarded (2, 'true')
      refine fun a w hC hs => .inl ⟨?_, ?_⟩
      · exact (by unfold Region.wanted; dsimp only; rw [yielded_bool (d := 26) rfl (hs.dep 2 _ rfl rfl)]; rfl)
      have e33 : a.tmps.getD 33 undef = .bool false := hs.dep 9 _ rfl rfl
      have e36 : a.tmps.getD 36 undef = .bool false := hs.dep 12 _ rfl rfl
      refine ValWp.pure (v := .bool false) (fun K' hK' => ?_) ⟨rfl, hC, Later.refl _⟩
      simp only [ValWp, execOp, Act.eval, e33, e36]
      go_simp
      all_goals exact hK'
    · -- 14: slot 38 := Op.pick t26 t37 (const (Value.bool false))
      refine fun a w hC hs => .inl ⟨?_, ?_⟩
      · rfl
      have e26 : a.tmps.getD 26 undef = .bool true := hs.dep 2 _ rfl rfl
      have e37 : a.tmps.getD 37 undef = .bool false := hs.dep 13 _ rfl rfl
      refine ValWp.pure (v := .bool false) (fun K' hK' => ?_) ⟨rfl, hC, Later.refl _⟩
      simp only [ValWp, execOp, Act.eval, e26, e37]
      go_simp
      all_goals exact hK'
    · -- 15: slot 39 := Op.move t38
      refine fun a w hC hs => .inl ⟨?_, ?_⟩
      · rfl
      have e38 : a.tmps.getD 38 undef = .bool false := hs.dep 14 _ rfl rfl
      exact ⟨e38, hC, Later.refl _⟩
    · -- 16: slot 40 := Op.move t5 guarded (15, 'false')
      refine fun a w hC hs => .inl ⟨?_, ?_⟩
      · exact (by unfold Region.wanted; dsimp only; rw [yielded_bool (d := 39) rfl (hs.dep 15 _ rfl rfl)]; rfl)
      have e5 : a.tmps.getD 5 undef = .int .i64 0 := hs.free 5 rfl
      exact ⟨e5, hC, Later.refl _⟩
    · -- 17: slot 41 := Op.binOp BinOp.neq 39 t40 (const (0:i64)) 39 guarded (15, 'false')
      refine fun a w hC hs => .inl ⟨?_, ?_⟩
      · exact (by unfold Region.wanted; dsimp only; rw [yielded_bool (d := 39) rfl (hs.dep 15 _ rfl rfl)]; rfl)
      have e40 : a.tmps.getD 40 undef = .int .i64 0 := hs.dep 16 _ rfl rfl
      refine ValWp.pure (v := .bool false) (fun K' hK' => ?_) ⟨rfl, hC, Later.refl _⟩
      simp only [ValWp, execOp, Act.eval, e40]
      go_simp
      all_goals exact hK'
    · -- 18: slot 42 := Op.move t41 guarded (15, 'false')
      refine fun a w hC hs => .inl ⟨?_, ?_⟩
      · exact (by unfold Region.wanted; dsimp only; rw [yielded_bool (d := 39) rfl (hs.dep 15 _ rfl rfl)]; rfl)
      have e41 : a.tmps.getD 41 undef = .bool false := hs.dep 17 _ rfl rfl
      exact ⟨e41, hC, Later.refl _⟩
    · -- 19: slot 43 := Op.fieldAddr 24 t4 0 guarded (18, 'true')
      exact fun a w hC hs => .inr ⟨(by unfold Region.wanted; dsimp only; rw [yielded_bool (d := 42) rfl (hs.dep 18 _ rfl rfl)]; rfl), rfl⟩
    · -- 20: slot 44 := Op.load 3 t43 guarded (18, 'true')
      exact fun a w hC hs => .inr ⟨(by unfold Region.wanted; dsimp only; rw [yielded_bool (d := 42) rfl (hs.dep 18 _ rfl rfl)]; rfl), rfl⟩
    · -- 21: slot 45 := Op.binOp BinOp.neq 3 t44 (const (0:i64)) 3 guarded (18, 'true')
      exact fun a w hC hs => .inr ⟨(by unfold Region.wanted; dsimp only; rw [yielded_bool (d := 42) rfl (hs.dep 18 _ rfl rfl)]; rfl), rfl⟩
    · -- 22: slot 46 := Op.pick t42 t45 (const (Value.bool false)) guarded (15, 'false')
      refine fun a w hC hs => .inl ⟨?_, ?_⟩
      · exact (by unfold Region.wanted; dsimp only; rw [yielded_bool (d := 39) rfl (hs.dep 15 _ rfl rfl)]; rfl)
      have e42 : a.tmps.getD 42 undef = .bool false := hs.dep 18 _ rfl rfl
      have e45 : a.tmps.getD 45 undef = undef := hs.dep 21 _ rfl rfl
      refine ValWp.pure (v := .bool false) (fun K' hK' => ?_) ⟨rfl, hC, Later.refl _⟩
      simp only [ValWp, execOp, Act.eval, e42, e45]
      go_simp
      all_goals exact hK'
    · -- 23: slot 47 := Op.pick t39 (const (Value.bool true)) t46
      refine fun a w hC hs => .inl ⟨?_, ?_⟩
      · rfl
      have e39 : a.tmps.getD 39 undef = .bool false := hs.dep 15 _ rfl rfl
      have e46 : a.tmps.getD 46 undef = .bool false := hs.dep 22 _ rfl rfl
      refine ValWp.pure (v := .bool false) (fun K' hK' => ?_) ⟨rfl, hC, Later.refl _⟩
      simp only [ValWp, execOp, Act.eval, e39, e46]
      go_simp
      all_goals exact hK'
  · intro a W hC hd hsz hfree hs
    obtain ⟨u1, hu1⟩ : ∃ u, u = a.tmps.getD 1 undef := ⟨_, rfl⟩
    obtain ⟨u2, hu2⟩ : ∃ u, u = a.tmps.getD 2 undef := ⟨_, rfl⟩
    obtain ⟨u3, hu3⟩ : ∃ u, u = a.tmps.getD 3 undef := ⟨_, rfl⟩
    obtain ⟨u4, hu4⟩ : ∃ u, u = a.tmps.getD 4 undef := ⟨_, rfl⟩
    obtain ⟨u5, hu5⟩ : ∃ u, u = a.tmps.getD 5 undef := ⟨_, rfl⟩
    obtain ⟨u8, hu8⟩ : ∃ u, u = a.tmps.getD 8 undef := ⟨_, rfl⟩
    obtain ⟨u9, hu9⟩ : ∃ u, u = a.tmps.getD 9 undef := ⟨_, rfl⟩
    obtain ⟨u10, hu10⟩ : ∃ u, u = a.tmps.getD 10 undef := ⟨_, rfl⟩
    obtain ⟨u11, hu11⟩ : ∃ u, u = a.tmps.getD 11 undef := ⟨_, rfl⟩
    obtain ⟨u12, hu12⟩ : ∃ u, u = a.tmps.getD 12 undef := ⟨_, rfl⟩
    obtain ⟨u13, hu13⟩ : ∃ u, u = a.tmps.getD 13 undef := ⟨_, rfl⟩
    obtain ⟨u14, hu14⟩ : ∃ u, u = a.tmps.getD 14 undef := ⟨_, rfl⟩
    obtain ⟨u15, hu15⟩ : ∃ u, u = a.tmps.getD 15 undef := ⟨_, rfl⟩
    obtain ⟨u16, hu16⟩ : ∃ u, u = a.tmps.getD 16 undef := ⟨_, rfl⟩
    obtain ⟨u17, hu17⟩ : ∃ u, u = a.tmps.getD 17 undef := ⟨_, rfl⟩
    obtain ⟨u18, hu18⟩ : ∃ u, u = a.tmps.getD 18 undef := ⟨_, rfl⟩
    obtain ⟨u19, hu19⟩ : ∃ u, u = a.tmps.getD 19 undef := ⟨_, rfl⟩
    obtain ⟨u20, hu20⟩ : ∃ u, u = a.tmps.getD 20 undef := ⟨_, rfl⟩
    obtain ⟨u21, hu21⟩ : ∃ u, u = a.tmps.getD 21 undef := ⟨_, rfl⟩
    obtain ⟨u22, hu22⟩ : ∃ u, u = a.tmps.getD 22 undef := ⟨_, rfl⟩
    obtain ⟨u23, hu23⟩ : ∃ u, u = a.tmps.getD 23 undef := ⟨_, rfl⟩
    obtain ⟨u24, hu24⟩ : ∃ u, u = a.tmps.getD 24 undef := ⟨_, rfl⟩
    obtain ⟨u25, hu25⟩ : ∃ u, u = a.tmps.getD 25 undef := ⟨_, rfl⟩
    obtain ⟨u26, hu26⟩ : ∃ u, u = a.tmps.getD 26 undef := ⟨_, rfl⟩
    obtain ⟨u27, hu27⟩ : ∃ u, u = a.tmps.getD 27 undef := ⟨_, rfl⟩
    obtain ⟨u28, hu28⟩ : ∃ u, u = a.tmps.getD 28 undef := ⟨_, rfl⟩
    obtain ⟨u29, hu29⟩ : ∃ u, u = a.tmps.getD 29 undef := ⟨_, rfl⟩
    obtain ⟨u30, hu30⟩ : ∃ u, u = a.tmps.getD 30 undef := ⟨_, rfl⟩
    obtain ⟨u31, hu31⟩ : ∃ u, u = a.tmps.getD 31 undef := ⟨_, rfl⟩
    obtain ⟨u32, hu32⟩ : ∃ u, u = a.tmps.getD 32 undef := ⟨_, rfl⟩
    obtain ⟨u33, hu33⟩ : ∃ u, u = a.tmps.getD 33 undef := ⟨_, rfl⟩
    obtain ⟨u34, hu34⟩ : ∃ u, u = a.tmps.getD 34 undef := ⟨_, rfl⟩
    obtain ⟨u35, hu35⟩ : ∃ u, u = a.tmps.getD 35 undef := ⟨_, rfl⟩
    obtain ⟨u36, hu36⟩ : ∃ u, u = a.tmps.getD 36 undef := ⟨_, rfl⟩
    obtain ⟨u37, hu37⟩ : ∃ u, u = a.tmps.getD 37 undef := ⟨_, rfl⟩
    obtain ⟨u38, hu38⟩ : ∃ u, u = a.tmps.getD 38 undef := ⟨_, rfl⟩
    obtain ⟨u39, hu39⟩ : ∃ u, u = a.tmps.getD 39 undef := ⟨_, rfl⟩
    obtain ⟨u40, hu40⟩ : ∃ u, u = a.tmps.getD 40 undef := ⟨_, rfl⟩
    obtain ⟨u41, hu41⟩ : ∃ u, u = a.tmps.getD 41 undef := ⟨_, rfl⟩
    obtain ⟨u42, hu42⟩ : ∃ u, u = a.tmps.getD 42 undef := ⟨_, rfl⟩
    obtain ⟨u43, hu43⟩ : ∃ u, u = a.tmps.getD 43 undef := ⟨_, rfl⟩
    obtain ⟨u44, hu44⟩ : ∃ u, u = a.tmps.getD 44 undef := ⟨_, rfl⟩
    obtain ⟨u45, hu45⟩ : ∃ u, u = a.tmps.getD 45 undef := ⟨_, rfl⟩
    obtain ⟨u46, hu46⟩ : ∃ u, u = a.tmps.getD 46 undef := ⟨_, rfl⟩
    obtain ⟨u48, hu48⟩ : ∃ u, u = a.tmps.getD 48 undef := ⟨_, rfl⟩
    obtain ⟨u49, hu49⟩ : ∃ u, u = a.tmps.getD 49 undef := ⟨_, rfl⟩
    obtain ⟨u50, hu50⟩ : ∃ u, u = a.tmps.getD 50 undef := ⟨_, rfl⟩
    obtain ⟨u51, hu51⟩ : ∃ u, u = a.tmps.getD 51 undef := ⟨_, rfl⟩
    obtain ⟨u52, hu52⟩ : ∃ u, u = a.tmps.getD 52 undef := ⟨_, rfl⟩
    obtain ⟨u53, hu53⟩ : ∃ u, u = a.tmps.getD 53 undef := ⟨_, rfl⟩
    obtain ⟨u54, hu54⟩ : ∃ u, u = a.tmps.getD 54 undef := ⟨_, rfl⟩
    obtain ⟨u55, hu55⟩ : ∃ u, u = a.tmps.getD 55 undef := ⟨_, rfl⟩
    obtain ⟨u56, hu56⟩ : ∃ u, u = a.tmps.getD 56 undef := ⟨_, rfl⟩
    obtain ⟨u57, hu57⟩ : ∃ u, u = a.tmps.getD 57 undef := ⟨_, rfl⟩
    obtain ⟨u58, hu58⟩ : ∃ u, u = a.tmps.getD 58 undef := ⟨_, rfl⟩
    obtain ⟨u59, hu59⟩ : ∃ u, u = a.tmps.getD 59 undef := ⟨_, rfl⟩
    obtain ⟨u60, hu60⟩ : ∃ u, u = a.tmps.getD 60 undef := ⟨_, rfl⟩
    obtain ⟨u61, hu61⟩ : ∃ u, u = a.tmps.getD 61 undef := ⟨_, rfl⟩
    obtain ⟨u62, hu62⟩ : ∃ u, u = a.tmps.getD 62 undef := ⟨_, rfl⟩
    obtain ⟨u63, hu63⟩ : ∃ u, u = a.tmps.getD 63 undef := ⟨_, rfl⟩
    obtain ⟨u64, hu64⟩ : ∃ u, u = a.tmps.getD 64 undef := ⟨_, rfl⟩
    obtain ⟨u65, hu65⟩ : ∃ u, u = a.tmps.getD 65 undef := ⟨_, rfl⟩
    obtain ⟨u66, hu66⟩ : ∃ u, u = a.tmps.getD 66 undef := ⟨_, rfl⟩
    obtain ⟨u67, hu67⟩ : ∃ u, u = a.tmps.getD 67 undef := ⟨_, rfl⟩
    obtain ⟨u68, hu68⟩ : ∃ u, u = a.tmps.getD 68 undef := ⟨_, rfl⟩
    obtain ⟨u69, hu69⟩ : ∃ u, u = a.tmps.getD 69 undef := ⟨_, rfl⟩
    obtain ⟨u70, hu70⟩ : ∃ u, u = a.tmps.getD 70 undef := ⟨_, rfl⟩
    obtain ⟨u71, hu71⟩ : ∃ u, u = a.tmps.getD 71 undef := ⟨_, rfl⟩
    obtain ⟨u72, hu72⟩ : ∃ u, u = a.tmps.getD 72 undef := ⟨_, rfl⟩
    obtain ⟨u73, hu73⟩ : ∃ u, u = a.tmps.getD 73 undef := ⟨_, rfl⟩
    obtain ⟨u74, hu74⟩ : ∃ u, u = a.tmps.getD 74 undef := ⟨_, rfl⟩
    obtain ⟨u75, hu75⟩ : ∃ u, u = a.tmps.getD 75 undef := ⟨_, rfl⟩
    obtain ⟨u76, hu76⟩ : ∃ u, u = a.tmps.getD 76 undef := ⟨_, rfl⟩
    obtain ⟨u77, hu77⟩ : ∃ u, u = a.tmps.getD 77 undef := ⟨_, rfl⟩
    obtain ⟨u78, hu78⟩ : ∃ u, u = a.tmps.getD 78 undef := ⟨_, rfl⟩
    have hal : AllAt a 0 [.slice A n0 cap, u1, u2, u3, u4, u5, .pointer (some ⟨w3.heap.size, 0, none⟩), .int .i64 (g : Int), u8, u9, u10, u11, u12, u13, u14, u15, u16, u17, u18, u19, u20, u21, u22, u23, u24, u25, u26, u27, u28, u29, u30, u31, u32, u33, u34, u35, u36, u37, u38, u39, u40, u41, u42, u43, u44, u45, u46, .bool false, u48, u49, u50, u51, u52, u53, u54, u55, u56, u57, u58, u59, u60, u61, u62, u63, u64, u65, u66, u67, u68, u69, u70, u71, u72, u73, u74, u75, u76, u77, u78] := ⟨hfree 0 rfl, hu1.symm, hu2.symm, hu3.symm, hu4.symm, hu5.symm, hfree 6 rfl, hfree 7 rfl, hu8.symm, hu9.symm, hu10.symm, hu11.symm, hu12.symm, hu13.symm, hu14.symm, hu15.symm, hu16.symm, hu17.symm, hu18.symm, hu19.symm, hu20.symm, hu21.symm, hu22.symm, hu23.symm, hu24.symm, hu25.symm, hu26.symm, hu27.symm, hu28.symm, hu29.symm, hu30.symm, hu31.symm, hu32.symm, hu33.symm, hu34.symm, hu35.symm, hu36.symm, hu37.symm, hu38.symm, hu39.symm, hu40.symm, hu41.symm, hu42.symm, hu43.symm, hu44.symm, hu45.symm, hu46.symm, hs 23 _ rfl, hu48.symm, hu49.symm, hu50.symm, hu51.symm, hu52.symm, hu53.symm, hu54.symm, hu55.symm, hu56.symm, hu57.symm, hu58.symm, hu59.symm, hu60.symm, hu61.symm, hu62.symm, hu63.symm, hu64.symm, hu65.symm, hu66.symm, hu67.symm, hu68.symm, hu69.symm, hu70.symm, hu71.symm, hu72.symm, hu73.symm, hu74.symm, hu75.symm, hu76.symm, hu77.symm, hu78.symm, trivial⟩
    have hlit := fun h => act_lit hd h hal
    rw [hlit hsz]
    clear hlit hal hd hsz hfree hs hu1 hu2 hu3 hu4 hu5 hu8 hu9 hu10 hu11 hu12 hu13 hu14 hu15 hu16 hu17 hu18 hu19 hu20 hu21 hu22 hu23 hu24 hu25 hu26 hu27 hu28 hu29 hu30 hu31 hu32 hu33 hu34 hu35 hu36 hu37 hu38 hu39 hu40 hu41 hu42 hu43 hu44 hu45 hu46 hu48 hu49 hu50 hu51 hu52 hu53 hu54 hu55 hu56 hu57 hu58 hu59 hu60 hu61 hu62 hu63 hu64 hu65 hu66 hu67 hu68 hu69 hu70 hu71 hu72 hu73 hu74 hu75 hu76 hu77 hu78
    have LW := Lib.hid (show Later wz W from hC)
    clear hC
    go_wp2
    refine wp_region_owes (by kernel_rfl) (fun X => Later wz X) (Later) (Later.refl) [Sp.val (.int .i64 (g : Int)), Sp.val (.bool false), Sp.val (.bool false), Sp.val (undef), Sp.val (undef), Sp.val (undef), Sp.val (undef), Sp.val (undef), Sp.val (undef), Sp.val (.bool false), Sp.val (.bool false), Sp.val (undef), Sp.val (undef), Sp.val (undef), Sp.val (undef), Sp.val (.bool false), Sp.val (.bool false), Sp.val (.int .i64 (g : Int)), Sp.val (.bool true), Sp.val (.bool true), Sp.val (.pointer (some ⟨w3.heap.size, 0, none⟩)), Sp.val (.int .i64 0), Sp.val (.bool true), Sp.val (.bool true), Sp.val (.bool true), Sp.val (.pointer (some ⟨w3.heap.size, 5, none⟩)), Sp.val (.slice A3 0 c3), Sp.val (.int .i64 0), Sp.val (.bool true), Sp.val (.bool true), Sp.val (.bool true), Sp.val (.bool true)] (by kernel_rfl) (Later.trans LW.out (Later.drew _)) ?_ ?_
    · refine ⟨?_, ?_, ?_, ?_, ?_, ?_, ?_, ?_, ?_, ?_, ?_, ?_, ?_, ?_, ?_, ?_, ?_, ?_, ?_, ?_, ?_, ?_, ?_, ?_, ?_, ?_, ?_, ?_, ?_, ?_, ?_, ?_, trivial⟩
      · -- 0: slot 48 := Op.move t7
        refine fun a w hC hs => .inl ⟨?_, ?_⟩
        · rfl
        have e7 : a.tmps.getD 7 undef = .int .i64 (g : Int) := hs.free 7 rfl
        exact ⟨e7, hC, Later.refl _⟩
      · -- 1: slot 49 := Op.binOp BinOp.eql 39 t48 (const (0:i64)) 39
        refine fun a w hC hs => .inl ⟨?_, ?_⟩
        · rfl
        have e48 : a.tmps.getD 48 undef = .int .i64 (g : Int) := hs.dep 0 _ rfl rfl
        refine ValWp.pure (v := .bool false) (fun K' hK' => ?_) ⟨rfl, hC, Later.refl _⟩
        simp only [ValWp, execOp, Act.eval, e48]
        go_simp
        all_goals exact hK'
      · -- 2: slot 50 := Op.move t49
        refine fun a w hC hs => .inl ⟨?_, ?_⟩
        · rfl
        have e49 : a.tmps.getD 49 undef = .bool false := hs.dep 1 _ rfl rfl
        exact ⟨e49, hC, Later.refl _⟩
      · -- 3: slot 51 := Op.load 26 t6 guarded (2, 'true')
        exact fun a w hC hs => .inr ⟨(by unfold Region.wanted; dsimp only; rw [yielded_bool (d := 50) rfl (hs.dep 2 _ rfl rfl)]; rfl), rfl⟩
      · -- 4: slot 52 := Op.call { value (Operand.func 20), args := #[t51], argTypes := #[26] } guarded (2, 'true')
        exact fun a w hC hs => .inr ⟨(by unfold Region.wanted; dsimp only; rw [yielded_bool (d := 50) rfl (hs.dep 2 _ rfl rfl)]; rfl), rfl⟩
      · -- 5: slot 53 := Op.convert 33 9 t52 guarded (2, 'true')
        exact fun a w hC hs => .inr ⟨(by unfold Region.wanted; dsimp only; rw [yielded_bool (d := 50) rfl (hs.dep 2 _ rfl rfl)]; rfl), rfl⟩
      · -- 6: slot 54 := Op.move t0 guarded (2, 'true')
        exact fun a w hC hs => .inr ⟨(by unfold Region.wanted; dsimp only; rw [yielded_bool (d := 50) rfl (hs.dep 2 _ rfl rfl)]; rfl), rfl⟩
      · -- 7: slot 55 := Op.convert 33 9 t54 guarded (2, 'true')
        exact fun a w hC hs => .inr ⟨(by unfold Region.wanted; dsimp only; rw [yielded_bool (d := 50) rfl (hs.dep 2 _ rfl rfl)]; rfl), rfl⟩
      · -- 8: slot 56 := Op.binOp BinOp.eql 9 t53 t55 9 guarded (2, 'true')
        exact fun a w hC hs => .inr ⟨(by unfold Region.wanted; dsimp only; rw [yielded_bool (d := 50) rfl (hs.dep 2 _ rfl rfl)]; rfl), rfl⟩
      · -- 9: slot 57 := Op.pick t50 t56 (const (Value.bool false))
        refine fun a w hC hs => .inl ⟨?_, ?_⟩
        · rfl
        have e50 : a.tmps.getD 50 undef = .bool false := hs.dep 2 _ rfl rfl
        have e56 : a.tmps.getD 56 undef = undef := hs.dep 8 _ rfl rfl
        refine ValWp.pure (v := .bool false) (fun K' hK' => ?_) ⟨rfl, hC, Later.refl _⟩
        simp only [ValWp, execOp, Act.eval, e50, e56]
        go_simp
        all_goals exact hK'
      · -- 10: slot 58 := Op.move t57
        refine fun a w hC hs => .inl ⟨?_, ?_⟩
        · rfl
        have e57 : a.tmps.getD 57 undef = .bool false := hs.dep 9 _ rfl rfl
        exact ⟨e57, hC, Later.refl _⟩
      · -- 11: slot 59 := Op.fieldAddr 26 t6 0 guarded (10, 'true')
        exact fun a w hC hs => .inr ⟨(by unfold Region.wanted; dsimp only; rw [yielded_bool (d := 58) rfl (hs.dep 10 _ rfl rfl)]; rfl), rfl⟩
      · -- 12: slot 60 := Op.load 3 t59 guarded (10, 'true')
        exact fun a w hC hs => .inr ⟨(by unfold Region.wanted; dsimp only; rw [yielded_bool (d := 58) rfl (hs.dep 10 _ rfl rfl)]; rfl), rfl⟩
      · -- 13: slot 61 := Op.load 26 t6 guarded (10, 'true')
        exact fun a w hC hs => .inr ⟨(by unfold Region.wanted; dsimp only; rw [yielded_bool (d := 58) rfl (hs.dep 10 _ rfl rfl)]; rfl), rfl⟩
      · -- 14: slot 62 := Op.call { value (Operand.func 14), args := #[t60, t61], argTypes := #[3, 26] } guarded (10, 'true')
        exact fun a w hC hs => .inr ⟨(by unfold Region.wanted; dsimp only; rw [yielded_bool (d := 58) rfl (hs.dep 10 _ rfl rfl)]; rfl), rfl⟩
      · -- 15: slot 63 := Op.pick t58 t62 (const (Value.bool false))
        refine fun a w hC hs => .inl ⟨?_, ?_⟩
        · rfl
        have e58 : a.tmps.getD 58 undef = .bool false := hs.dep 10 _ rfl rfl
        have e62 : a.tmps.getD 62 undef = undef := hs.dep 14 _ rfl rfl
        refine ValWp.pure (v := .bool false) (fun K' hK' => ?_) ⟨rfl, hC, Later.refl _⟩
        simp only [ValWp, execOp, Act.eval, e58, e62]
        go_simp
        all_goals exact hK'
      · -- 16: slot 64 := Op.move t63
        refine fun a w hC hs => .inl ⟨?_, ?_⟩
        · rfl
        have e63 : a.tmps.getD 63 undef = .bool false := hs.dep 15 _ rfl rfl
        exact ⟨e63, hC, Later.refl _⟩
      · -- 17: slot 65 := Op.move t7 guarded (16, 'false')
        refine fun a w hC hs => .inl ⟨?_, ?_⟩
        · exact (by unfold Region.wanted; dsimp only; rw [yielded_bool (d := 64) rfl (hs.dep 16 _ rfl rfl)]; rfl)
        have e7 : a.tmps.getD 7 undef = .int .i64 (g : Int) := hs.free 7 rfl
        exact ⟨e7, hC, Later.refl _⟩
      · -- 18: slot 66 := Op.binOp BinOp.neq 39 t65 (const (0:i64)) 39 guarded (16, 'false')
        refine fun a w hC hs => .inl ⟨?_, ?_⟩
        · exact (by unfold Region.wanted; dsimp only; rw [yielded_bool (d := 64) rfl (hs.dep 16 _ rfl rfl)]; rfl)
        have e65 : a.tmps.getD 65 undef = .int .i64 (g : Int) := hs.dep 17 _ rfl rfl
        refine ValWp.pure (v := .bool true) (fun K' hK' => ?_) ⟨rfl, hC, Later.refl _⟩
        simp only [ValWp, execOp, Act.eval, e65]
        go_simp
        all_goals exact hK'
      · -- 19: slot 67 := Op.move t66 guarded (16, 'false')
        refine fun a w hC hs => .inl ⟨?_, ?_⟩
        · exact (by unfold Region.wanted; dsimp only; rw [yielded_bool (d := 64) rfl (hs.dep 16 _ rfl rfl)]; rfl)
        have e66 : a.tmps.getD 66 undef = .bool true := hs.dep 18 _ rfl rfl
        exact ⟨e66, hC, Later.refl _⟩
      · -- 20: slot 68 := Op.fieldAddr 26 t6 0 guarded (19, 'true')
        refine fun a w hC hs => .inl ⟨?_, ?_⟩
        · exact (by unfold Region.wanted; dsimp only; rw [yielded_bool (d := 67) rfl (hs.dep 19 _ rfl rfl)]; rfl)
        have e6 : a.tmps.getD 6 undef = .pointer (some ⟨w3.heap.size, 0, none⟩) := hs.free 6 rfl
        refine ValWp.pure (v := .pointer (some ⟨w3.heap.size, 0, none⟩)) (fun K' hK' => ?_) ⟨rfl, hC, Later.refl _⟩
        simp only [ValWp, execOp, Act.eval, e6]
        go_simp
        all_goals exact hK'
      · -- 21: slot 69 := Op.load 3 t68 guarded (19, 'true')
        refine fun a w hC hs => .inl ⟨?_, ?_⟩
        · exact (by unfold Region.wanted; dsimp only; rw [yielded_bool (d := 67) rfl (hs.dep 19 _ rfl rfl)]; rfl)
        have e68 : a.tmps.getD 68 undef = .pointer (some ⟨w3.heap.size, 0, none⟩) := hs.dep 20 _ rfl rfl
        obtain ⟨_, q0, q1, q2, q3, q4, q5, q6, hcv⟩ := HK10.out w hC
        refine ValWp.pure (v := .int .i64 0) (fun K' hK' => ?_) ⟨rfl, hC, Later.refl _⟩
        simp only [ValWp, execOp, Act.eval, e68]
        go_simp
        all_goals exact hK'
      · -- 22: slot 70 := Op.binOp BinOp.eql 3 t69 (const (0:i64)) 3 guarded (19, 'true')
        refine fun a w hC hs => .inl ⟨?_, ?_⟩
        · exact (by unfold Region.wanted; dsimp only; rw [yielded_bool (d := 67) rfl (hs.dep 19 _ rfl rfl)]; rfl)
        have e69 : a.tmps.getD 69 undef = .int .i64 0 := hs.dep 21 _ rfl rfl
        refine ValWp.pure (v := .bool true) (fun K' hK' => ?_) ⟨rfl, hC, Later.refl _⟩
        simp only [ValWp, execOp, Act.eval, e69]
        go_simp
        all_goals exact hK'
      · -- 23: slot 71 := Op.pick t67 t70 (const (Value.bool false)) guarded (16, 'false')
        refine fun a w hC hs => .inl ⟨?_, ?_⟩
        · exact (by unfold Region.wanted; dsimp only; rw [yielded_bool (d := 64) rfl (hs.dep 16 _ rfl rfl)]; rfl)
        have e67 : a.tmps.getD 67 undef = .bool true := hs.dep 19 _ rfl rfl
        have e70 : a.tmps.getD 70 undef = .bool true := hs.dep 22 _ rfl rfl
        refine ValWp.pure (v := .bool true) (fun K' hK' => ?_) ⟨rfl, hC, Later.refl _⟩
        simp only [ValWp, execOp, Act.eval, e67, e70]
        go_simp
        all_goals exact hK'
      · -- 24: slot 72 := Op.move t71 guarded (16, 'false')
        refine fun a w hC hs => .inl ⟨?_, ?_⟩
        · exact (by unfold Region.wanted; dsimp only; rw [yielded_bool (d := 64) rfl (hs.dep 16 _ rfl rfl)]; rfl)
        have e71 : a.tmps.getD 71 undef = .bool true := hs.dep 23 _ rfl rfl
        exact ⟨e71, hC, Later.refl _⟩
      · -- 25: slot 73 := Op.fieldAddr 26 t6 5 guarded (24, 'true')
        refine fun a w hC hs => .inl ⟨?_, ?_⟩
        · exact (by unfold Region.wanted; dsimp only; rw [yielded_bool (d := 72) rfl (hs.dep 24 _ rfl rfl)]; rfl)
        have e6 : a.tmps.getD 6 undef = .pointer (some ⟨w3.heap.size, 0, none⟩) := hs.free 6 rfl
        refine ValWp.pure (v := .pointer (some ⟨w3.heap.size, 5, none⟩)) (fun K' hK' => ?_) ⟨rfl, hC, Later.refl _⟩
        simp only [ValWp, execOp, Act.eval, e6]
        go_simp
        all_goals exact hK'
      · -- 26: slot 74 := Op.load 22 t73 guarded (24, 'true')
        refine fun a w hC hs => .inl ⟨?_, ?_⟩
        · exact (by unfold Region.wanted; dsimp only; rw [yielded_bool (d := 72) rfl (hs.dep 24 _ rfl rfl)]; rfl)
        have e73 : a.tmps.getD 73 undef = .pointer (some ⟨w3.heap.size, 5, none⟩) := hs.dep 25 _ rfl rfl
        obtain ⟨_, q0, q1, q2, q3, q4, q5, q6, hcv⟩ := HK10.out w hC
        refine ValWp.pure (v := .slice A3 0 c3) (fun K' hK' => ?_) ⟨rfl, hC, Later.refl _⟩
        simp only [ValWp, execOp, Act.eval, e73]
        go_simp
        all_goals exact hK'
      · -- 27: slot 75 := Op.call { builtin len, args := #[t74], argTypes := #[22] } guarded (24, 'true')
        refine fun a w hC hs => .inl ⟨?_, ?_⟩
        · exact (by unfold Region.wanted; dsimp only; rw [yielded_bool (d := 72) rfl (hs.dep 24 _ rfl rfl)]; rfl)
        have e74 : a.tmps.getD 74 undef = .slice A3 0 c3 := hs.dep 26 _ rfl rfl
        refine ValWp.pure (v := .int .i64 0) (fun K' hK' => ?_) ⟨rfl, hC, Later.refl _⟩
        simp only [ValWp, execOp]
        go_simp
        all_goals exact hK'
      · -- 28: slot 76 := Op.binOp BinOp.eql 3 t75 (const (0:i64)) 3 guarded (24, 'true')
        refine fun a w hC hs => .inl ⟨?_, ?_⟩
        · exact (by unfold Region.wanted; dsimp only; rw [yielded_bool (d := 72) rfl (hs.dep 24 _ rfl rfl)]; rfl)
        have e75 : a.tmps.getD 75 undef = .int .i64 0 := hs.dep 27 _ rfl rfl
        refine ValWp.pure (v := .bool true) (fun K' hK' => ?_) ⟨rfl, hC, Later.refl _⟩
        simp only [ValWp, execOp, Act.eval, e75]
        go_simp
        all_goals exact hK'
      · -- 29: slot 77 := Op.pick t72 t76 (const (Value.bool false)) guarded (16, 'false')
        refine fun a w hC hs => .inl ⟨?_, ?_⟩
        · exact (by unfold Region.wanted; dsimp only; rw [yielded_bool (d := 64) rfl (hs.dep 16 _ rfl rfl)]; rfl)
        have e72 : a.tmps.getD 72 undef = .bool true := hs.dep 24 _ rfl rfl
        have e76 : a.tmps.getD 76 undef = .bool true := hs.dep 28 _ rfl rfl
        refine ValWp.pure (v := .bool true) (fun K' hK' => ?_) ⟨rfl, hC, Later.refl _⟩
        simp only [ValWp, execOp, Act.eval, e72, e76]
        go_simp
        all_goals exact hK'
      · -- 30: slot 78 := Op.pick t64 (const (Value.bool true)) t77
        refine fun a w hC hs => .inl ⟨?_, ?_⟩
        · rfl
        have e64 : a.tmps.getD 64 undef = .bool false := hs.dep 16 _ rfl rfl
        have e77 : a.tmps.getD 77 undef = .bool true := hs.dep 29 _ rfl rfl
        refine ValWp.pure (v := .bool true) (fun K' hK' => ?_) ⟨rfl, hC, Later.refl _⟩
        simp only [ValWp, execOp, Act.eval, e64, e77]
        go_simp
        all_goals exact hK'
      · -- 31: slot 2 := Op.assign t78
        refine fun a w hC hs => .inl ⟨?_, ?_⟩
        · rfl
        have e78 : a.tmps.getD 78 undef = .bool true := hs.dep 30 _ rfl rfl
        exact ⟨e78, hC, Later.refl _⟩
    · intro a X hC hd hs hf hr
      have e2 : a.tmps.getD 2 undef = .bool true := hr 31 _ rfl
      have hd' : a.defers = [] := hd
      clear hd hs hf hr
      go_wp2
      refine bodyPost_ret (results_tmp rfl _ _ _) hd' ?_
      exact ⟨by rw [e2], Later.trans HB4.out hC⟩
set_option maxRecDepth 100000 in
set_option maxHeartbeats 1000000 in
theorem walk00 (w : World) (hN : Names w) (A : Option Addr) (n0 cap : Nat) (bs : List UInt8) (hr : Rd w w.heap.size A n0 (bs.map bv)) (hn : n0 ≤ 140737488351232) (h3 : n0 ≤ 3000) (k : Nat) (n m : Int) (t : List UInt8) (l : List (List UInt8)) (kk ee : Nat) (nn mm : Int) (tt : List UInt8) (ll : List (List UInt8)) (ss : Nat) (f : Nat) (hf : f ≠ 0) (g : Nat) (hg : g ≠ 0) (ha : askedM bs = ((k, n, m, t, l), f)) (hto : toldM bs = ((kk, ee, nn, mm, tt, ll, ss), g)) :
    Calls Tryd.prog 6 #[.slice A n0 cap] w fun r w' => r = .returned (.bool true) ∧ Below w.heap.size w w' := by
  obtain ⟨rfl, rfl, rfl, rfl, rfl⟩ : k = 0 ∧ n = 0 ∧ m = 0 ∧ t = [] ∧ l = [] := by
    have h := asked_err (bs := bs) (by rw [ha]; exact hf)
    rw [ha] at h
    simpa [noAsked] using h
  have hfn : ((f : Int) == 0) = false := by simp; omega
  have hfm : ((f : Int) != 0) = true := by simp; omega
  obtain ⟨rfl, rfl, rfl, rfl, rfl, rfl, rfl⟩ : kk = 0 ∧ ee = 0 ∧ nn = 0 ∧ mm = 0 ∧ tt = [] ∧ ll = [] ∧ ss = 0 := by
    have h := told_err (bs := bs) (by rw [hto]; exact hg)
    rw [hto] at h
    simpa [noTold] using h
  have hgn : ((g : Int) == 0) = false := by simp; omega
  have hgm : ((g : Int) != 0) = true := by simp; omega
  have HN := Lib.hid hN
  have HR := Lib.hid hr
  have hbl := Lib.hid hr.len
  have HA := Lib.hid ha
  have HT := Lib.hid hto
  have h3000 : ¬ 3000 < n0 := by omega
  have hb3 := Lib.hid (show bs.length ≤ 3000 by have := hbl.out; omega)
  clear hN hr ha hto hg hf
  go_enter Tryd.func6, Tryd.ntmps6
  go_wp2_with (first
    | (go_at_call 8; (with_reducible refine (evAwake_v _ HN.out).mono ?_); rintro r w1 ⟨rfl, hb1⟩; have HB1 := Lib.hid hb1; have R1 := Lib.hid (rd_later HR.out hb1); clear hb1)
    | (go_at_call 22; (with_reducible refine (askedK HA.out A n0 cap w1 R1.out hn).mono ?_); rintro r w2 ⟨A2, c2, rfl, hr2, hc2, hl2, _⟩; have RQ := Lib.hid hr2; have HB2 := Lib.hid (Later.trans HB1.out (Later.trans hl2 (Later.alloc w2 (.cells (qC 0 0 0 [] A2 0 c2) 24)))); have R2 := Lib.hid (rd_later HR.out HB2.out); clear hr2 hl2)
    | (go_at_call 24; (with_reducible refine (toldK HT.out A n0 cap _ R2.out hn).mono ?_); rintro r w3 ⟨A3, c3, rfl, hr3, hc3, hl3, _⟩; have RA := Lib.hid hr3; have L3 := Lib.hid hl3; clear hr3 hl3))
  have L3' := Lib.hid (Later.trans L3.out (Later.alloc w3 (.cells (aC 0 0 0 0 [] A3 0 c3 0) 26)))
  have HB3 := Lib.hid (Later.trans HB2.out L3'.out)
  obtain ⟨wz, hwz⟩ : ∃ wz, wz = w3.alloc (.cells (aC 0 0 0 0 [] A3 0 c3 0) 26) := ⟨_, rfl⟩
  have hk8 : ∀ W, Later wz W → Hid (Later wz W) ∧ W.cell? ⟨w2.heap.size, 0, none⟩ = some (.int .i64 0) ∧ W.cell? ⟨w2.heap.size, 1, none⟩ = some (.int .i64 0) ∧ W.cell? ⟨w2.heap.size, 2, none⟩ = some (.int .i64 0) ∧ W.cell? ⟨w2.heap.size, 3, none⟩ = some (.string (mkS [])) ∧ W.cell? ⟨w2.heap.size, 4, none⟩ = some (.slice A2 0 c2) ∧ (convert 33 9 (.slice A n0 cap)).run Tryd.prog W = .ok (.string (mkS bs)) W := fun W hW => by
    obtain ⟨h0, h1, h2, h3, h4⟩ := qcellsK w2 0 0 0 [] A2 0 c2 (Later.trans L3'.out (by rw [← hwz]; exact hW))
    exact ⟨hW, h0, h1, h2, h3, h4, run_str_of (rd_later HR.out (Later.trans HB3.out (by rw [← hwz]; exact hW))) 33 9 5 Tryd.underlying33 Tryd.underlying5 Tryd.underlying9 cap⟩
  have hk10 : ∀ W, Later wz W → Hid (Later wz W) ∧ W.cell? ⟨w3.heap.size, 0, none⟩ = some (.int .i64 0) ∧ W.cell? ⟨w3.heap.size, 1, none⟩ = some (.int .i64 0) ∧ W.cell? ⟨w3.heap.size, 2, none⟩ = some (.int .i64 0) ∧ W.cell? ⟨w3.heap.size, 3, none⟩ = some (.int .i64 0) ∧ W.cell? ⟨w3.heap.size, 4, none⟩ = some (.string (mkS [])) ∧ W.cell? ⟨w3.heap.size, 5, none⟩ = some (.slice A3 0 c3) ∧ W.cell? ⟨w3.heap.size, 6, none⟩ = some (.int .i64 0) ∧ (convert 33 9 (.slice A n0 cap)).run Tryd.prog W = .ok (.string (mkS bs)) W := fun W hW => by
    obtain ⟨h0, h1, h2, h3, h4, h5, h6⟩ := acellsK w3 0 0 0 0 [] A3 0 c3 0 (W := W) (by rw [← hwz]; exact hW)
    exact ⟨hW, h0, h1, h2, h3, h4, h5, h6, run_str_of (rd_later HR.out (Later.trans HB3.out (by rw [← hwz]; exact hW))) 33 9 5 Tryd.underlying33 Tryd.underlying5 Tryd.underlying9 cap⟩
  have HK8 := Lib.hid hk8
  have HK10 := Lib.hid hk10
  have RQ3 := Lib.hid (show Rd wz wz.heap.size A2 0 [] by rw [hwz]; exact rd_later RQ.out (Later.trans (Later.alloc w2 _) L3'.out))
  have RA3 := Lib.hid (show Rd wz wz.heap.size A3 0 [] by rw [hwz]; exact rd_later RA.out (Later.alloc w3 _))
  have HB4 := Lib.hid (show Later w wz by rw [hwz]; exact HB3.out)
  have LZ := Lib.hid (Later.refl wz)
  rw [← hwz]
  have HWZ := Lib.hid hwz
  clear hk8 hk10 hwz
  refine wp_region_owes (by kernel_rfl) (fun W => Later wz W) (Later) (Later.refl) [Sp.val (.int .i64 (f : Int)), Sp.val (.bool false), Sp.val (.bool false), Sp.val (undef), Sp.val (undef), Sp.val (undef), Sp.val (undef), Sp.val (undef), Sp.val (undef), Sp.val (undef), Sp.val (undef), Sp.val (undef), Sp.val (undef), Sp.val (undef), Sp.val (.bool false), Sp.val (.bool false), Sp.val (.int .i64 (f : Int)), Sp.val (.bool true), Sp.val (.bool true), Sp.val (.pointer (some ⟨w2.heap.size, 0, none⟩)), Sp.val (.int .i64 0), Sp.val (.bool false), Sp.val (.bool false), Sp.val (.bool false)] (by kernel_rfl) (Later.drew wz) ?_ ?_
  · refine ⟨?_, ?_, ?_, ?_, ?_, ?_, ?_, ?_, ?_, ?_, ?_, ?_, ?_, ?_, ?_, ?_, ?_, ?_, ?_, ?_, ?_, ?_, ?_, ?_, trivial⟩
    · -- 0: slot 24 := Op.move t5
      refine fun a w hC hs => .inl ⟨?_, ?_⟩
      · rfl
      have e5 : a.tmps.getD 5 undef = .int .i64 (f : Int) := hs.free 5 rfl
      exact ⟨e5, hC, Later.refl _⟩
    · -- 1: slot 25 := Op.binOp BinOp.eql 39 t24 (const (0:i64)) 39
      refine fun a w hC hs => .inl ⟨?_, ?_⟩
      · rfl
      have e24 : a.tmps.getD 24 undef = .int .i64 (f : Int) := hs.dep 0 _ rfl rfl
      refine ValWp.pure (v := .bool false) (fun K' hK' => ?_) ⟨rfl, hC, Later.refl _⟩
      simp only [ValWp, execOp, Act.eval, e24]
      go_simp
      all_goals exact hK'
    · -- 2: slot 26 := Op.move t25
      refine fun a w hC hs => .inl ⟨?_, ?_⟩
      · rfl
      have e25 : a.tmps.getD 25 undef = .bool false := hs.dep 1 _ rfl rfl
      exact ⟨e25, hC, Later.refl _⟩
    · -- 3: slot 27 := Op.load 24 t4 guarded (2, 'true')
      exact fun a w hC hs => .inr ⟨(by unfold Region.wanted; dsimp only; rw [yielded_bool (d := 26) rfl (hs.dep 2 _ rfl rfl)]; rfl), rfl⟩
    · -- 4: slot 28 := Op.call { value (Operand.func 18), args := #[t27], argTypes := #[24] } guarded (2, 'true')
      exact fun a w hC hs => .inr ⟨(by unfold Region.wanted; dsimp only; rw [yielded_bool (d := 26) rfl (hs.dep 2 _ rfl rfl)]; rfl), rfl⟩
    · -- 5: slot 29 := Op.convert 33 9 t28 guarded (2, 'true')
      exact fun a w hC hs => .inr ⟨(by unfold Region.wanted; dsimp only; rw [yielded_bool (d := 26) rfl (hs.dep 2 _ rfl rfl)]; rfl), rfl⟩
    · -- 6: slot 30 := Op.move t0 guarded (2, 'true')
      exact fun a w hC hs => .inr ⟨(by unfold Region.wanted; dsimp only; rw [yielded_bool (d := 26) rfl (hs.dep 2 _ rfl rfl)]; rfl), rfl⟩
    · -- 7: slot 31 := Op.convert 33 9 t30 guarded (2, 'true')
      exact fun a w hC hs => .inr ⟨(by unfold Region.wanted; dsimp only; rw [yielded_bool (d := 26) rfl (hs.dep 2 _ rfl rfl)]; rfl), rfl⟩
    · -- 8: slot 32 := Op.binOp BinOp.neq 9 t29 t31 9 guarded (2, 'true')
      exact fun a w hC hs => .inr ⟨(by unfold Region.wanted; dsimp only; rw [yielded_bool (d := 26) rfl (hs.dep 2 _ rfl rfl)]; rfl), rfl⟩
    · -- 9: slot 33 := Op.move t32 guarded (2, 'true')
      exact fun a w hC hs => .inr ⟨(by unfold Region.wanted; dsimp only; rw [yielded_bool (d := 26) rfl (hs.dep 2 _ rfl rfl)]; rfl), rfl⟩
    · -- 10: slot 34 := Op.load 24 t4 guarded (9, 'false')
      exact fun a w hC hs => .inr ⟨(by unfold Region.wanted; dsimp only; rw [yielded_undef (d := 33) rfl (hs.dep 9 _ rfl rfl)]; rfl), rfl⟩
    · -- 11: slot 35 := Op.call { value (Operand.func 12), args := #[t34], argTypes := #[24] } guarded (9, 'false')
      exact fun a w hC hs => .inr ⟨(by unfold Region.wanted; dsimp only; rw [yielded_undef (d := 33) rfl (hs.dep 9 _ rfl rfl)]; rfl), rfl⟩
    · -- 12: slot 36 := Op.unOp UnOp.not 4 t35 guarded (9, 'false')
      exact fun a w hC hs => .inr ⟨(by unfold Region.wanted; dsimp only; rw [yielded_undef (d := 33) rfl (hs.dep 9 _ rfl rfl)]; rfl), rfl⟩
    · -- 13: slot 37 := Op.pick t33 (const (Value.bool true)) t36 guarded (2, 'true')
      exact fun a w hC hs => .inr ⟨(by unfold Region.wanted; dsimp only; rw [yielded_bool (d := 26) rfl (hs.dep 2 _ rfl rfl)]; rfl), rfl⟩
    · -- 14: slot 38 := Op.pick t26 t37 (const (Value.bool false))
      refine fun a w hC hs => .inl ⟨?_, ?_⟩
      · rfl
      have e26 : a.tmps.getD 26 undef = .bool false := hs.dep 2 _ rfl rfl
      have e37 : a.tmps.getD 37 undef = undef := hs.dep 13 _ rfl rfl
      refine ValWp.pure (v := .bool false) (fun K' hK' => ?_) ⟨rfl, hC, Later.refl _⟩
      simp only [ValWp, execOp, Act.eval, e26, e37]
      go_simp
      all_goals exact hK'
    · -- 15: slot 39 := Op.move t38
      refine fun a w hC hs => .inl ⟨?_, ?_⟩
      · rfl
      have e38 : a.tmps.getD 38 undef = .bool false := hs.dep 14 _ rfl rfl
      exact ⟨e38, hC, Later.refl _⟩
    · -- 16: slot 40 := Op.move t5 guarded (15, 'false')
      refine fun a w hC hs => .inl ⟨?_, ?_⟩
      · exact (by unfold Region.wanted; dsimp only; rw [yielded_bool (d := 39) rfl (hs.dep 15 _ rfl rfl)]; rfl)
      have e5 : a.tmps.getD 5 undef = .int .i64 (f : Int) := hs.free 5 rfl
      exact ⟨e5, hC, Later.refl _⟩
    · -- 17: slot 41 := Op.binOp BinOp.neq 39 t40 (const (0:i64)) 39 guarded (15, 'false')
      refine fun a w hC hs => .inl ⟨?_, ?_⟩
      · exact (by unfold Region.wanted; dsimp only; rw [yielded_bool (d := 39) rfl (hs.dep 15 _ rfl rfl)]; rfl)
      have e40 : a.tmps.getD 40 undef = .int .i64 (f : Int) := hs.dep 16 _ rfl rfl
      refine ValWp.pure (v := .bool true) (fun K' hK' => ?_) ⟨rfl, hC, Later.refl _⟩
      simp only [ValWp, execOp, Act.eval, e40]
      go_simp
      all_goals exact hK'
    · -- 18: slot 42 := Op.move t41 guarded (15, 'false')
      refine fun a w hC hs => .inl ⟨?_, ?_⟩
      · exact (by unfold Region.wanted; dsimp only; rw [yielded_bool (d := 39) rfl (hs.dep 15 _ rfl rfl)]; rfl)
      have e41 : a.tmps.getD 41 undef = .bool true := hs.dep 17 _ rfl rfl
      exact ⟨e41, hC, Later.refl _⟩
    · -- 19: slot 43 := Op.fieldAddr 24 t4 0 guarded (18, 'true')
      refine fun a w hC hs => .inl ⟨?_, ?_⟩
      · exact (by unfold Region.wanted; dsimp only; rw [yielded_bool (d := 42) rfl (hs.dep 18 _ rfl rfl)]; rfl)
      have e4 : a.tmps.getD 4 undef = .pointer (some ⟨w2.heap.size, 0, none⟩) := hs.free 4 rfl
      refine ValWp.pure (v := .pointer (some ⟨w2.heap.size, 0, none⟩)) (fun K' hK' => ?_) ⟨rfl, hC, Later.refl _⟩
      simp only [ValWp, execOp, Act.eval, e4]
      go_simp
      all_goals exact hK'
    · -- 20: slot 44 := Op.load 3 t43 guarded (18, 'true')
      refine fun a w hC hs => .inl ⟨?_, ?_⟩
      · exact (by unfold Region.wanted; dsimp only; rw [yielded_bool (d := 42) rfl (hs.dep 18 _ rfl rfl)]; rfl)
      have e43 : a.tmps.getD 43 undef = .pointer (some ⟨w2.heap.size, 0, none⟩) := hs.dep 19 _ rfl rfl
      obtain ⟨_, q0, q1, q2, q3, q4, hcv⟩ := HK8.out w hC
      refine ValWp.pure (v := .int .i64 0) (fun K' hK' => ?_) ⟨rfl, hC, Later.refl _⟩
      simp only [ValWp, execOp, Act.eval, e43]
      go_simp
      all_goals exact hK'
    · -- 21: slot 45 := Op.binOp BinOp.neq 3 t44 (const (0:i64)) 3 guarded (18, 'true')
      refine fun a w hC hs => .inl ⟨?_, ?_⟩
      · exact (by unfold Region.wanted; dsimp only; rw [yielded_bool (d := 42) rfl (hs.dep 18 _ rfl rfl)]; rfl)
      have e44 : a.tmps.getD 44 undef = .int .i64 0 := hs.dep 20 _ rfl rfl
      refine ValWp.pure (v := .bool false) (fun K' hK' => ?_) ⟨rfl, hC, Later.refl _⟩
      simp only [ValWp, execOp, Act.eval, e44]
      go_simp
      all_goals exact hK'
    · -- 22: slot 46 := Op.pick t42 t45 (const (Value.bool false)) guarded (15, 'false')
      refine fun a w hC hs => .inl ⟨?_, ?_⟩
      · exact (by unfold Region.wanted; dsimp only; rw [yielded_bool (d := 39) rfl (hs.dep 15 _ rfl rfl)]; rfl)
      have e42 : a.tmps.getD 42 undef = .bool true := hs.dep 18 _ rfl rfl
      have e45 : a.tmps.getD 45 undef = .bool false := hs.dep 21 _ rfl rfl
      refine ValWp.pure (v := .bool false) (fun K' hK' => ?_) ⟨rfl, hC, Later.refl _⟩
      simp only [ValWp, execOp, Act.eval, e42, e45]
      go_simp
      all_goals exact hK'
    · -- 23: slot 47 := Op.pick t39 (const (Value.bool true)) t46
      refine fun a w hC hs => .inl ⟨?_, ?_⟩
      · rfl
      have e39 : a.tmps.getD 39 undef = .bool false := hs.dep 15 _ rfl rfl
      have e46 : a.tmps.getD 46 undef = .bool false := hs.dep 22 _ rfl rfl
      refine ValWp.pure (v := .bool false) (fun K' hK' => ?_) ⟨rfl, hC, Later.refl _⟩
      simp only [ValWp, execOp, Act.eval, e39, e46]
      go_simp
      all_goals exact hK'
  · intro a W hC hd hsz hfree hs
    obtain ⟨u1, hu1⟩ : ∃ u, u = a.tmps.getD 1 undef := ⟨_, rfl⟩
    obtain ⟨u2, hu2⟩ : ∃ u, u = a.tmps.getD 2 undef := ⟨_, rfl⟩
    obtain ⟨u3, hu3⟩ : ∃ u, u = a.tmps.getD 3 undef := ⟨_, rfl⟩
    obtain ⟨u4, hu4⟩ : ∃ u, u = a.tmps.getD 4 undef := ⟨_, rfl⟩
    obtain ⟨u5, hu5⟩ : ∃ u, u = a.tmps.getD 5 undef := ⟨_, rfl⟩
    obtain ⟨u8, hu8⟩ : ∃ u, u = a.tmps.getD 8 undef := ⟨_, rfl⟩
    obtain ⟨u9, hu9⟩ : ∃ u, u = a.tmps.getD 9 undef := ⟨_, rfl⟩
    obtain ⟨u10, hu10⟩ : ∃ u, u = a.tmps.getD 10 undef := ⟨_, rfl⟩
    obtain ⟨u11, hu11⟩ : ∃ u, u = a.tmps.getD 11 undef := ⟨_, rfl⟩
    obtain ⟨u12, hu12⟩ : ∃ u, u = a.tmps.getD 12 undef := ⟨_, rfl⟩
    obtain ⟨u13, hu13⟩ : ∃ u, u = a.tmps.getD 13 undef := ⟨_, rfl⟩
    obtain ⟨u14, hu14⟩ : ∃ u, u = a.tmps.getD 14 undef := ⟨_, rfl⟩
    obtain ⟨u15, hu15⟩ : ∃ u, u = a.tmps.getD 15 undef := ⟨_, rfl⟩
    obtain ⟨u16, hu16⟩ : ∃ u, u = a.tmps.getD 16 undef := ⟨_, rfl⟩
    obtain ⟨u17, hu17⟩ : ∃ u, u = a.tmps.getD 17 undef := ⟨_, rfl⟩
    obtain ⟨u18, hu18⟩ : ∃ u, u = a.tmps.getD 18 undef := ⟨_, rfl⟩
    obtain ⟨u19, hu19⟩ : ∃ u, u = a.tmps.getD 19 undef := ⟨_, rfl⟩
    obtain ⟨u20, hu20⟩ : ∃ u, u = a.tmps.getD 20 undef := ⟨_, rfl⟩
    obtain ⟨u21, hu21⟩ : ∃ u, u = a.tmps.getD 21 undef := ⟨_, rfl⟩
    obtain ⟨u22, hu22⟩ : ∃ u, u = a.tmps.getD 22 undef := ⟨_, rfl⟩
    obtain ⟨u23, hu23⟩ : ∃ u, u = a.tmps.getD 23 undef := ⟨_, rfl⟩
    obtain ⟨u24, hu24⟩ : ∃ u, u = a.tmps.getD 24 undef := ⟨_, rfl⟩
    obtain ⟨u25, hu25⟩ : ∃ u, u = a.tmps.getD 25 undef := ⟨_, rfl⟩
    obtain ⟨u26, hu26⟩ : ∃ u, u = a.tmps.getD 26 undef := ⟨_, rfl⟩
    obtain ⟨u27, hu27⟩ : ∃ u, u = a.tmps.getD 27 undef := ⟨_, rfl⟩
    obtain ⟨u28, hu28⟩ : ∃ u, u = a.tmps.getD 28 undef := ⟨_, rfl⟩
    obtain ⟨u29, hu29⟩ : ∃ u, u = a.tmps.getD 29 undef := ⟨_, rfl⟩
    obtain ⟨u30, hu30⟩ : ∃ u, u = a.tmps.getD 30 undef := ⟨_, rfl⟩
    obtain ⟨u31, hu31⟩ : ∃ u, u = a.tmps.getD 31 undef := ⟨_, rfl⟩
    obtain ⟨u32, hu32⟩ : ∃ u, u = a.tmps.getD 32 undef := ⟨_, rfl⟩
    obtain ⟨u33, hu33⟩ : ∃ u, u = a.tmps.getD 33 undef := ⟨_, rfl⟩
    obtain ⟨u34, hu34⟩ : ∃ u, u = a.tmps.getD 34 undef := ⟨_, rfl⟩
    obtain ⟨u35, hu35⟩ : ∃ u, u = a.tmps.getD 35 undef := ⟨_, rfl⟩
    obtain ⟨u36, hu36⟩ : ∃ u, u = a.tmps.getD 36 undef := ⟨_, rfl⟩
    obtain ⟨u37, hu37⟩ : ∃ u, u = a.tmps.getD 37 undef := ⟨_, rfl⟩
    obtain ⟨u38, hu38⟩ : ∃ u, u = a.tmps.getD 38 undef := ⟨_, rfl⟩
    obtain ⟨u39, hu39⟩ : ∃ u, u = a.tmps.getD 39 undef := ⟨_, rfl⟩
    obtain ⟨u40, hu40⟩ : ∃ u, u = a.tmps.getD 40 undef := ⟨_, rfl⟩
    obtain ⟨u41, hu41⟩ : ∃ u, u = a.tmps.getD 41 undef := ⟨_, rfl⟩
    obtain ⟨u42, hu42⟩ : ∃ u, u = a.tmps.getD 42 undef := ⟨_, rfl⟩
    obtain ⟨u43, hu43⟩ : ∃ u, u = a.tmps.getD 43 undef := ⟨_, rfl⟩
    obtain ⟨u44, hu44⟩ : ∃ u, u = a.tmps.getD 44 undef := ⟨_, rfl⟩
    obtain ⟨u45, hu45⟩ : ∃ u, u = a.tmps.getD 45 undef := ⟨_, rfl⟩
    obtain ⟨u46, hu46⟩ : ∃ u, u = a.tmps.getD 46 undef := ⟨_, rfl⟩
    obtain ⟨u48, hu48⟩ : ∃ u, u = a.tmps.getD 48 undef := ⟨_, rfl⟩
    obtain ⟨u49, hu49⟩ : ∃ u, u = a.tmps.getD 49 undef := ⟨_, rfl⟩
    obtain ⟨u50, hu50⟩ : ∃ u, u = a.tmps.getD 50 undef := ⟨_, rfl⟩
    obtain ⟨u51, hu51⟩ : ∃ u, u = a.tmps.getD 51 undef := ⟨_, rfl⟩
    obtain ⟨u52, hu52⟩ : ∃ u, u = a.tmps.getD 52 undef := ⟨_, rfl⟩
    obtain ⟨u53, hu53⟩ : ∃ u, u = a.tmps.getD 53 undef := ⟨_, rfl⟩
    obtain ⟨u54, hu54⟩ : ∃ u, u = a.tmps.getD 54 undef := ⟨_, rfl⟩
    obtain ⟨u55, hu55⟩ : ∃ u, u = a.tmps.getD 55 undef := ⟨_, rfl⟩
    obtain ⟨u56, hu56⟩ : ∃ u, u = a.tmps.getD 56 undef := ⟨_, rfl⟩
    obtain ⟨u57, hu57⟩ : ∃ u, u = a.tmps.getD 57 undef := ⟨_, rfl⟩
    obtain ⟨u58, hu58⟩ : ∃ u, u = a.tmps.getD 58 undef := ⟨_, rfl⟩
    obtain ⟨u59, hu59⟩ : ∃ u, u = a.tmps.getD 59 undef := ⟨_, rfl⟩
    obtain ⟨u60, hu60⟩ : ∃ u, u = a.tmps.getD 60 undef := ⟨_, rfl⟩
    obtain ⟨u61, hu61⟩ : ∃ u, u = a.tmps.getD 61 undef := ⟨_, rfl⟩
    obtain ⟨u62, hu62⟩ : ∃ u, u = a.tmps.getD 62 undef := ⟨_, rfl⟩
    obtain ⟨u63, hu63⟩ : ∃ u, u = a.tmps.getD 63 undef := ⟨_, rfl⟩
    obtain ⟨u64, hu64⟩ : ∃ u, u = a.tmps.getD 64 undef := ⟨_, rfl⟩
    obtain ⟨u65, hu65⟩ : ∃ u, u = a.tmps.getD 65 undef := ⟨_, rfl⟩
    obtain ⟨u66, hu66⟩ : ∃ u, u = a.tmps.getD 66 undef := ⟨_, rfl⟩
    obtain ⟨u67, hu67⟩ : ∃ u, u = a.tmps.getD 67 undef := ⟨_, rfl⟩
    obtain ⟨u68, hu68⟩ : ∃ u, u = a.tmps.getD 68 undef := ⟨_, rfl⟩
    obtain ⟨u69, hu69⟩ : ∃ u, u = a.tmps.getD 69 undef := ⟨_, rfl⟩
    obtain ⟨u70, hu70⟩ : ∃ u, u = a.tmps.getD 70 undef := ⟨_, rfl⟩
    obtain ⟨u71, hu71⟩ : ∃ u, u = a.tmps.getD 71 undef := ⟨_, rfl⟩
    obtain ⟨u72, hu72⟩ : ∃ u, u = a.tmps.getD 72 undef := ⟨_, rfl⟩
    obtain ⟨u73, hu73⟩ : ∃ u, u = a.tmps.getD 73 undef := ⟨_, rfl⟩
    obtain ⟨u74, hu74⟩ : ∃ u, u = a.tmps.getD 74 undef := ⟨_, rfl⟩
    obtain ⟨u75, hu75⟩ : ∃ u, u = a.tmps.getD 75 undef := ⟨_, rfl⟩
    obtain ⟨u76, hu76⟩ : ∃ u, u = a.tmps.getD 76 undef := ⟨_, rfl⟩
    obtain ⟨u77, hu77⟩ : ∃ u, u = a.tmps.getD 77 undef := ⟨_, rfl⟩
    obtain ⟨u78, hu78⟩ : ∃ u, u = a.tmps.getD 78 undef := ⟨_, rfl⟩
    have hal : AllAt a 0 [.slice A n0 cap, u1, u2, u3, u4, u5, .pointer (some ⟨w3.heap.size, 0, none⟩), .int .i64 (g : Int), u8, u9, u10, u11, u12, u13, u14, u15, u16, u17, u18, u19, u20, u21, u22, u23, u24, u25, u26, u27, u28, u29, u30, u31, u32, u33, u34, u35, u36, u37, u38, u39, u40, u41, u42, u43, u44, u45, u46, .bool false, u48, u49, u50, u51, u52, u53, u54, u55, u56, u57, u58, u59, u60, u61, u62, u63, u64, u65, u66, u67, u68, u69, u70, u71, u72, u73, u74, u75, u76, u77, u78] := ⟨hfree 0 rfl, hu1.symm, hu2.symm, hu3.symm, hu4.symm, hu5.symm, hfree 6 rfl, hfree 7 rfl, hu8.symm, hu9.symm, hu10.symm, hu11.symm, hu12.symm, hu13.symm, hu14.symm, hu15.symm, hu16.symm, hu17.symm, hu18.symm, hu19.symm, hu20.symm, hu21.symm, hu22.symm, hu23.symm, hu24.symm, hu25.symm, hu26.symm, hu27.symm, hu28.symm, hu29.symm, hu30.symm, hu31.symm, hu32.symm, hu33.symm, hu34.symm, hu35.symm, hu36.symm, hu37.symm, hu38.symm, hu39.symm, hu40.symm, hu41.symm, hu42.symm, hu43.symm, hu44.symm, hu45.symm, hu46.symm, hs 23 _ rfl, hu48.symm, hu49.symm, hu50.symm, hu51.symm, hu52.symm, hu53.symm, hu54.symm, hu55.symm, hu56.symm, hu57.symm, hu58.symm, hu59.symm, hu60.symm, hu61.symm, hu62.symm, hu63.symm, hu64.symm, hu65.symm, hu66.symm, hu67.symm, hu68.symm, hu69.symm, hu70.symm, hu71.symm, hu72.symm, hu73.symm, hu74.symm, hu75.symm, hu76.symm, hu77.symm, hu78.symm, trivial⟩
    have hlit := fun h => act_lit hd h hal
    rw [hlit hsz]
    clear hlit hal hd hsz hfree hs hu1 hu2 hu3 hu4 hu5 hu8 hu9 hu10 hu11 hu12 hu13 hu14 hu15 hu16 hu17 hu18 hu19 hu20 hu21 hu22 hu23 hu24 hu25 hu26 hu27 hu28 hu29 hu30 hu31 hu32 hu33 hu34 hu35 hu36 hu37 hu38 hu39 hu40 hu41 hu42 hu43 hu44 hu45 hu46 hu48 hu49 hu50 hu51 hu52 hu53 hu54 hu55 hu56 hu57 hu58 hu59 hu60 hu61 hu62 hu63 hu64 hu65 hu66 hu67 hu68 hu69 hu70 hu71 hu72 hu73 hu74 hu75 hu76 hu77 hu78
    have LW := Lib.hid (show Later wz W from hC)
    clear hC
    go_wp2
    refine wp_region_owes (by kernel_rfl) (fun X => Later wz X) (Later) (Later.refl) [Sp.val (.int .i64 (g : Int)), Sp.val (.bool false), Sp.val (.bool false), Sp.val (undef), Sp.val (undef), Sp.val (undef), Sp.val (undef), Sp.val (undef), Sp.val (undef), Sp.val (.bool false), Sp.val (.bool false), Sp.val (undef), Sp.val (undef), Sp.val (undef), Sp.val (undef), Sp.val (.bool false), Sp.val (.bool false), Sp.val (.int .i64 (g : Int)), Sp.val (.bool true), Sp.val (.bool true), Sp.val (.pointer (some ⟨w3.heap.size, 0, none⟩)), Sp.val (.int .i64 0), Sp.val (.bool true), Sp.val (.bool true), Sp.val (.bool true), Sp.val (.pointer (some ⟨w3.heap.size, 5, none⟩)), Sp.val (.slice A3 0 c3), Sp.val (.int .i64 0), Sp.val (.bool true), Sp.val (.bool true), Sp.val (.bool true), Sp.val (.bool true)] (by kernel_rfl) (Later.trans LW.out (Later.drew _)) ?_ ?_
    · refine ⟨?_, ?_, ?_, ?_, ?_, ?_, ?_, ?_, ?_, ?_, ?_, ?_, ?_, ?_, ?_, ?_, ?_, ?_, ?_, ?_, ?_, ?_, ?_, ?_, ?_, ?_, ?_, ?_, ?_, ?_, ?_, ?_, trivial⟩
      · -- 0: slot 48 := Op.move t7
        refine fun a w hC hs => .inl ⟨?_, ?_⟩
        · rfl
        have e7 : a.tmps.getD 7 undef = .int .i64 (g : Int) := hs.free 7 rfl
        exact ⟨e7, hC, Later.refl _⟩
      · -- 1: slot 49 := Op.binOp BinOp.eql 39 t48 (const (0:i64)) 39
        refine fun a w hC hs => .inl ⟨?_, ?_⟩
        · rfl
        have e48 : a.tmps.getD 48 undef = .int .i64 (g : Int) := hs.dep 0 _ rfl rfl
        refine ValWp.pure (v := .bool false) (fun K' hK' => ?_) ⟨rfl, hC, Later.refl _⟩
        simp only [ValWp, execOp, Act.eval, e48]
        go_simp
        all_goals exact hK'
      · -- 2: slot 50 := Op.move t49
        refine fun a w hC hs => .inl ⟨?_, ?_⟩
        · rfl
        have e49 : a.tmps.getD 49 undef = .bool false := hs.dep 1 _ rfl rfl
        exact ⟨e49, hC, Later.refl _⟩
      · -- 3: slot 51 := Op.load 26 t6 guarded (2, 'true')
        exact fun a w hC hs => .inr ⟨(by unfold Region.wanted; dsimp only; rw [yielded_bool (d := 50) rfl (hs.dep 2 _ rfl rfl)]; rfl), rfl⟩
      · -- 4: slot 52 := Op.call { value (Operand.func 20), args := #[t51], argTypes := #[26] } guarded (2, 'true')
        exact fun a w hC hs => .inr ⟨(by unfold Region.wanted; dsimp only; rw [yielded_bool (d := 50) rfl (hs.dep 2 _ rfl rfl)]; rfl), rfl⟩
      · -- 5: slot 53 := Op.convert 33 9 t52 guarded (2, 'true')
        exact fun a w hC hs => .inr ⟨(by unfold Region.wanted; dsimp only; rw [yielded_bool (d := 50) rfl (hs.dep 2 _ rfl rfl)]; rfl), rfl⟩
      · -- 6: slot 54 := Op.move t0 guarded (2, 'true')
        exact fun a w hC hs => .inr ⟨(by unfold Region.wanted; dsimp only; rw [yielded_bool (d := 50) rfl (hs.dep 2 _ rfl rfl)]; rfl), rfl⟩
      · -- 7: slot 55 := Op.convert 33 9 t54 guarded (2, 'true')
        exact fun a w hC hs => .inr ⟨(by unfold Region.wanted; dsimp only; rw [yielded_bool (d := 50) rfl (hs.dep 2 _ rfl rfl)]; rfl), rfl⟩
      · -- 8: slot 56 := Op.binOp BinOp.eql 9 t53 t55 9 guarded (2, 'true')
        exact fun a w hC hs => .inr ⟨(by unfold Region.wanted; dsimp only; rw [yielded_bool (d := 50) rfl (hs.dep 2 _ rfl rfl)]; rfl), rfl⟩
      · -- 9: slot 57 := Op.pick t50 t56 (const (Value.bool false))
        refine fun a w hC hs => .inl ⟨?_, ?_⟩
        · rfl
        have e50 : a.tmps.getD 50 undef = .bool false := hs.dep 2 _ rfl rfl
        have e56 : a.tmps.getD 56 undef = undef := hs.dep 8 _ rfl rfl
        refine ValWp.pure (v := .bool false) (fun K' hK' => ?_) ⟨rfl, hC, Later.refl _⟩
        simp only [ValWp, execOp, Act.eval, e50, e56]
        go_simp
        all_goals exact hK'
      · -- 10: slot 58 := Op.move t57
        refine fun a w hC hs => .inl ⟨?_, ?_⟩
        · rfl
        have e57 : a.tmps.getD 57 undef = .bool false := hs.dep 9 _ rfl rfl
        exact ⟨e57, hC, Later.refl _⟩
      · -- 11: slot 59 := Op.fieldAddr 26 t6 0 guarded (10, 'true')
        exact fun a w hC hs => .inr ⟨(by unfold Region.wanted; dsimp only; rw [yielded_bool (d := 58) rfl (hs.dep 10 _ rfl rfl)]; rfl), rfl⟩
      · -- 12: slot 60 := Op.load 3 t59 guarded (10, 'true')
        exact fun a w hC hs => .inr ⟨(by unfold Region.wanted; dsimp only; rw [yielded_bool (d := 58) rfl (hs.dep 10 _ rfl rfl)]; rfl), rfl⟩
      · -- 13: slot 61 := Op.load 26 t6 guarded (10, 'true')
        exact fun a w hC hs => .inr ⟨(by unfold Region.wanted; dsimp only; rw [yielded_bool (d := 58) rfl (hs.dep 10 _ rfl rfl)]; rfl), rfl⟩
      · -- 14: slot 62 := Op.call { value (Operand.func 14), args := #[t60, t61], argTypes := #[3, 26] } guarded (10, 'true')
        exact fun a w hC hs => .inr ⟨(by unfold Region.wanted; dsimp only; rw [yielded_bool (d := 58) rfl (hs.dep 10 _ rfl rfl)]; rfl), rfl⟩
      · -- 15: slot 63 := Op.pick t58 t62 (const (Value.bool false))
        refine fun a w hC hs => .inl ⟨?_, ?_⟩
        · rfl
        have e58 : a.tmps.getD 58 undef = .bool false := hs.dep 10 _ rfl rfl
        have e62 : a.tmps.getD 62 undef = undef := hs.dep 14 _ rfl rfl
        refine ValWp.pure (v := .bool false) (fun K' hK' => ?_) ⟨rfl, hC, Later.refl _⟩
        simp only [ValWp, execOp, Act.eval, e58, e62]
        go_simp
        all_goals exact hK'
      · -- 16: slot 64 := Op.move t63
        refine fun a w hC hs => .inl ⟨?_, ?_⟩
        · rfl
        have e63 : a.tmps.getD 63 undef = .bool false := hs.dep 15 _ rfl rfl
        exact ⟨e63, hC, Later.refl _⟩
      · -- 17: slot 65 := Op.move t7 guarded (16, 'false')
        refine fun a w hC hs => .inl ⟨?_, ?_⟩
        · exact (by unfold Region.wanted; dsimp only; rw [yielded_bool (d := 64) rfl (hs.dep 16 _ rfl rfl)]; rfl)
        have e7 : a.tmps.getD 7 undef = .int .i64 (g : Int) := hs.free 7 rfl
        exact ⟨e7, hC, Later.refl _⟩
      · -- 18: slot 66 := Op.binOp BinOp.neq 39 t65 (const (0:i64)) 39 guarded (16, 'false')
        refine fun a w hC hs => .inl ⟨?_, ?_⟩
        · exact (by unfold Region.wanted; dsimp only; rw [yielded_bool (d := 64) rfl (hs.dep 16 _ rfl rfl)]; rfl)
        have e65 : a.tmps.getD 65 undef = .int .i64 (g : Int) := hs.dep 17 _ rfl rfl
        refine ValWp.pure (v := .bool true) (fun K' hK' => ?_) ⟨rfl, hC, Later.refl _⟩
        simp only [ValWp, execOp, Act.eval, e65]
        go_simp
        all_goals exact hK'
      · -- 19: slot 67 := Op.move t66 guarded (16, 'false')
        refine fun a w hC hs => .inl ⟨?_, ?_⟩
        · exact (by unfold Region.wanted; dsimp only; rw [yielded_bool (d := 64) rfl (hs.dep 16 _ rfl rfl)]; rfl)
        have e66 : a.tmps.getD 66 undef = .bool true := hs.dep 18 _ rfl rfl
        exact ⟨e66, hC, Later.refl _⟩
      · -- 20: slot 68 := Op.fieldAddr 26 t6 0 guarded (19, 'true')
        refine fun a w hC hs => .inl ⟨?_, ?_⟩
        · exact (by unfold Region.wanted; dsimp only; rw [yielded_bool (d := 67) rfl (hs.dep 19 _ rfl rfl)]; rfl)
        have e6 : a.tmps.getD 6 undef = .pointer (some ⟨w3.heap.size, 0, none⟩) := hs.free 6 rfl
        refine ValWp.pure (v := .pointer (some ⟨w3.heap.size, 0, none⟩)) (fun K' hK' => ?_) ⟨rfl, hC, Later.refl _⟩
        simp only [ValWp, execOp, Act.eval, e6]
        go_simp
        all_goals exact hK'
      · -- 21: slot 69 := Op.load 3 t68 guarded (19, 'true')
        refine fun a w hC hs => .inl ⟨?_, ?_⟩
        · exact (by unfold Region.wanted; dsimp only; rw [yielded_bool (d := 67) rfl (hs.dep 19 _ rfl rfl)]; rfl)
        have e68 : a.tmps.getD 68 undef = .pointer (some ⟨w3.heap.size, 0, none⟩) := hs.dep 20 _ rfl rfl
        obtain ⟨_, q0, q1, q2, q3, q4, q5, q6, hcv⟩ := HK10.out w hC
        refine ValWp.pure (v := .int .i64 0) (fun K' hK' => ?_) ⟨rfl, hC, Later.refl _⟩
        simp only [ValWp, execOp, Act.eval, e68]
        go_simp
        all_goals exact hK'
      · -- 22: slot 70 := Op.binOp BinOp.eql 3 t69 (const (0:i64)) 3 guarded (19, 'true')
        refine fun a w hC hs => .inl ⟨?_, ?_⟩
        · exact (by unfold Region.wanted; dsimp only; rw [yielded_bool (d := 67) rfl (hs.dep 19 _ rfl rfl)]; rfl)
        have e69 : a.tmps.getD 69 undef = .int .i64 0 := hs.dep 21 _ rfl rfl
        refine ValWp.pure (v := .bool true) (fun K' hK' => ?_) ⟨rfl, hC, Later.refl _⟩
        simp only [ValWp, execOp, Act.eval, e69]
        go_simp
        all_goals exact hK'
      · -- 23: slot 71 := Op.pick t67 t70 (const (Value.bool false)) guarded (16, 'false')
        refine fun a w hC hs => .inl ⟨?_, ?_⟩
        · exact (by unfold Region.wanted; dsimp only; rw [yielded_bool (d := 64) rfl (hs.dep 16 _ rfl rfl)]; rfl)
        have e67 : a.tmps.getD 67 undef = .bool true := hs.dep 19 _ rfl rfl
        have e70 : a.tmps.getD 70 undef = .bool true := hs.dep 22 _ rfl rfl
        refine ValWp.pure (v := .bool true) (fun K' hK' => ?_) ⟨rfl, hC, Later.refl _⟩
        simp only [ValWp, execOp, Act.eval, e67, e70]
        go_simp
        all_goals exact hK'
      · -- 24: slot 72 := Op.move t71 guarded (16, 'false')
        refine fun a w hC hs => .inl ⟨?_, ?_⟩
        · exact (by unfold Region.wanted; dsimp only; rw [yielded_bool (d := 64) rfl (hs.dep 16 _ rfl rfl)]; rfl)
        have e71 : a.tmps.getD 71 undef = .bool true := hs.dep 23 _ rfl rfl
        exact ⟨e71, hC, Later.refl _⟩
      · -- 25: slot 73 := Op.fieldAddr 26 t6 5 guarded (24, 'true')
        refine fun a w hC hs => .inl ⟨?_, ?_⟩
        · exact (by unfold Region.wanted; dsimp only; rw [yielded_bool (d := 72) rfl (hs.dep 24 _ rfl rfl)]; rfl)
        have e6 : a.tmps.getD 6 undef = .pointer (some ⟨w3.heap.size, 0, none⟩) := hs.free 6 rfl
        refine ValWp.pure (v := .pointer (some ⟨w3.heap.size, 5, none⟩)) (fun K' hK' => ?_) ⟨rfl, hC, Later.refl _⟩
        simp only [ValWp, execOp, Act.eval, e6]
        go_simp
        all_goals exact hK'
      · -- 26: slot 74 := Op.load 22 t73 guarded (24, 'true')
        refine fun a w hC hs => .inl ⟨?_, ?_⟩
        · exact (by unfold Region.wanted; dsimp only; rw [yielded_bool (d := 72) rfl (hs.dep 24 _ rfl rfl)]; rfl)
        have e73 : a.tmps.getD 73 undef = .pointer (some ⟨w3.heap.size, 5, none⟩) := hs.dep 25 _ rfl rfl
        obtain ⟨_, q0, q1, q2, q3, q4, q5, q6, hcv⟩ := HK10.out w hC
        refine ValWp.pure (v := .slice A3 0 c3) (fun K' hK' => ?_) ⟨rfl, hC, Later.refl _⟩
        simp only [ValWp, execOp, Act.eval, e73]
        go_simp
        all_goals exact hK'
      · -- 27: slot 75 := Op.call { builtin len, args := #[t74], argTypes := #[22] } guarded (24, 'true')
        refine fun a w hC hs => .inl ⟨?_, ?_⟩
        · exact (by unfold Region.wanted; dsimp only; rw [yielded_bool (d := 72) rfl (hs.dep 24 _ rfl rfl)]; rfl)
        have e74 : a.tmps.getD 74 undef = .slice A3 0 c3 := hs.dep 26 _ rfl rfl
        refine ValWp.pure (v := .int .i64 0) (fun K' hK' => ?_) ⟨rfl, hC, Later.refl _⟩
        simp only [ValWp, execOp]
        go_simp
        all_goals exact hK'
      · -- 28: slot 76 := Op.binOp BinOp.eql 3 t75 (const (0:i64)) 3 guarded (24, 'true')
        refine fun a w hC hs => .inl ⟨?_, ?_⟩
        · exact (by unfold Region.wanted; dsimp only; rw [yielded_bool (d := 72) rfl (hs.dep 24 _ rfl rfl)]; rfl)
        have e75 : a.tmps.getD 75 undef = .int .i64 0 := hs.dep 27 _ rfl rfl
        refine ValWp.pure (v := .bool true) (fun K' hK' => ?_) ⟨rfl, hC, Later.refl _⟩
        simp only [ValWp, execOp, Act.eval, e75]
        go_simp
        all_goals exact hK'
      · -- 29: slot 77 := Op.pick t72 t76 (const (Value.bool false)) guarded (16, 'false')
        refine fun a w hC hs => .inl ⟨?_, ?_⟩
        · exact (by unfold Region.wanted; dsimp only; rw [yielded_bool (d := 64) rfl (hs.dep 16 _ rfl rfl)]; rfl)
        have e72 : a.tmps.getD 72 undef = .bool true := hs.dep 24 _ rfl rfl
        have e76 : a.tmps.getD 76 undef = .bool true := hs.dep 28 _ rfl rfl
        refine ValWp.pure (v := .bool true) (fun K' hK' => ?_) ⟨rfl, hC, Later.refl _⟩
        simp only [ValWp, execOp, Act.eval, e72, e76]
        go_simp
        all_goals exact hK'
      · -- 30: slot 78 := Op.pick t64 (const (Value.bool true)) t77
        refine fun a w hC hs => .inl ⟨?_, ?_⟩
        · rfl
        have e64 : a.tmps.getD 64 undef = .bool false := hs.dep 16 _ rfl rfl
        have e77 : a.tmps.getD 77 undef = .bool true := hs.dep 29 _ rfl rfl
        refine ValWp.pure (v := .bool true) (fun K' hK' => ?_) ⟨rfl, hC, Later.refl _⟩
        simp only [ValWp, execOp, Act.eval, e64, e77]
        go_simp
        all_goals exact hK'
      · -- 31: slot 2 := Op.assign t78
        refine fun a w hC hs => .inl ⟨?_, ?_⟩
        · rfl
        have e78 : a.tmps.getD 78 undef = .bool true := hs.dep 30 _ rfl rfl
        exact ⟨e78, hC, Later.refl _⟩
    · intro a X hC hd hs hf hr
      have e2 : a.tmps.getD 2 undef = .bool true := hr 31 _ rfl
      have hd' : a.defers = [] := hd
      clear hd hs hf hr
      go_wp2
      refine bodyPost_ret (results_tmp rfl _ _ _) hd' ?_
      exact ⟨by rw [e2], Later.trans HB4.out hC⟩
set_option maxRecDepth 100000 in
theorem walkL (w : World) (hN : Names w) (A : Option Addr) (n0 cap : Nat) (h3 : 3000 < n0) :
    Calls Tryd.prog 6 #[.slice A n0 cap] w fun r w' => r = .returned (.bool true) ∧ Below w.heap.size w w' := by
  have HN := Lib.hid hN
  clear hN
  go_enter Tryd.func6, Tryd.ntmps6
  go_wp2_with (go_at_call 8; (with_reducible refine (evAwake_v _ HN.out).mono ?_); rintro r w1 ⟨rfl, hb1⟩; have HB1 := Lib.hid hb1; clear hb1)
  go_ret
  exact ⟨rfl, HB1.out⟩
theorem walk (w : World) (hN : Names w) (A : Option Addr) (n0 cap : Nat) (bs : List UInt8) (h : Rd w w.heap.size A n0 (bs.map bv) ∧ n0 ≤ cap ∧ cap ≤ maxLen) :
    Calls Tryd.prog 6 #[.slice A n0 cap] w fun r w' => r = .returned (.bool true) ∧ Below w.heap.size w w' := by
  obtain ⟨hr, h1, h2⟩ := h
  by_cases h3 : n0 ≤ 3000
  · obtain ⟨⟨⟨k, n, m, t, l⟩, f⟩, ha⟩ : ∃ x, askedM bs = x := ⟨_, rfl⟩
    obtain ⟨⟨⟨kk, ee, nn, mm, tt, ll, ss⟩, g⟩, hto⟩ : ∃ x, toldM bs = x := ⟨_, rfl⟩
    by_cases hf : f = 0
    · subst hf
      by_cases hg : g = 0
      · subst hg
        exact walk11 w hN A n0 cap bs hr (by omega) h3 k n m t l kk ee nn mm tt ll ss ha hto
      · exact walk10 w hN A n0 cap bs hr (by omega) h3 k n m t l kk ee nn mm tt ll ss g hg ha hto
    · by_cases hg : g = 0
      · subst hg
        exact walk01 w hN A n0 cap bs hr (by omega) h3 k n m t l kk ee nn mm tt ll ss f hf ha hto
      · exact walk00 w hN A n0 cap bs hr (by omega) h3 k n m t l kk ee nn mm tt ll ss f hf g hg ha hto
  · exact walkL w hN A n0 cap (by omega)
end eventOwn
end Go.Proofs.YtbgojfgapbcanaaDoor
