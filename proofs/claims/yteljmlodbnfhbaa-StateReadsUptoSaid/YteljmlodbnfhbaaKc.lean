/- THE DOCUMENT'S bytes of a request and of an answer. No premises. -/
import Derived.Test.YteljmlodbnfhbaaKb
namespace Go.Proofs.Yteljmlodbnfhbaa
open Go.RowKit
namespace Ks
theorem Rp.later {α : Type} {r : Rp α} {w w' : World} {cs : List Value} {a : α} (h : r.C w w.heap.size cs a) (hl : Later w w') : r.C w' w'.heap.size cs a := r.more (r.keep h fun _ hp => hl.cell hp) hl.size
theorem Row.lie_num {w : World} {n : Nat} {A : Option Addr} {l : List Int} (h : Row rnum w n A l) (hn : 0 < l.length) : ∃ g o, A = some ⟨g, o, none⟩ ∧ g < n ∧ ∀ (k : Nat) (hk : k < l.length), w.cell? ⟨g, o + k, none⟩ = some (.int .i64 l[k]) := by
  obtain ⟨g, o, e, hg, hk⟩ := h.lie hn (by decide)
  refine ⟨g, o, e, hg, fun k hl => ?_⟩
  obtain ⟨cs, h1, hu⟩ := hk k hl
  rw [h1.1] at hu
  have := hu 0 _ rfl
  rwa [show o + k * rnum.wd + 0 = o + k by show o + k * 1 + 0 = o + k; omega] at this
theorem Row.lie_bit {w : World} {n : Nat} {A : Option Addr} {l : List Bool} (h : Row rbit w n A l) (hn : 0 < l.length) : ∃ g o, A = some ⟨g, o, none⟩ ∧ g < n ∧ ∀ (k : Nat) (hk : k < l.length), w.cell? ⟨g, o + k, none⟩ = some (.bool l[k]) := by
  obtain ⟨g, o, e, hg, hk⟩ := h.lie hn (by decide)
  refine ⟨g, o, e, hg, fun k hl => ?_⟩
  obtain ⟨cs, h1, hu⟩ := hk k hl
  have h1 : cs = [.bool l[k]] := h1
  rw [h1] at hu
  have := hu 0 _ rfl
  rwa [show o + k * rbit.wd + 0 = o + k by show o + k * 1 + 0 = o + k; omega] at this
set_option maxRecDepth 100000 in
set_option maxHeartbeats 1600000 in
theorem request_v (q : Rq) (cs : List Value) (W : World) (h : rqR.C W W.heap.size cs q) (hok : rqC.ok q) (hx : (rqC.put q).length ≤ 100000000) :
    Calls Try.prog 21 #[.agg cs.toArray] W fun r W' => r = .returned (.string (mkS (rqC.put q))) ∧ Later W W' := by
  obtain ⟨A, c, rfl, hr, hIkind, hIn, hIm, hc1, hc2⟩ := rq_cells h
  obtain ⟨kind, n, m, text, list⟩ := q
  have hm : list.length ≤ 100000 := by
    obtain ⟨_, _, _, _, h5⟩ := hok
    exact h5.1
  clear h hok
  dsimp only at *
  obtain ⟨nn, hnn⟩ : ∃ nn, nn = list.length := ⟨_, rfl⟩
  have hput : rqC.put ⟨kind, n, m, text, list⟩ = numP kind ++ (numP n ++ (numP m ++ (textB text ++ (txts.put list)))) := by rfl
  rw [hput] at hx ⊢
  have hsttext : text.length ≤ (textB text).length := by rw [textB, List.length_append]; omega
  obtain ⟨tkind, htkind⟩ : ∃ y, y = numP kind := ⟨_, rfl⟩
  rw [← htkind] at hx ⊢
  obtain ⟨tn, htn⟩ : ∃ y, y = numP n := ⟨_, rfl⟩
  rw [← htn] at hx ⊢
  obtain ⟨tm, htm⟩ : ∃ y, y = numP m := ⟨_, rfl⟩
  rw [← htm] at hx ⊢
  obtain ⟨ttext, httext⟩ : ∃ y, y = textB text := ⟨_, rfl⟩
  rw [← httext] at hx ⊢
  rw [← httext] at hsttext
  obtain ⟨tlist, htlist⟩ : ∃ y, y = txts.put list := ⟨_, rfl⟩
  rw [← htlist] at hx ⊢
  have hxs := hx
  simp only [List.length_append] at hxs
  have Htkind := Lib.hid (fun w => n_v kind hIkind w)
  rw [← htkind] at Htkind
  have Htn := Lib.hid (fun w => n_v n hIn w)
  rw [← htn] at Htn
  have Htm := Lib.hid (fun w => n_v m hIm w)
  rw [← htm] at Htm
  have Httext := Lib.hid (fun w => text_v text w (by omega))
  rw [← httext] at Httext
  have Htlist := Lib.hid (fun (w' : World) (hl : Later W w') => row_v A c nn list w' (hr.later hl) hnn (by rw [← htlist]; omega) (by omega))
  rw [← htlist] at Htlist
  rw [← hnn] at hc1 hm ⊢
  obtain ⟨j9, hj9⟩ : ∃ j9 : B, j9 = tkind ++ tn := ⟨_, rfl⟩
  have hlj9 : j9.length = tkind.length + tn.length := by rw [hj9, List.length_append]
  have HZj9 := Lib.hid (show (¬ 9223372036854775807 < (mkS tkind).size + (mkS tn).size) ∧ mkS tkind ++ mkS tn = mkS j9 from ⟨by rw [mkS_size, mkS_size]; omega, by rw [hj9]; exact mkS_add tkind tn⟩)
  obtain ⟨j13, hj13⟩ : ∃ j13 : B, j13 = j9 ++ tm := ⟨_, rfl⟩
  have hlj13 : j13.length = j9.length + tm.length := by rw [hj13, List.length_append]
  have HZj13 := Lib.hid (show (¬ 9223372036854775807 < (mkS j9).size + (mkS tm).size) ∧ mkS j9 ++ mkS tm = mkS j13 from ⟨by rw [mkS_size, mkS_size]; omega, by rw [hj13]; exact mkS_add j9 tm⟩)
  obtain ⟨j17, hj17⟩ : ∃ j17 : B, j17 = j13 ++ ttext := ⟨_, rfl⟩
  have hlj17 : j17.length = j13.length + ttext.length := by rw [hj17, List.length_append]
  have HZj17 := Lib.hid (show (¬ 9223372036854775807 < (mkS j13).size + (mkS ttext).size) ∧ mkS j13 ++ mkS ttext = mkS j17 from ⟨by rw [mkS_size, mkS_size]; omega, by rw [hj17]; exact mkS_add j13 ttext⟩)
  obtain ⟨j21, hj21⟩ : ∃ j21 : B, j21 = j17 ++ tlist := ⟨_, rfl⟩
  have hlj21 : j21.length = j17.length + tlist.length := by rw [hj21, List.length_append]
  have HZj21 := Lib.hid (show (¬ 9223372036854775807 < (mkS j17).size + (mkS tlist).size) ∧ mkS j17 ++ mkS tlist = mkS j21 from ⟨by rw [mkS_size, mkS_size]; omega, by rw [hj21]; exact mkS_add j17 tlist⟩)
  have HEND := Lib.hid (show j21 = tkind ++ (tn ++ (tm ++ (ttext ++ (tlist)))) by rw [hj21, hj17, hj13, hj9]; simp only [List.append_assoc])
  have HBX := heap_alloc_new W (.cells #[.int .i64 kind, .int .i64 n, .int .i64 m, .string (mkS text), .slice A nn c] 34)
  obtain ⟨w1, hw1⟩ : ∃ w1, w1 = W.alloc (.cells #[.int .i64 kind, .int .i64 n, .int .i64 m, .string (mkS text), .slice A nn c] 34) := ⟨_, rfl⟩
  have HL1 := Lib.hid (show Later W w1 by rw [hw1]; exact Later.alloc W _)
  rw [← hw1] at HBX
  have HBX := Lib.hid HBX
  have HWR := Lib.hid (Later.refl w1)
  clear hj9 hlj9 hj13 hlj13 hj17 hlj17 hj21 hlj21 htkind htn htm httext htlist hsttext hx hxs hput hnn hr
  go_enter Try.func21, Try.ntmps21
  go_wp2_with fail
  rw [← hw1]
  clear hw1
  refine wp_region_seq (by kernel_rfl) [2, 5, 9, 13, 17] (fun _ _ w => Later w1 w) [some (.pointer (some ⟨W.heap.size, 0, none⟩)), some (.int .i64 kind), some (.string (mkS tkind)), some (.pointer (some ⟨W.heap.size, 1, none⟩)), some (.int .i64 n), some (.string (mkS tn)), some (.string (mkS j9)), some (.pointer (some ⟨W.heap.size, 2, none⟩)), some (.int .i64 m), some (.string (mkS tm)), some (.string (mkS j13)), some (.pointer (some ⟨W.heap.size, 3, none⟩)), some (.string (mkS text)), some (.string (mkS ttext)), some (.string (mkS j17)), some (.pointer (some ⟨W.heap.size, 4, none⟩)), some (.slice A nn c), some (.string (mkS tlist)), some (.string (mkS j21)), some (.string (mkS j21))] (by decide) (by decide) (by kernel_rfl) (by kernel_rfl) (Later.drew w1) ?_ ?_
  · refine ⟨?_, ?_, ?_, ?_, ?_, ?_, ?_, ?_, ?_, ?_, ?_, ?_, ?_, ?_, ?_, ?_, ?_, ?_, ?_, ?_, trivial⟩
    · -- 0: slot 3 := Op.fieldAddr 34 t1 0
      refine OwesS.q rfl fun a w j u hC hb hs => ⟨rfl, ?_⟩
      have e1 : a.tmps.getD 1 undef = .pointer (some ⟨W.heap.size, 0, none⟩) := hs.free 1 rfl
      refine ValWp.pure (v := .pointer (some ⟨W.heap.size, 0, none⟩)) (fun K' hK' => ?_) ⟨rfl, rfl⟩
      simp only [ValWp, execOp, Act.eval, e1]
      go_simp
      all_goals exact hK'
    · -- 1: slot 4 := Op.load 3 t3
      refine OwesS.q rfl fun a w j u hC hb hs => ⟨rfl, ?_⟩
      have e3 : a.tmps.getD 3 undef = .pointer (some ⟨W.heap.size, 0, none⟩) := hs.dep 0 _ rfl rfl
      have q : w.cell? ⟨W.heap.size, 0, none⟩ = some (.int .i64 kind) := (cell_row (later_cells (HWR.out.trans hC) HBX.out) 0).1
      refine ValWp.pure (v := .int .i64 kind) (fun K' hK' => ?_) ⟨rfl, rfl⟩
      simp only [ValWp, execOp, Act.eval, e3]
      go_simp
      all_goals exact hK'
    · -- 2: slot 5 := Op.call { value (Operand.func 36), args := #[t4], argTypes := #[2] }
      refine OwesS.w rfl fun a w u hC hl hs => ⟨rfl, fun K hK => ?_⟩
      have e4 : a.tmps.getD 4 undef = .int .i64 kind := hs.dep 1 _ rfl rfl
      refine wp_of_val ?_
      refine ValWp.call #[.int .i64 kind] rfl rfl Try.func19 rfl rfl (by simp only [List.map_toArray, List.map_cons, List.map_nil, Act.eval, e4]) ?_
      refine (Htkind.out w).mono ?_
      rintro e w' ⟨rfl, hb⟩
      exact ⟨_, rfl, hK _ _ rfl (Later.trans hC hb)⟩
    · -- 3: slot 6 := Op.fieldAddr 34 t1 1
      refine OwesS.q rfl fun a w j u hC hb hs => ⟨rfl, ?_⟩
      have e1 : a.tmps.getD 1 undef = .pointer (some ⟨W.heap.size, 0, none⟩) := hs.free 1 rfl
      refine ValWp.pure (v := .pointer (some ⟨W.heap.size, 1, none⟩)) (fun K' hK' => ?_) ⟨rfl, rfl⟩
      simp only [ValWp, execOp, Act.eval, e1]
      go_simp
      all_goals exact hK'
    · -- 4: slot 7 := Op.load 2 t6
      refine OwesS.q rfl fun a w j u hC hb hs => ⟨rfl, ?_⟩
      have e6 : a.tmps.getD 6 undef = .pointer (some ⟨W.heap.size, 1, none⟩) := hs.dep 3 _ rfl rfl
      have q : w.cell? ⟨W.heap.size, 1, none⟩ = some (.int .i64 n) := (cell_row (later_cells (HWR.out.trans hC) HBX.out) 1).1
      refine ValWp.pure (v := .int .i64 n) (fun K' hK' => ?_) ⟨rfl, rfl⟩
      simp only [ValWp, execOp, Act.eval, e6]
      go_simp
      all_goals exact hK'
    · -- 5: slot 8 := Op.call { value (Operand.func 36), args := #[t7], argTypes := #[2] }
      refine OwesS.w rfl fun a w u hC hl hs => ⟨rfl, fun K hK => ?_⟩
      have e7 : a.tmps.getD 7 undef = .int .i64 n := hs.dep 4 _ rfl rfl
      refine wp_of_val ?_
      refine ValWp.call #[.int .i64 n] rfl rfl Try.func19 rfl rfl (by simp only [List.map_toArray, List.map_cons, List.map_nil, Act.eval, e7]) ?_
      refine (Htn.out w).mono ?_
      rintro e w' ⟨rfl, hb⟩
      exact ⟨_, rfl, hK _ _ rfl (Later.trans hC hb)⟩
    · -- 6: slot 9 := Op.binOp BinOp.add 9 t5 t8 9
      refine OwesS.q rfl fun a w j u hC hb hs => ⟨rfl, ?_⟩
      have e5 : a.tmps.getD 5 undef = .string (mkS tkind) := hs.dep 2 _ rfl rfl
      have e8 : a.tmps.getD 8 undef = .string (mkS tn) := hs.dep 5 _ rfl rfl
      have hz := HZj9.out.1
      have hq := HZj9.out.2
      refine ValWp.pure (v := .string (mkS j9)) (fun K' hK' => ?_) ⟨rfl, rfl⟩
      simp only [ValWp, execOp, Act.eval, e5, e8]
      go_simp
      all_goals exact hK'
    · -- 7: slot 10 := Op.fieldAddr 34 t1 2
      refine OwesS.q rfl fun a w j u hC hb hs => ⟨rfl, ?_⟩
      have e1 : a.tmps.getD 1 undef = .pointer (some ⟨W.heap.size, 0, none⟩) := hs.free 1 rfl
      refine ValWp.pure (v := .pointer (some ⟨W.heap.size, 2, none⟩)) (fun K' hK' => ?_) ⟨rfl, rfl⟩
      simp only [ValWp, execOp, Act.eval, e1]
      go_simp
      all_goals exact hK'
    · -- 8: slot 11 := Op.load 2 t10
      refine OwesS.q rfl fun a w j u hC hb hs => ⟨rfl, ?_⟩
      have e10 : a.tmps.getD 10 undef = .pointer (some ⟨W.heap.size, 2, none⟩) := hs.dep 7 _ rfl rfl
      have q : w.cell? ⟨W.heap.size, 2, none⟩ = some (.int .i64 m) := (cell_row (later_cells (HWR.out.trans hC) HBX.out) 2).1
      refine ValWp.pure (v := .int .i64 m) (fun K' hK' => ?_) ⟨rfl, rfl⟩
      simp only [ValWp, execOp, Act.eval, e10]
      go_simp
      all_goals exact hK'
    · -- 9: slot 12 := Op.call { value (Operand.func 36), args := #[t11], argTypes := #[2] }
      refine OwesS.w rfl fun a w u hC hl hs => ⟨rfl, fun K hK => ?_⟩
      have e11 : a.tmps.getD 11 undef = .int .i64 m := hs.dep 8 _ rfl rfl
      refine wp_of_val ?_
      refine ValWp.call #[.int .i64 m] rfl rfl Try.func19 rfl rfl (by simp only [List.map_toArray, List.map_cons, List.map_nil, Act.eval, e11]) ?_
      refine (Htm.out w).mono ?_
      rintro e w' ⟨rfl, hb⟩
      exact ⟨_, rfl, hK _ _ rfl (Later.trans hC hb)⟩
    · -- 10: slot 13 := Op.binOp BinOp.add 9 t9 t12 9
      refine OwesS.q rfl fun a w j u hC hb hs => ⟨rfl, ?_⟩
      have e9 : a.tmps.getD 9 undef = .string (mkS j9) := hs.dep 6 _ rfl rfl
      have e12 : a.tmps.getD 12 undef = .string (mkS tm) := hs.dep 9 _ rfl rfl
      have hz := HZj13.out.1
      have hq := HZj13.out.2
      refine ValWp.pure (v := .string (mkS j13)) (fun K' hK' => ?_) ⟨rfl, rfl⟩
      simp only [ValWp, execOp, Act.eval, e9, e12]
      go_simp
      all_goals exact hK'
    · -- 11: slot 14 := Op.fieldAddr 34 t1 3
      refine OwesS.q rfl fun a w j u hC hb hs => ⟨rfl, ?_⟩
      have e1 : a.tmps.getD 1 undef = .pointer (some ⟨W.heap.size, 0, none⟩) := hs.free 1 rfl
      refine ValWp.pure (v := .pointer (some ⟨W.heap.size, 3, none⟩)) (fun K' hK' => ?_) ⟨rfl, rfl⟩
      simp only [ValWp, execOp, Act.eval, e1]
      go_simp
      all_goals exact hK'
    · -- 12: slot 15 := Op.load 9 t14
      refine OwesS.q rfl fun a w j u hC hb hs => ⟨rfl, ?_⟩
      have e14 : a.tmps.getD 14 undef = .pointer (some ⟨W.heap.size, 3, none⟩) := hs.dep 11 _ rfl rfl
      have q : w.cell? ⟨W.heap.size, 3, none⟩ = some (.string (mkS text)) := (cell_row (later_cells (HWR.out.trans hC) HBX.out) 3).1
      refine ValWp.pure (v := .string (mkS text)) (fun K' hK' => ?_) ⟨rfl, rfl⟩
      simp only [ValWp, execOp, Act.eval, e14]
      go_simp
      all_goals exact hK'
    · -- 13: slot 16 := Op.call { value (Operand.func 75), args := #[t15], argTypes := #[9] }
      refine OwesS.w rfl fun a w u hC hl hs => ⟨rfl, fun K hK => ?_⟩
      have e15 : a.tmps.getD 15 undef = .string (mkS text) := hs.dep 12 _ rfl rfl
      refine wp_of_val ?_
      refine ValWp.call #[.string (mkS text)] rfl rfl Try.func41 rfl rfl (by simp only [List.map_toArray, List.map_cons, List.map_nil, Act.eval, e15]) ?_
      refine (Httext.out w).mono ?_
      rintro e w' ⟨rfl, hb⟩
      exact ⟨_, rfl, hK _ _ rfl (Later.trans hC hb)⟩
    · -- 14: slot 17 := Op.binOp BinOp.add 9 t13 t16 9
      refine OwesS.q rfl fun a w j u hC hb hs => ⟨rfl, ?_⟩
      have e13 : a.tmps.getD 13 undef = .string (mkS j13) := hs.dep 10 _ rfl rfl
      have e16 : a.tmps.getD 16 undef = .string (mkS ttext) := hs.dep 13 _ rfl rfl
      have hz := HZj17.out.1
      have hq := HZj17.out.2
      refine ValWp.pure (v := .string (mkS j17)) (fun K' hK' => ?_) ⟨rfl, rfl⟩
      simp only [ValWp, execOp, Act.eval, e13, e16]
      go_simp
      all_goals exact hK'
    · -- 15: slot 18 := Op.fieldAddr 34 t1 4
      refine OwesS.q rfl fun a w j u hC hb hs => ⟨rfl, ?_⟩
      have e1 : a.tmps.getD 1 undef = .pointer (some ⟨W.heap.size, 0, none⟩) := hs.free 1 rfl
      refine ValWp.pure (v := .pointer (some ⟨W.heap.size, 4, none⟩)) (fun K' hK' => ?_) ⟨rfl, rfl⟩
      simp only [ValWp, execOp, Act.eval, e1]
      go_simp
      all_goals exact hK'
    · -- 16: slot 19 := Op.load 23 t18
      refine OwesS.q rfl fun a w j u hC hb hs => ⟨rfl, ?_⟩
      have e18 : a.tmps.getD 18 undef = .pointer (some ⟨W.heap.size, 4, none⟩) := hs.dep 15 _ rfl rfl
      have q : w.cell? ⟨W.heap.size, 4, none⟩ = some (.slice A nn c) := (cell_row (later_cells (HWR.out.trans hC) HBX.out) 4).1
      refine ValWp.pure (v := .slice A nn c) (fun K' hK' => ?_) ⟨rfl, rfl⟩
      simp only [ValWp, execOp, Act.eval, e18]
      go_simp
      all_goals exact hK'
    · -- 17: slot 20 := Op.call { value (Operand.func 35), args := #[t19], argTypes := #[23] }
      refine OwesS.w rfl fun a w u hC hl hs => ⟨rfl, fun K hK => ?_⟩
      have e19 : a.tmps.getD 19 undef = .slice A nn c := hs.dep 16 _ rfl rfl
      refine wp_of_val ?_
      refine ValWp.call #[.slice A nn c] rfl rfl Try.func18 rfl rfl (by simp only [List.map_toArray, List.map_cons, List.map_nil, Act.eval, e19]) ?_
      refine (Htlist.out w (HL1.out.trans hC)).mono ?_
      rintro e w' ⟨rfl, hb⟩
      exact ⟨_, rfl, hK _ _ rfl (Later.trans hC hb)⟩
    · -- 18: slot 21 := Op.binOp BinOp.add 9 t17 t20 9
      refine OwesS.q rfl fun a w j u hC hb hs => ⟨rfl, ?_⟩
      have e17 : a.tmps.getD 17 undef = .string (mkS j17) := hs.dep 14 _ rfl rfl
      have e20 : a.tmps.getD 20 undef = .string (mkS tlist) := hs.dep 17 _ rfl rfl
      have hz := HZj21.out.1
      have hq := HZj21.out.2
      refine ValWp.pure (v := .string (mkS j21)) (fun K' hK' => ?_) ⟨rfl, rfl⟩
      simp only [ValWp, execOp, Act.eval, e17, e20]
      go_simp
      all_goals exact hK'
    · -- 19: slot 2 := Op.assign t21
      refine OwesS.q rfl fun a w j u hC hb hs => ⟨rfl, ?_⟩
      have e21 : a.tmps.getD 21 undef = .string (mkS j21) := hs.dep 18 _ rfl rfl
      refine ValWp.pure (v := .string (mkS j21)) (fun K' hK' => ?_) ⟨rfl, rfl⟩
      simp only [ValWp, execOp, Act.eval, e21]
      go_simp
      all_goals exact hK'
  · intro a w u hC hl hd hsz hfree hs
    obtain ⟨u3, hu3⟩ : ∃ u, u = a.tmps.getD 3 undef := ⟨_, rfl⟩
    obtain ⟨u4, hu4⟩ : ∃ u, u = a.tmps.getD 4 undef := ⟨_, rfl⟩
    obtain ⟨u5, hu5⟩ : ∃ u, u = a.tmps.getD 5 undef := ⟨_, rfl⟩
    obtain ⟨u6, hu6⟩ : ∃ u, u = a.tmps.getD 6 undef := ⟨_, rfl⟩
    obtain ⟨u7, hu7⟩ : ∃ u, u = a.tmps.getD 7 undef := ⟨_, rfl⟩
    obtain ⟨u8, hu8⟩ : ∃ u, u = a.tmps.getD 8 undef := ⟨_, rfl⟩
    obtain ⟨u9, hu9⟩ : ∃ u, u = a.tmps.getD 9 undef := ⟨_, rfl⟩
    obtain ⟨u10, hu10⟩ : ∃ u, u = a.tmps.getD 10 undef := ⟨_, rfl⟩
    obtain ⟨u11, hu11⟩ : ∃ u, u = a.tmps.getD 11 undef := ⟨_, rfl⟩
    obtain ⟨u12, hu12⟩ : ∃ u, u = a.tmps.getD 12 undef := ⟨_, rfl⟩
    obtain ⟨u13, hu13⟩ : ∃ u, u = a.tmps.getD 13 undef := ⟨_, rfl⟩
    obtain ⟨u14, hu14⟩ : ∃ u, u = a.tmps.getD 14 undef := ⟨_, rfl⟩
    obtain ⟨u15, hu15⟩ : ∃ u, u = a.tmps.getD 15 undef := ⟨_, rfl⟩
    obtain ⟨u16, hu16⟩ : ∃ u, u = a.tmps.getD 16 undef := ⟨_, rfl⟩
    obtain ⟨u17, hu17⟩ : ∃ u, u = a.tmps.getD 17 undef := ⟨_, rfl⟩
    obtain ⟨u18, hu18⟩ : ∃ u, u = a.tmps.getD 18 undef := ⟨_, rfl⟩
    obtain ⟨u19, hu19⟩ : ∃ u, u = a.tmps.getD 19 undef := ⟨_, rfl⟩
    obtain ⟨u20, hu20⟩ : ∃ u, u = a.tmps.getD 20 undef := ⟨_, rfl⟩
    obtain ⟨u21, hu21⟩ : ∃ u, u = a.tmps.getD 21 undef := ⟨_, rfl⟩
    have hal : AllAt a 0 [_, _, .string (mkS j21), u3, u4, u5, u6, u7, u8, u9, u10, u11, u12, u13, u14, u15, u16, u17, u18, u19, u20, u21] := ⟨hfree 0 rfl, hfree 1 rfl, hs 19 _ rfl, hu3.symm, hu4.symm, hu5.symm, hu6.symm, hu7.symm, hu8.symm, hu9.symm, hu10.symm, hu11.symm, hu12.symm, hu13.symm, hu14.symm, hu15.symm, hu16.symm, hu17.symm, hu18.symm, hu19.symm, hu20.symm, hu21.symm, trivial⟩
    have hlit := fun h => act_lit hd h hal
    rw [hlit hsz]
    simp only [Array.getD_eq_getD_getElem?, List.getElem?_toArray, List.getElem?_cons_zero, List.getElem?_cons_succ, Option.getD_some]
    clear hlit hal hd hsz hfree hs hu3 hu4 hu5 hu6 hu7 hu8 hu9 hu10 hu11 hu12 hu13 hu14 hu15 hu16 hu17 hu18 hu19 hu20 hu21
    go_wp2
    go_ret
    exact ⟨by rw [← HEND.out]; rfl, HL1.out.trans hC⟩
set_option maxRecDepth 100000 in
set_option maxHeartbeats 1600000 in
theorem answer_v (q : An) (cs : List Value) (W : World) (h : anR.C W W.heap.size cs q) (hok : anC.ok q) (hx : (anC.put q).length ≤ 100000000) :
    Calls Try.prog 22 #[.agg cs.toArray] W fun r W' => r = .returned (.string (mkS (anC.put q))) ∧ Later W W' := by
  obtain ⟨A, c, rfl, hr, hIkind, hIerr, hIn, hIm, hIsig, hc1, hc2⟩ := an_cells h
  obtain ⟨kind, err, n, m, text, list, sig⟩ := q
  have hm : list.length ≤ 100000 := by
    obtain ⟨_, _, _, _, _, h5, _⟩ := hok
    exact h5.1
  clear h hok
  dsimp only at *
  obtain ⟨nn, hnn⟩ : ∃ nn, nn = list.length := ⟨_, rfl⟩
  have hput : anC.put ⟨kind, err, n, m, text, list, sig⟩ = numP kind ++ (numP err ++ (numP n ++ (numP m ++ (textB text ++ (txts.put list ++ (numP sig)))))) := by rfl
  rw [hput] at hx ⊢
  have hsttext : text.length ≤ (textB text).length := by rw [textB, List.length_append]; omega
  obtain ⟨tkind, htkind⟩ : ∃ y, y = numP kind := ⟨_, rfl⟩
  rw [← htkind] at hx ⊢
  obtain ⟨terr, hterr⟩ : ∃ y, y = numP err := ⟨_, rfl⟩
  rw [← hterr] at hx ⊢
  obtain ⟨tn, htn⟩ : ∃ y, y = numP n := ⟨_, rfl⟩
  rw [← htn] at hx ⊢
  obtain ⟨tm, htm⟩ : ∃ y, y = numP m := ⟨_, rfl⟩
  rw [← htm] at hx ⊢
  obtain ⟨ttext, httext⟩ : ∃ y, y = textB text := ⟨_, rfl⟩
  rw [← httext] at hx ⊢
  rw [← httext] at hsttext
  obtain ⟨tlist, htlist⟩ : ∃ y, y = txts.put list := ⟨_, rfl⟩
  rw [← htlist] at hx ⊢
  obtain ⟨tsig, htsig⟩ : ∃ y, y = numP sig := ⟨_, rfl⟩
  rw [← htsig] at hx ⊢
  have hxs := hx
  simp only [List.length_append] at hxs
  have Htkind := Lib.hid (fun w => n_v kind hIkind w)
  rw [← htkind] at Htkind
  have Hterr := Lib.hid (fun w => n_v err hIerr w)
  rw [← hterr] at Hterr
  have Htn := Lib.hid (fun w => n_v n hIn w)
  rw [← htn] at Htn
  have Htm := Lib.hid (fun w => n_v m hIm w)
  rw [← htm] at Htm
  have Httext := Lib.hid (fun w => text_v text w (by omega))
  rw [← httext] at Httext
  have Htlist := Lib.hid (fun (w' : World) (hl : Later W w') => row_v A c nn list w' (hr.later hl) hnn (by rw [← htlist]; omega) (by omega))
  rw [← htlist] at Htlist
  have Htsig := Lib.hid (fun w => n_v sig hIsig w)
  rw [← htsig] at Htsig
  rw [← hnn] at hc1 hm ⊢
  obtain ⟨j9, hj9⟩ : ∃ j9 : B, j9 = tkind ++ terr := ⟨_, rfl⟩
  have hlj9 : j9.length = tkind.length + terr.length := by rw [hj9, List.length_append]
  have HZj9 := Lib.hid (show (¬ 9223372036854775807 < (mkS tkind).size + (mkS terr).size) ∧ mkS tkind ++ mkS terr = mkS j9 from ⟨by rw [mkS_size, mkS_size]; omega, by rw [hj9]; exact mkS_add tkind terr⟩)
  obtain ⟨j13, hj13⟩ : ∃ j13 : B, j13 = j9 ++ tn := ⟨_, rfl⟩
  have hlj13 : j13.length = j9.length + tn.length := by rw [hj13, List.length_append]
  have HZj13 := Lib.hid (show (¬ 9223372036854775807 < (mkS j9).size + (mkS tn).size) ∧ mkS j9 ++ mkS tn = mkS j13 from ⟨by rw [mkS_size, mkS_size]; omega, by rw [hj13]; exact mkS_add j9 tn⟩)
  obtain ⟨j17, hj17⟩ : ∃ j17 : B, j17 = j13 ++ tm := ⟨_, rfl⟩
  have hlj17 : j17.length = j13.length + tm.length := by rw [hj17, List.length_append]
  have HZj17 := Lib.hid (show (¬ 9223372036854775807 < (mkS j13).size + (mkS tm).size) ∧ mkS j13 ++ mkS tm = mkS j17 from ⟨by rw [mkS_size, mkS_size]; omega, by rw [hj17]; exact mkS_add j13 tm⟩)
  obtain ⟨j21, hj21⟩ : ∃ j21 : B, j21 = j17 ++ ttext := ⟨_, rfl⟩
  have hlj21 : j21.length = j17.length + ttext.length := by rw [hj21, List.length_append]
  have HZj21 := Lib.hid (show (¬ 9223372036854775807 < (mkS j17).size + (mkS ttext).size) ∧ mkS j17 ++ mkS ttext = mkS j21 from ⟨by rw [mkS_size, mkS_size]; omega, by rw [hj21]; exact mkS_add j17 ttext⟩)
  obtain ⟨j25, hj25⟩ : ∃ j25 : B, j25 = j21 ++ tlist := ⟨_, rfl⟩
  have hlj25 : j25.length = j21.length + tlist.length := by rw [hj25, List.length_append]
  have HZj25 := Lib.hid (show (¬ 9223372036854775807 < (mkS j21).size + (mkS tlist).size) ∧ mkS j21 ++ mkS tlist = mkS j25 from ⟨by rw [mkS_size, mkS_size]; omega, by rw [hj25]; exact mkS_add j21 tlist⟩)
  obtain ⟨j29, hj29⟩ : ∃ j29 : B, j29 = j25 ++ tsig := ⟨_, rfl⟩
  have hlj29 : j29.length = j25.length + tsig.length := by rw [hj29, List.length_append]
  have HZj29 := Lib.hid (show (¬ 9223372036854775807 < (mkS j25).size + (mkS tsig).size) ∧ mkS j25 ++ mkS tsig = mkS j29 from ⟨by rw [mkS_size, mkS_size]; omega, by rw [hj29]; exact mkS_add j25 tsig⟩)
  have HEND := Lib.hid (show j29 = tkind ++ (terr ++ (tn ++ (tm ++ (ttext ++ (tlist ++ (tsig)))))) by rw [hj29, hj25, hj21, hj17, hj13, hj9]; simp only [List.append_assoc])
  have HBX := heap_alloc_new W (.cells #[.int .i64 kind, .int .i64 err, .int .i64 n, .int .i64 m, .string (mkS text), .slice A nn c, .int .i64 sig] 36)
  obtain ⟨w1, hw1⟩ : ∃ w1, w1 = W.alloc (.cells #[.int .i64 kind, .int .i64 err, .int .i64 n, .int .i64 m, .string (mkS text), .slice A nn c, .int .i64 sig] 36) := ⟨_, rfl⟩
  have HL1 := Lib.hid (show Later W w1 by rw [hw1]; exact Later.alloc W _)
  rw [← hw1] at HBX
  have HBX := Lib.hid HBX
  have HWR := Lib.hid (Later.refl w1)
  clear hj9 hlj9 hj13 hlj13 hj17 hlj17 hj21 hlj21 hj25 hlj25 hj29 hlj29 htkind hterr htn htm httext htlist htsig hsttext hx hxs hput hnn hr
  go_enter Try.func22, Try.ntmps22
  go_wp2_with fail
  rw [← hw1]
  clear hw1
  refine wp_region_seq (by kernel_rfl) [2, 5, 9, 13, 17, 21, 25] (fun _ _ w => Later w1 w) [some (.pointer (some ⟨W.heap.size, 0, none⟩)), some (.int .i64 kind), some (.string (mkS tkind)), some (.pointer (some ⟨W.heap.size, 1, none⟩)), some (.int .i64 err), some (.string (mkS terr)), some (.string (mkS j9)), some (.pointer (some ⟨W.heap.size, 2, none⟩)), some (.int .i64 n), some (.string (mkS tn)), some (.string (mkS j13)), some (.pointer (some ⟨W.heap.size, 3, none⟩)), some (.int .i64 m), some (.string (mkS tm)), some (.string (mkS j17)), some (.pointer (some ⟨W.heap.size, 4, none⟩)), some (.string (mkS text)), some (.string (mkS ttext)), some (.string (mkS j21)), some (.pointer (some ⟨W.heap.size, 5, none⟩)), some (.slice A nn c), some (.string (mkS tlist)), some (.string (mkS j25)), some (.pointer (some ⟨W.heap.size, 6, none⟩)), some (.int .i64 sig), some (.string (mkS tsig)), some (.string (mkS j29)), some (.string (mkS j29))] (by decide) (by decide) (by kernel_rfl) (by kernel_rfl) (Later.drew w1) ?_ ?_
  · refine ⟨?_, ?_, ?_, ?_, ?_, ?_, ?_, ?_, ?_, ?_, ?_, ?_, ?_, ?_, ?_, ?_, ?_, ?_, ?_, ?_, ?_, ?_, ?_, ?_, ?_, ?_, ?_, ?_, trivial⟩
    · -- 0: slot 3 := Op.fieldAddr 36 t1 0
      refine OwesS.q rfl fun a w j u hC hb hs => ⟨rfl, ?_⟩
      have e1 : a.tmps.getD 1 undef = .pointer (some ⟨W.heap.size, 0, none⟩) := hs.free 1 rfl
      refine ValWp.pure (v := .pointer (some ⟨W.heap.size, 0, none⟩)) (fun K' hK' => ?_) ⟨rfl, rfl⟩
      simp only [ValWp, execOp, Act.eval, e1]
      go_simp
      all_goals exact hK'
    · -- 1: slot 4 := Op.load 3 t3
      refine OwesS.q rfl fun a w j u hC hb hs => ⟨rfl, ?_⟩
      have e3 : a.tmps.getD 3 undef = .pointer (some ⟨W.heap.size, 0, none⟩) := hs.dep 0 _ rfl rfl
      have q : w.cell? ⟨W.heap.size, 0, none⟩ = some (.int .i64 kind) := (cell_row (later_cells (HWR.out.trans hC) HBX.out) 0).1
      refine ValWp.pure (v := .int .i64 kind) (fun K' hK' => ?_) ⟨rfl, rfl⟩
      simp only [ValWp, execOp, Act.eval, e3]
      go_simp
      all_goals exact hK'
    · -- 2: slot 5 := Op.call { value (Operand.func 36), args := #[t4], argTypes := #[2] }
      refine OwesS.w rfl fun a w u hC hl hs => ⟨rfl, fun K hK => ?_⟩
      have e4 : a.tmps.getD 4 undef = .int .i64 kind := hs.dep 1 _ rfl rfl
      refine wp_of_val ?_
      refine ValWp.call #[.int .i64 kind] rfl rfl Try.func19 rfl rfl (by simp only [List.map_toArray, List.map_cons, List.map_nil, Act.eval, e4]) ?_
      refine (Htkind.out w).mono ?_
      rintro e w' ⟨rfl, hb⟩
      exact ⟨_, rfl, hK _ _ rfl (Later.trans hC hb)⟩
    · -- 3: slot 6 := Op.fieldAddr 36 t1 1
      refine OwesS.q rfl fun a w j u hC hb hs => ⟨rfl, ?_⟩
      have e1 : a.tmps.getD 1 undef = .pointer (some ⟨W.heap.size, 0, none⟩) := hs.free 1 rfl
      refine ValWp.pure (v := .pointer (some ⟨W.heap.size, 1, none⟩)) (fun K' hK' => ?_) ⟨rfl, rfl⟩
      simp only [ValWp, execOp, Act.eval, e1]
      go_simp
      all_goals exact hK'
    · -- 4: slot 7 := Op.load 3 t6
      refine OwesS.q rfl fun a w j u hC hb hs => ⟨rfl, ?_⟩
      have e6 : a.tmps.getD 6 undef = .pointer (some ⟨W.heap.size, 1, none⟩) := hs.dep 3 _ rfl rfl
      have q : w.cell? ⟨W.heap.size, 1, none⟩ = some (.int .i64 err) := (cell_row (later_cells (HWR.out.trans hC) HBX.out) 1).1
      refine ValWp.pure (v := .int .i64 err) (fun K' hK' => ?_) ⟨rfl, rfl⟩
      simp only [ValWp, execOp, Act.eval, e6]
      go_simp
      all_goals exact hK'
    · -- 5: slot 8 := Op.call { value (Operand.func 36), args := #[t7], argTypes := #[2] }
      refine OwesS.w rfl fun a w u hC hl hs => ⟨rfl, fun K hK => ?_⟩
      have e7 : a.tmps.getD 7 undef = .int .i64 err := hs.dep 4 _ rfl rfl
      refine wp_of_val ?_
      refine ValWp.call #[.int .i64 err] rfl rfl Try.func19 rfl rfl (by simp only [List.map_toArray, List.map_cons, List.map_nil, Act.eval, e7]) ?_
      refine (Hterr.out w).mono ?_
      rintro e w' ⟨rfl, hb⟩
      exact ⟨_, rfl, hK _ _ rfl (Later.trans hC hb)⟩
    · -- 6: slot 9 := Op.binOp BinOp.add 9 t5 t8 9
      refine OwesS.q rfl fun a w j u hC hb hs => ⟨rfl, ?_⟩
      have e5 : a.tmps.getD 5 undef = .string (mkS tkind) := hs.dep 2 _ rfl rfl
      have e8 : a.tmps.getD 8 undef = .string (mkS terr) := hs.dep 5 _ rfl rfl
      have hz := HZj9.out.1
      have hq := HZj9.out.2
      refine ValWp.pure (v := .string (mkS j9)) (fun K' hK' => ?_) ⟨rfl, rfl⟩
      simp only [ValWp, execOp, Act.eval, e5, e8]
      go_simp
      all_goals exact hK'
    · -- 7: slot 10 := Op.fieldAddr 36 t1 2
      refine OwesS.q rfl fun a w j u hC hb hs => ⟨rfl, ?_⟩
      have e1 : a.tmps.getD 1 undef = .pointer (some ⟨W.heap.size, 0, none⟩) := hs.free 1 rfl
      refine ValWp.pure (v := .pointer (some ⟨W.heap.size, 2, none⟩)) (fun K' hK' => ?_) ⟨rfl, rfl⟩
      simp only [ValWp, execOp, Act.eval, e1]
      go_simp
      all_goals exact hK'
    · -- 8: slot 11 := Op.load 2 t10
      refine OwesS.q rfl fun a w j u hC hb hs => ⟨rfl, ?_⟩
      have e10 : a.tmps.getD 10 undef = .pointer (some ⟨W.heap.size, 2, none⟩) := hs.dep 7 _ rfl rfl
      have q : w.cell? ⟨W.heap.size, 2, none⟩ = some (.int .i64 n) := (cell_row (later_cells (HWR.out.trans hC) HBX.out) 2).1
      refine ValWp.pure (v := .int .i64 n) (fun K' hK' => ?_) ⟨rfl, rfl⟩
      simp only [ValWp, execOp, Act.eval, e10]
      go_simp
      all_goals exact hK'
    · -- 9: slot 12 := Op.call { value (Operand.func 36), args := #[t11], argTypes := #[2] }
      refine OwesS.w rfl fun a w u hC hl hs => ⟨rfl, fun K hK => ?_⟩
      have e11 : a.tmps.getD 11 undef = .int .i64 n := hs.dep 8 _ rfl rfl
      refine wp_of_val ?_
      refine ValWp.call #[.int .i64 n] rfl rfl Try.func19 rfl rfl (by simp only [List.map_toArray, List.map_cons, List.map_nil, Act.eval, e11]) ?_
      refine (Htn.out w).mono ?_
      rintro e w' ⟨rfl, hb⟩
      exact ⟨_, rfl, hK _ _ rfl (Later.trans hC hb)⟩
    · -- 10: slot 13 := Op.binOp BinOp.add 9 t9 t12 9
      refine OwesS.q rfl fun a w j u hC hb hs => ⟨rfl, ?_⟩
      have e9 : a.tmps.getD 9 undef = .string (mkS j9) := hs.dep 6 _ rfl rfl
      have e12 : a.tmps.getD 12 undef = .string (mkS tn) := hs.dep 9 _ rfl rfl
      have hz := HZj13.out.1
      have hq := HZj13.out.2
      refine ValWp.pure (v := .string (mkS j13)) (fun K' hK' => ?_) ⟨rfl, rfl⟩
      simp only [ValWp, execOp, Act.eval, e9, e12]
      go_simp
      all_goals exact hK'
    · -- 11: slot 14 := Op.fieldAddr 36 t1 3
      refine OwesS.q rfl fun a w j u hC hb hs => ⟨rfl, ?_⟩
      have e1 : a.tmps.getD 1 undef = .pointer (some ⟨W.heap.size, 0, none⟩) := hs.free 1 rfl
      refine ValWp.pure (v := .pointer (some ⟨W.heap.size, 3, none⟩)) (fun K' hK' => ?_) ⟨rfl, rfl⟩
      simp only [ValWp, execOp, Act.eval, e1]
      go_simp
      all_goals exact hK'
    · -- 12: slot 15 := Op.load 2 t14
      refine OwesS.q rfl fun a w j u hC hb hs => ⟨rfl, ?_⟩
      have e14 : a.tmps.getD 14 undef = .pointer (some ⟨W.heap.size, 3, none⟩) := hs.dep 11 _ rfl rfl
      have q : w.cell? ⟨W.heap.size, 3, none⟩ = some (.int .i64 m) := (cell_row (later_cells (HWR.out.trans hC) HBX.out) 3).1
      refine ValWp.pure (v := .int .i64 m) (fun K' hK' => ?_) ⟨rfl, rfl⟩
      simp only [ValWp, execOp, Act.eval, e14]
      go_simp
      all_goals exact hK'
    · -- 13: slot 16 := Op.call { value (Operand.func 36), args := #[t15], argTypes := #[2] }
      refine OwesS.w rfl fun a w u hC hl hs => ⟨rfl, fun K hK => ?_⟩
      have e15 : a.tmps.getD 15 undef = .int .i64 m := hs.dep 12 _ rfl rfl
      refine wp_of_val ?_
      refine ValWp.call #[.int .i64 m] rfl rfl Try.func19 rfl rfl (by simp only [List.map_toArray, List.map_cons, List.map_nil, Act.eval, e15]) ?_
      refine (Htm.out w).mono ?_
      rintro e w' ⟨rfl, hb⟩
      exact ⟨_, rfl, hK _ _ rfl (Later.trans hC hb)⟩
    · -- 14: slot 17 := Op.binOp BinOp.add 9 t13 t16 9
      refine OwesS.q rfl fun a w j u hC hb hs => ⟨rfl, ?_⟩
      have e13 : a.tmps.getD 13 undef = .string (mkS j13) := hs.dep 10 _ rfl rfl
      have e16 : a.tmps.getD 16 undef = .string (mkS tm) := hs.dep 13 _ rfl rfl
      have hz := HZj17.out.1
      have hq := HZj17.out.2
      refine ValWp.pure (v := .string (mkS j17)) (fun K' hK' => ?_) ⟨rfl, rfl⟩
      simp only [ValWp, execOp, Act.eval, e13, e16]
      go_simp
      all_goals exact hK'
    · -- 15: slot 18 := Op.fieldAddr 36 t1 4
      refine OwesS.q rfl fun a w j u hC hb hs => ⟨rfl, ?_⟩
      have e1 : a.tmps.getD 1 undef = .pointer (some ⟨W.heap.size, 0, none⟩) := hs.free 1 rfl
      refine ValWp.pure (v := .pointer (some ⟨W.heap.size, 4, none⟩)) (fun K' hK' => ?_) ⟨rfl, rfl⟩
      simp only [ValWp, execOp, Act.eval, e1]
      go_simp
      all_goals exact hK'
    · -- 16: slot 19 := Op.load 9 t18
      refine OwesS.q rfl fun a w j u hC hb hs => ⟨rfl, ?_⟩
      have e18 : a.tmps.getD 18 undef = .pointer (some ⟨W.heap.size, 4, none⟩) := hs.dep 15 _ rfl rfl
      have q : w.cell? ⟨W.heap.size, 4, none⟩ = some (.string (mkS text)) := (cell_row (later_cells (HWR.out.trans hC) HBX.out) 4).1
      refine ValWp.pure (v := .string (mkS text)) (fun K' hK' => ?_) ⟨rfl, rfl⟩
      simp only [ValWp, execOp, Act.eval, e18]
      go_simp
      all_goals exact hK'
    · -- 17: slot 20 := Op.call { value (Operand.func 75), args := #[t19], argTypes := #[9] }
      refine OwesS.w rfl fun a w u hC hl hs => ⟨rfl, fun K hK => ?_⟩
      have e19 : a.tmps.getD 19 undef = .string (mkS text) := hs.dep 16 _ rfl rfl
      refine wp_of_val ?_
      refine ValWp.call #[.string (mkS text)] rfl rfl Try.func41 rfl rfl (by simp only [List.map_toArray, List.map_cons, List.map_nil, Act.eval, e19]) ?_
      refine (Httext.out w).mono ?_
      rintro e w' ⟨rfl, hb⟩
      exact ⟨_, rfl, hK _ _ rfl (Later.trans hC hb)⟩
    · -- 18: slot 21 := Op.binOp BinOp.add 9 t17 t20 9
      refine OwesS.q rfl fun a w j u hC hb hs => ⟨rfl, ?_⟩
      have e17 : a.tmps.getD 17 undef = .string (mkS j17) := hs.dep 14 _ rfl rfl
      have e20 : a.tmps.getD 20 undef = .string (mkS ttext) := hs.dep 17 _ rfl rfl
      have hz := HZj21.out.1
      have hq := HZj21.out.2
      refine ValWp.pure (v := .string (mkS j21)) (fun K' hK' => ?_) ⟨rfl, rfl⟩
      simp only [ValWp, execOp, Act.eval, e17, e20]
      go_simp
      all_goals exact hK'
    · -- 19: slot 22 := Op.fieldAddr 36 t1 5
      refine OwesS.q rfl fun a w j u hC hb hs => ⟨rfl, ?_⟩
      have e1 : a.tmps.getD 1 undef = .pointer (some ⟨W.heap.size, 0, none⟩) := hs.free 1 rfl
      refine ValWp.pure (v := .pointer (some ⟨W.heap.size, 5, none⟩)) (fun K' hK' => ?_) ⟨rfl, rfl⟩
      simp only [ValWp, execOp, Act.eval, e1]
      go_simp
      all_goals exact hK'
    · -- 20: slot 23 := Op.load 23 t22
      refine OwesS.q rfl fun a w j u hC hb hs => ⟨rfl, ?_⟩
      have e22 : a.tmps.getD 22 undef = .pointer (some ⟨W.heap.size, 5, none⟩) := hs.dep 19 _ rfl rfl
      have q : w.cell? ⟨W.heap.size, 5, none⟩ = some (.slice A nn c) := (cell_row (later_cells (HWR.out.trans hC) HBX.out) 5).1
      refine ValWp.pure (v := .slice A nn c) (fun K' hK' => ?_) ⟨rfl, rfl⟩
      simp only [ValWp, execOp, Act.eval, e22]
      go_simp
      all_goals exact hK'
    · -- 21: slot 24 := Op.call { value (Operand.func 35), args := #[t23], argTypes := #[23] }
      refine OwesS.w rfl fun a w u hC hl hs => ⟨rfl, fun K hK => ?_⟩
      have e23 : a.tmps.getD 23 undef = .slice A nn c := hs.dep 20 _ rfl rfl
      refine wp_of_val ?_
      refine ValWp.call #[.slice A nn c] rfl rfl Try.func18 rfl rfl (by simp only [List.map_toArray, List.map_cons, List.map_nil, Act.eval, e23]) ?_
      refine (Htlist.out w (HL1.out.trans hC)).mono ?_
      rintro e w' ⟨rfl, hb⟩
      exact ⟨_, rfl, hK _ _ rfl (Later.trans hC hb)⟩
    · -- 22: slot 25 := Op.binOp BinOp.add 9 t21 t24 9
      refine OwesS.q rfl fun a w j u hC hb hs => ⟨rfl, ?_⟩
      have e21 : a.tmps.getD 21 undef = .string (mkS j21) := hs.dep 18 _ rfl rfl
      have e24 : a.tmps.getD 24 undef = .string (mkS tlist) := hs.dep 21 _ rfl rfl
      have hz := HZj25.out.1
      have hq := HZj25.out.2
      refine ValWp.pure (v := .string (mkS j25)) (fun K' hK' => ?_) ⟨rfl, rfl⟩
      simp only [ValWp, execOp, Act.eval, e21, e24]
      go_simp
      all_goals exact hK'
    · -- 23: slot 26 := Op.fieldAddr 36 t1 6
      refine OwesS.q rfl fun a w j u hC hb hs => ⟨rfl, ?_⟩
      have e1 : a.tmps.getD 1 undef = .pointer (some ⟨W.heap.size, 0, none⟩) := hs.free 1 rfl
      refine ValWp.pure (v := .pointer (some ⟨W.heap.size, 6, none⟩)) (fun K' hK' => ?_) ⟨rfl, rfl⟩
      simp only [ValWp, execOp, Act.eval, e1]
      go_simp
      all_goals exact hK'
    · -- 24: slot 27 := Op.load 3 t26
      refine OwesS.q rfl fun a w j u hC hb hs => ⟨rfl, ?_⟩
      have e26 : a.tmps.getD 26 undef = .pointer (some ⟨W.heap.size, 6, none⟩) := hs.dep 23 _ rfl rfl
      have q : w.cell? ⟨W.heap.size, 6, none⟩ = some (.int .i64 sig) := (cell_row (later_cells (HWR.out.trans hC) HBX.out) 6).1
      refine ValWp.pure (v := .int .i64 sig) (fun K' hK' => ?_) ⟨rfl, rfl⟩
      simp only [ValWp, execOp, Act.eval, e26]
      go_simp
      all_goals exact hK'
    · -- 25: slot 28 := Op.call { value (Operand.func 36), args := #[t27], argTypes := #[2] }
      refine OwesS.w rfl fun a w u hC hl hs => ⟨rfl, fun K hK => ?_⟩
      have e27 : a.tmps.getD 27 undef = .int .i64 sig := hs.dep 24 _ rfl rfl
      refine wp_of_val ?_
      refine ValWp.call #[.int .i64 sig] rfl rfl Try.func19 rfl rfl (by simp only [List.map_toArray, List.map_cons, List.map_nil, Act.eval, e27]) ?_
      refine (Htsig.out w).mono ?_
      rintro e w' ⟨rfl, hb⟩
      exact ⟨_, rfl, hK _ _ rfl (Later.trans hC hb)⟩
    · -- 26: slot 29 := Op.binOp BinOp.add 9 t25 t28 9
      refine OwesS.q rfl fun a w j u hC hb hs => ⟨rfl, ?_⟩
      have e25 : a.tmps.getD 25 undef = .string (mkS j25) := hs.dep 22 _ rfl rfl
      have e28 : a.tmps.getD 28 undef = .string (mkS tsig) := hs.dep 25 _ rfl rfl
      have hz := HZj29.out.1
      have hq := HZj29.out.2
      refine ValWp.pure (v := .string (mkS j29)) (fun K' hK' => ?_) ⟨rfl, rfl⟩
      simp only [ValWp, execOp, Act.eval, e25, e28]
      go_simp
      all_goals exact hK'
    · -- 27: slot 2 := Op.assign t29
      refine OwesS.q rfl fun a w j u hC hb hs => ⟨rfl, ?_⟩
      have e29 : a.tmps.getD 29 undef = .string (mkS j29) := hs.dep 26 _ rfl rfl
      refine ValWp.pure (v := .string (mkS j29)) (fun K' hK' => ?_) ⟨rfl, rfl⟩
      simp only [ValWp, execOp, Act.eval, e29]
      go_simp
      all_goals exact hK'
  · intro a w u hC hl hd hsz hfree hs
    obtain ⟨u3, hu3⟩ : ∃ u, u = a.tmps.getD 3 undef := ⟨_, rfl⟩
    obtain ⟨u4, hu4⟩ : ∃ u, u = a.tmps.getD 4 undef := ⟨_, rfl⟩
    obtain ⟨u5, hu5⟩ : ∃ u, u = a.tmps.getD 5 undef := ⟨_, rfl⟩
    obtain ⟨u6, hu6⟩ : ∃ u, u = a.tmps.getD 6 undef := ⟨_, rfl⟩
    obtain ⟨u7, hu7⟩ : ∃ u, u = a.tmps.getD 7 undef := ⟨_, rfl⟩
    obtain ⟨u8, hu8⟩ : ∃ u, u = a.tmps.getD 8 undef := ⟨_, rfl⟩
    obtain ⟨u9, hu9⟩ : ∃ u, u = a.tmps.getD 9 undef := ⟨_, rfl⟩
    obtain ⟨u10, hu10⟩ : ∃ u, u = a.tmps.getD 10 undef := ⟨_, rfl⟩
    obtain ⟨u11, hu11⟩ : ∃ u, u = a.tmps.getD 11 undef := ⟨_, rfl⟩
    obtain ⟨u12, hu12⟩ : ∃ u, u = a.tmps.getD 12 undef := ⟨_, rfl⟩
    obtain ⟨u13, hu13⟩ : ∃ u, u = a.tmps.getD 13 undef := ⟨_, rfl⟩
    obtain ⟨u14, hu14⟩ : ∃ u, u = a.tmps.getD 14 undef := ⟨_, rfl⟩
    obtain ⟨u15, hu15⟩ : ∃ u, u = a.tmps.getD 15 undef := ⟨_, rfl⟩
    obtain ⟨u16, hu16⟩ : ∃ u, u = a.tmps.getD 16 undef := ⟨_, rfl⟩
    obtain ⟨u17, hu17⟩ : ∃ u, u = a.tmps.getD 17 undef := ⟨_, rfl⟩
    obtain ⟨u18, hu18⟩ : ∃ u, u = a.tmps.getD 18 undef := ⟨_, rfl⟩
    obtain ⟨u19, hu19⟩ : ∃ u, u = a.tmps.getD 19 undef := ⟨_, rfl⟩
    obtain ⟨u20, hu20⟩ : ∃ u, u = a.tmps.getD 20 undef := ⟨_, rfl⟩
    obtain ⟨u21, hu21⟩ : ∃ u, u = a.tmps.getD 21 undef := ⟨_, rfl⟩
    obtain ⟨u22, hu22⟩ : ∃ u, u = a.tmps.getD 22 undef := ⟨_, rfl⟩
    obtain ⟨u23, hu23⟩ : ∃ u, u = a.tmps.getD 23 undef := ⟨_, rfl⟩
    obtain ⟨u24, hu24⟩ : ∃ u, u = a.tmps.getD 24 undef := ⟨_, rfl⟩
    obtain ⟨u25, hu25⟩ : ∃ u, u = a.tmps.getD 25 undef := ⟨_, rfl⟩
    obtain ⟨u26, hu26⟩ : ∃ u, u = a.tmps.getD 26 undef := ⟨_, rfl⟩
    obtain ⟨u27, hu27⟩ : ∃ u, u = a.tmps.getD 27 undef := ⟨_, rfl⟩
    obtain ⟨u28, hu28⟩ : ∃ u, u = a.tmps.getD 28 undef := ⟨_, rfl⟩
    obtain ⟨u29, hu29⟩ : ∃ u, u = a.tmps.getD 29 undef := ⟨_, rfl⟩
    have hal : AllAt a 0 [_, _, .string (mkS j29), u3, u4, u5, u6, u7, u8, u9, u10, u11, u12, u13, u14, u15, u16, u17, u18, u19, u20, u21, u22, u23, u24, u25, u26, u27, u28, u29] := ⟨hfree 0 rfl, hfree 1 rfl, hs 27 _ rfl, hu3.symm, hu4.symm, hu5.symm, hu6.symm, hu7.symm, hu8.symm, hu9.symm, hu10.symm, hu11.symm, hu12.symm, hu13.symm, hu14.symm, hu15.symm, hu16.symm, hu17.symm, hu18.symm, hu19.symm, hu20.symm, hu21.symm, hu22.symm, hu23.symm, hu24.symm, hu25.symm, hu26.symm, hu27.symm, hu28.symm, hu29.symm, trivial⟩
    have hlit := fun h => act_lit hd h hal
    rw [hlit hsz]
    simp only [Array.getD_eq_getD_getElem?, List.getElem?_toArray, List.getElem?_cons_zero, List.getElem?_cons_succ, Option.getD_some]
    clear hlit hal hd hsz hfree hs hu3 hu4 hu5 hu6 hu7 hu8 hu9 hu10 hu11 hu12 hu13 hu14 hu15 hu16 hu17 hu18 hu19 hu20 hu21 hu22 hu23 hu24 hu25 hu26 hu27 hu28 hu29
    go_wp2
    go_ret
    exact ⟨by rw [← HEND.out]; rfl, HL1.out.trans hC⟩
end Ks
end Go.Proofs.Yteljmlodbnfhbaa
