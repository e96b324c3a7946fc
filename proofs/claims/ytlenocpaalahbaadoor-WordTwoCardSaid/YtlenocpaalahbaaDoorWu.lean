/- The row of parts: a text is closed, a part is added, a text is put. No premises. -/
import Derived.Test.YtlenocpaalahbaaDoorWt
namespace Go.Proofs.YtlenocpaalahbaaDoor
open Go.RowKit Go.Maps
namespace Ws
section
variable {W W' : World} {X T : Nat → Prop} {g s dp : Nat} {raw : L} {r : Wd.R} {x : Wd.S}
/-- What a row's call leaves. -/
def RowR (W : World) (X T : Nat → Prop) (g s : Nat) (raw : L) (dp : Nat) (r : Wd.R) (x : Wd.S) (e : Ending) (W' : World) : Prop := e = .returned (.tuple #[]) ∧ RMT W' X T g s raw dp r x ∧ Fr (un X T) W W'
theorem sv_def (l : L) : sv l = .string (mkS l) := rfl
set_option maxHeartbeats 1600000 in
set_option maxRecDepth 100000 in
theorem close_v (h : RMT W X T g s raw dp r x) (hlen : r.ps.length ≤ 100000000) : Calls Tryd.prog 23 #[.pointer (some ⟨g, 0, none⟩)] W (RowR W X T g s raw dp (Wd.close r) x) := by
  obtain ⟨vp, vt, nd, h⟩ := h
  by_cases hk : 0 < r.k
  · have e1 : Wd.close r = ⟨r.ps ++ [.mk r.k r.t [] false []], 0, []⟩ := by unfold Wd.close; rw [if_pos hk]
    rw [e1]
    obtain ⟨v', b, C, hp⟩ := push h (.mk r.k r.t [] false [], .slice none 0 0) (.nil _ _) (by rw [h.len]; omega)
    obtain ⟨k4, hv4, hk4⟩ := hp.v
    obtain ⟨A0, k0, rfl, hk0⟩ := own_any h.row
    obtain ⟨A1, k1, rfl, hk1⟩ := own_any h.txt
    have hlen2 := h.len
    obtain ⟨m0, hm0⟩ : ∃ m0, m0 = nd.length := ⟨_, rfl⟩
    obtain ⟨n1, hn1⟩ : ∃ n1, n1 = r.t.length := ⟨_, rfl⟩
    obtain ⟨kk, hkk⟩ : ∃ kk, kk = r.k := ⟨_, rfl⟩
    subst hv4
    have hrd : Rd W W.heap.size A1 r.t.length (r.t.map bv) := Rd.of_own (h.txt)
    obtain ⟨w1, hw1⟩ : ∃ w1, w1 = W := ⟨_, rfl⟩
    have HS := Lib.hid (show ∀ w, Later w1 w → (convert 36 9 (.slice A1 n1 k1)).run Tryd.prog w = .ok (.string (mkS r.t)) w from fun w hl => by
      rw [hn1]
      rw [hw1] at hl
      exact run_str_of ((hrd.below hl).more hl.size) _ _ 5 Tryd.underlying36 Tryd.underlying5 Tryd.underlying9 k1)
    have HF := Lib.hid (show ∀ w, Later w1 w → w.cell? ⟨g, 0, none⟩ = some (.slice A0 m0 k0) ∧ w.cell? ⟨g, 1, none⟩ = some (.int .i64 (kk : Int)) ∧ w.cell? ⟨g, 2, none⟩ = some (.slice A1 n1 k1) from fun w hl => by
      rw [hw1] at hl
      have := (h.later hl).facts.1
      rw [hm0, hn1, hkk]
      exact ⟨this.1, this.2.1, this.2.2.1⟩)
    have c1 := (HF.out w1 (Later.refl w1)).2.1
    rw [hw1] at c1
    rw [← hm0] at hp
    obtain ⟨PC, hPC⟩ : ∃ PC : Array Value, PC = #[.int .i64 (kk : Int), .string (mkS r.t), .string ⟨#[]⟩, .bool false, .slice none 0 0] := ⟨_, rfl⟩
    have HONE := Lib.hid (show PC.all (·.oneCell') = true by rw [hPC]; simp [Value.oneCell'])
    have hpc : pcs (.mk r.k r.t [] false [], .slice none 0 0) = PC.toList := by rw [hPC, hkk]; rfl
    rw [hpc] at hp
    have hps : PC.size = 5 := by rw [hPC]; rfl
    rw [← hw1] at hp
    have HP := Lib.hid hp
    have HM := Lib.hid (show (0 : Int) ≤ (m0 : Int) ∧ (m0 : Int) < (m0 : Int) + 1 by omega)
    have hkp : (0 : Int) < (kk : Int) := by omega
    have HW := Lib.hid hw1
    have HPC := Lib.hid hPC
    clear hw1 h hp hk hk0 hk1 hk4 hm0 hn1 hkk hlen hlen2 hrd e1 hpc hPC
    go_enter Tryd.func23, Tryd.ntmps23
    go_wp2
    rw [← HW.out]
    refine wp_region_bits (by kernel_rfl) [15, 16, 18, 21] (C) [some (.pointer (some ⟨g, 0, none⟩)), some (.pointer (some ⟨g, 0, none⟩)), some (.pointer (some ⟨g, 0, none⟩)), some (.slice A0 m0 k0), some (.pointer (some ⟨g, 0, none⟩)), some (.pointer (some ⟨g, 0, none⟩)), some (.pointer (some ⟨g, 1, none⟩)), some (.int .i64 (kk : Int)), some (.pointer (some ⟨g, 0, none⟩)), some (.pointer (some ⟨g, 0, none⟩)), some (.pointer (some ⟨g, 2, none⟩)), some (.slice A1 n1 k1), some (.string (mkS r.t)), some (.agg PC), some (.int .i64 (m0 : Int)), some (.slice (some ⟨w1.drew.heap.size, 0, none⟩) 1 1), some (.slice (some ⟨b, 0, none⟩) (m0 + 1) k4), some (.pointer (some ⟨b, m0 * 5, none⟩)), none, some (.pointer (some ⟨g, 0, none⟩)), some (.pointer (some ⟨g, 0, none⟩)), none] (by decide) (by decide) (by kernel_rfl) (HP.out.c0) ?_ ?_
    · refine ⟨?_, ?_, ?_, ?_, ?_, ?_, ?_, ?_, ?_, ?_, ?_, ?_, ?_, ?_, ?_, ?_, ?_, ?_, ?_, ?_, ?_, ?_, trivial⟩
      · -- 0: slot 7 := Op.move t0
        refine OwesB.q rfl fun a w bits hC hd hu hs => ⟨rfl, ?_⟩
        have e0 : a.tmps.getD 0 undef = .pointer (some ⟨g, 0, none⟩) := hs.free 0 rfl
        refine ValWp.pure (v := .pointer (some ⟨g, 0, none⟩)) (fun K' hK' => ?_) ⟨rfl, rfl⟩
        simp only [ValWp, execOp, Act.eval, e0]
        go_simp
        all_goals exact hK'
      · -- 1: slot 8 := Op.nilCheck t7
        refine OwesB.q rfl fun a w bits hC hd hu hs => ⟨rfl, ?_⟩
        have e7 : a.tmps.getD 7 undef = .pointer (some ⟨g, 0, none⟩) := hs.dep 0 _ rfl rfl
        refine ValWp.pure (v := .pointer (some ⟨g, 0, none⟩)) (fun K' hK' => ?_) ⟨rfl, rfl⟩
        simp only [ValWp, execOp, Act.eval, e7]
        go_simp
        all_goals exact hK'
      · -- 2: slot 9 := Op.fieldAddr 38 t8 0
        refine OwesB.q rfl fun a w bits hC hd hu hs => ⟨rfl, ?_⟩
        have e8 : a.tmps.getD 8 undef = .pointer (some ⟨g, 0, none⟩) := hs.dep 1 _ rfl rfl
        refine ValWp.pure (v := .pointer (some ⟨g, 0, none⟩)) (fun K' hK' => ?_) ⟨rfl, rfl⟩
        simp only [ValWp, execOp, Act.eval, e8]
        go_simp
        all_goals exact hK'
      · -- 3: slot 10 := Op.load 23 t9
        refine OwesB.q rfl fun a w bits hC hd hu hs => ⟨rfl, ?_⟩
        have e9 : a.tmps.getD 9 undef = .pointer (some ⟨g, 0, none⟩) := hs.dep 2 _ rfl rfl
        have q9 := HF.out w (HP.out.q bits w hC (hu 1 16 rfl (.inr rfl)))
        obtain ⟨q0, q1, q2⟩ := q9
        refine ValWp.pure (v := .slice A0 m0 k0) (fun K' hK' => ?_) ⟨rfl, rfl⟩
        simp only [ValWp, execOp, Act.eval, e9]
        go_simp
        all_goals exact hK'
      · -- 4: slot 11 := Op.move t0
        refine OwesB.q rfl fun a w bits hC hd hu hs => ⟨rfl, ?_⟩
        have e0 : a.tmps.getD 0 undef = .pointer (some ⟨g, 0, none⟩) := hs.free 0 rfl
        refine ValWp.pure (v := .pointer (some ⟨g, 0, none⟩)) (fun K' hK' => ?_) ⟨rfl, rfl⟩
        simp only [ValWp, execOp, Act.eval, e0]
        go_simp
        all_goals exact hK'
      · -- 5: slot 12 := Op.nilCheck t11
        refine OwesB.q rfl fun a w bits hC hd hu hs => ⟨rfl, ?_⟩
        have e11 : a.tmps.getD 11 undef = .pointer (some ⟨g, 0, none⟩) := hs.dep 4 _ rfl rfl
        refine ValWp.pure (v := .pointer (some ⟨g, 0, none⟩)) (fun K' hK' => ?_) ⟨rfl, rfl⟩
        simp only [ValWp, execOp, Act.eval, e11]
        go_simp
        all_goals exact hK'
      · -- 6: slot 13 := Op.fieldAddr 38 t12 1
        refine OwesB.q rfl fun a w bits hC hd hu hs => ⟨rfl, ?_⟩
        have e12 : a.tmps.getD 12 undef = .pointer (some ⟨g, 0, none⟩) := hs.dep 5 _ rfl rfl
        refine ValWp.pure (v := .pointer (some ⟨g, 1, none⟩)) (fun K' hK' => ?_) ⟨rfl, rfl⟩
        simp only [ValWp, execOp, Act.eval, e12]
        go_simp
        all_goals exact hK'
      · -- 7: slot 14 := Op.load 3 t13
        refine OwesB.q rfl fun a w bits hC hd hu hs => ⟨rfl, ?_⟩
        have e13 : a.tmps.getD 13 undef = .pointer (some ⟨g, 1, none⟩) := hs.dep 6 _ rfl rfl
        have q9 := HF.out w (HP.out.q bits w hC (hu 1 16 rfl (.inr rfl)))
        obtain ⟨q0, q1, q2⟩ := q9
        refine ValWp.pure (v := .int .i64 (kk : Int)) (fun K' hK' => ?_) ⟨rfl, rfl⟩
        simp only [ValWp, execOp, Act.eval, e13]
        go_simp
        all_goals exact hK'
      · -- 8: slot 15 := Op.move t0
        refine OwesB.q rfl fun a w bits hC hd hu hs => ⟨rfl, ?_⟩
        have e0 : a.tmps.getD 0 undef = .pointer (some ⟨g, 0, none⟩) := hs.free 0 rfl
        refine ValWp.pure (v := .pointer (some ⟨g, 0, none⟩)) (fun K' hK' => ?_) ⟨rfl, rfl⟩
        simp only [ValWp, execOp, Act.eval, e0]
        go_simp
        all_goals exact hK'
      · -- 9: slot 16 := Op.nilCheck t15
        refine OwesB.q rfl fun a w bits hC hd hu hs => ⟨rfl, ?_⟩
        have e15 : a.tmps.getD 15 undef = .pointer (some ⟨g, 0, none⟩) := hs.dep 8 _ rfl rfl
        refine ValWp.pure (v := .pointer (some ⟨g, 0, none⟩)) (fun K' hK' => ?_) ⟨rfl, rfl⟩
        simp only [ValWp, execOp, Act.eval, e15]
        go_simp
        all_goals exact hK'
      · -- 10: slot 17 := Op.fieldAddr 38 t16 2
        refine OwesB.q rfl fun a w bits hC hd hu hs => ⟨rfl, ?_⟩
        have e16 : a.tmps.getD 16 undef = .pointer (some ⟨g, 0, none⟩) := hs.dep 9 _ rfl rfl
        refine ValWp.pure (v := .pointer (some ⟨g, 2, none⟩)) (fun K' hK' => ?_) ⟨rfl, rfl⟩
        simp only [ValWp, execOp, Act.eval, e16]
        go_simp
        all_goals exact hK'
      · -- 11: slot 18 := Op.load 36 t17
        refine OwesB.q rfl fun a w bits hC hd hu hs => ⟨rfl, ?_⟩
        have e17 : a.tmps.getD 17 undef = .pointer (some ⟨g, 2, none⟩) := hs.dep 10 _ rfl rfl
        have q9 := HF.out w (HP.out.q bits w hC (hu 1 16 rfl (.inr rfl)))
        obtain ⟨q0, q1, q2⟩ := q9
        refine ValWp.pure (v := .slice A1 n1 k1) (fun K' hK' => ?_) ⟨rfl, rfl⟩
        simp only [ValWp, execOp, Act.eval, e17]
        go_simp
        all_goals exact hK'
      · -- 12: slot 19 := Op.convert 36 9 t18
        refine OwesB.q rfl fun a w bits hC hd hu hs => ⟨rfl, ?_⟩
        have e18 : a.tmps.getD 18 undef = .slice A1 n1 k1 := hs.dep 11 _ rfl rfl
        have q9 := HS.out w (HP.out.q bits w hC (hu 1 16 rfl (.inr rfl)))
        refine ValWp.pure (v := .string (mkS r.t)) (fun K' hK' => ?_) ⟨rfl, rfl⟩
        simp only [ValWp, execOp, Act.eval, e18]
        simp only [Sem.run_bind, q9, Result.andThen_ok, Sem.run_pure]
        exact hK'
      · -- 13: slot 20 := Op.build 28 #[(0, t14), (1, t19)]
        refine OwesB.q rfl fun a w bits hC hd hu hs => ⟨rfl, ?_⟩
        have e14 : a.tmps.getD 14 undef = .int .i64 (kk : Int) := hs.dep 7 _ rfl rfl
        have e19 : a.tmps.getD 19 undef = .string (mkS r.t) := hs.dep 12 _ rfl rfl
        refine ValWp.pure (v := .agg PC) (fun K' hK' => ?_) ⟨rfl, rfl⟩
        rw [HPC.out] at hK'
        simp only [ValWp, execOp, Act.eval, List.map_toArray, List.map_cons, List.map_nil, e14, e19]
        go_simp
        all_goals exact hK'
      · -- 14: slot 21 := Op.call { builtin len, args := #[t10], argTypes := #[23] }
        refine OwesB.q rfl fun a w bits hC hd hu hs => ⟨rfl, ?_⟩
        have e10 : a.tmps.getD 10 undef = .slice A0 m0 k0 := hs.dep 3 _ rfl rfl
        refine ValWp.pure (v := .int .i64 (m0 : Int)) (fun K' hK' => ?_) ⟨rfl, rfl⟩
        simp only [ValWp, execOp, Act.eval, e10]
        go_simp
        all_goals exact hK'
      · -- 15: slot 22 := Op.buildSlice 23 1 #[(0, const (Value.agg #[0:i64, Value.string { data := #[] }, Value.string { data := #[] }, Value.bool false, Value.slice none 0 0]))]
        refine fun a w bits hC hd hu hs => ⟨rfl, fun K hK => ?_⟩
        obtain ⟨b0, b1, b2, b3, rfl, i2, i3, i1⟩ := HP.out.len bits w hC
        have h0 := hu 0 15 rfl (.inl rfl)
        simp only [List.getElem?_cons_zero, Option.some.injEq] at h0
        subst h0
        have h1 : b1 = false := by cases b1 with | false => rfl | true => exact absurd (i1 rfl) (by simp)
        subst h1
        have h2 : b2 = false := by cases b2 with | false => rfl | true => exact absurd (i2 rfl) (by simp)
        subst h2
        have h3 : b3 = false := by cases b3 with | false => rfl | true => exact absurd (i3 rfl) (by simp)
        subst h3
        have hw := HP.out.a0 w hC
        subst hw
        refine wp_of_val ?_
        refine ValWp.pure (v := .slice (some ⟨w1.drew.heap.size, 0, none⟩) 1 1) (w' := w1.drew.alloc (.cells zp.toArray 28)) (fun K' hK' => ?_) (hK _ _ rfl HP.out.c1)
        simp only [ValWp, execOp, Act.eval, List.map_toArray, List.map_cons, List.map_nil]
        go_simp
        all_goals exact hK'
      · -- 16: slot 23 := Op.call { builtin append, args := #[t10, t22], argTypes := #[23, 23] }
        refine fun a w bits hC hd hu hs => ⟨rfl, fun K hK => ?_⟩
        have e10 : a.tmps.getD 10 undef = .slice A0 m0 k0 := hs.dep 3 _ rfl rfl
        have e22 : a.tmps.getD 22 undef = .slice (some ⟨w1.drew.heap.size, 0, none⟩) 1 1 := hs.dep 15 _ rfl rfl
        obtain ⟨b0, b1, b2, b3, rfl, i2, i3, i1⟩ := HP.out.len bits w hC
        have h0 := hd 0 15 rfl rfl
        have h1 := hu 1 16 rfl (.inl rfl)
        simp only [List.getElem?_cons_zero, List.getElem?_cons_succ, Option.some.injEq] at h0 h1
        subst h0 h1
        have h2 : b2 = false := by cases b2 with | false => rfl | true => exact absurd (i2 rfl) (by simp)
        subst h2
        have h3 : b3 = false := by cases b3 with | false => rfl | true => exact absurd (i3 rfl) (by simp)
        subst h3
        obtain ⟨w', hrun, h4⟩ := HP.out.a1 w hC
        exact owes_append hrun rfl e10 e22 (hK _ w' rfl h4)
      · -- 17: slot 24 := Op.indexAddr 23 t23 t21
        refine OwesB.q rfl fun a w bits hC hd hu hs => ⟨rfl, ?_⟩
        have e23 : a.tmps.getD 23 undef = .slice (some ⟨b, 0, none⟩) (m0 + 1) k4 := hs.dep 16 _ rfl rfl
        have e21 : a.tmps.getD 21 undef = .int .i64 (m0 : Int) := hs.dep 14 _ rfl rfl
        have g1 := HM.out
        refine ValWp.pure (v := .pointer (some ⟨b, m0 * 5, none⟩)) (fun K' hK' => ?_) ⟨rfl, rfl⟩
        simp only [ValWp, execOp, Act.eval, e23, e21]
        go_simp
        all_goals exact hK'
      · -- 18: slot None := Op.store 28 t24 t20
        refine fun a w bits hC hd hu hs => ⟨rfl, fun K hK => ?_⟩
        have e24 : a.tmps.getD 24 undef = .pointer (some ⟨b, m0 * 5, none⟩) := hs.dep 17 _ rfl rfl
        have e20 : a.tmps.getD 20 undef = .agg PC := hs.dep 13 _ rfl rfl
        obtain ⟨b0, b1, b2, b3, rfl, i2, i3, i1⟩ := HP.out.len bits w hC
        have h1 := hd 1 16 rfl rfl
        have h2 := hu 2 18 rfl (.inl rfl)
        simp only [List.getElem?_cons_zero, List.getElem?_cons_succ, Option.some.injEq] at h1 h2
        subst h1 h2
        have h0 := i1 rfl
        subst h0
        obtain ⟨hth, h4⟩ := HP.out.s2 w b3 hC
        refine wp_store_mid 28 (.tmp 24) (.tmp 20) rfl b (m0 * 5) PC e24 e20 (by rw [hps]; exact hth) (by rw [hps]; exact size_part) HONE.out ?_
        exact hK undef _ trivial h4
      · -- 19: slot 25 := Op.nilCheck t7
        refine OwesB.q rfl fun a w bits hC hd hu hs => ⟨rfl, ?_⟩
        have e7 : a.tmps.getD 7 undef = .pointer (some ⟨g, 0, none⟩) := hs.dep 0 _ rfl rfl
        refine ValWp.pure (v := .pointer (some ⟨g, 0, none⟩)) (fun K' hK' => ?_) ⟨rfl, rfl⟩
        simp only [ValWp, execOp, Act.eval, e7]
        go_simp
        all_goals exact hK'
      · -- 20: slot 26 := Op.fieldAddr 38 t25 0
        refine OwesB.q rfl fun a w bits hC hd hu hs => ⟨rfl, ?_⟩
        have e25 : a.tmps.getD 25 undef = .pointer (some ⟨g, 0, none⟩) := hs.dep 19 _ rfl rfl
        refine ValWp.pure (v := .pointer (some ⟨g, 0, none⟩)) (fun K' hK' => ?_) ⟨rfl, rfl⟩
        simp only [ValWp, execOp, Act.eval, e25]
        go_simp
        all_goals exact hK'
      · -- 21: slot None := Op.store 23 t26 t23
        refine fun a w bits hC hd hu hs => ⟨rfl, fun K hK => ?_⟩
        have e26 : a.tmps.getD 26 undef = .pointer (some ⟨g, 0, none⟩) := hs.dep 20 _ rfl rfl
        have e23 : a.tmps.getD 23 undef = .slice (some ⟨b, 0, none⟩) (m0 + 1) k4 := hs.dep 16 _ rfl rfl
        obtain ⟨b0, b1, b2, b3, rfl, i2, i3, i1⟩ := HP.out.len bits w hC
        have h1 := hd 1 16 rfl rfl
        have h3 := hu 3 21 rfl (.inl rfl)
        simp only [List.getElem?_cons_zero, List.getElem?_cons_succ, Option.some.injEq] at h1 h3
        subst h1 h3
        have h0 := i1 rfl
        subst h0
        obtain ⟨⟨q4, qz⟩, h4⟩ := HP.out.s3 w b2 hC
        refine wp_of_val ?_
        refine ValWp.pure (v := undef) (w' := w.setCell ⟨g, 0, none⟩ (.slice (some ⟨b, 0, none⟩) (m0 + 1) k4)) (fun K' hK' => ?_) (hK _ _ trivial h4)
        simp only [ValWp, execOp, Act.eval, e26, e23]
        go_simp
        all_goals exact hK'
    · intro a w hC hd hsz hfree hs
      obtain ⟨u1, hu1⟩ : ∃ u, u = a.tmps.getD 1 undef := ⟨_, rfl⟩
      obtain ⟨u2, hu2⟩ : ∃ u, u = a.tmps.getD 2 undef := ⟨_, rfl⟩
      obtain ⟨u3, hu3⟩ : ∃ u, u = a.tmps.getD 3 undef := ⟨_, rfl⟩
      obtain ⟨u4, hu4⟩ : ∃ u, u = a.tmps.getD 4 undef := ⟨_, rfl⟩
      obtain ⟨u5, hu5⟩ : ∃ u, u = a.tmps.getD 5 undef := ⟨_, rfl⟩
      obtain ⟨u6, hu6⟩ : ∃ u, u = a.tmps.getD 6 undef := ⟨_, rfl⟩
      obtain ⟨u7, hu7⟩ : ∃ u, u = a.tmps.getD 7 undef := ⟨_, rfl⟩
      obtain ⟨u8, hu8⟩ : ∃ u, u = a.tmps.getD 8 undef := ⟨_, rfl⟩
      obtain ⟨u9, hu9⟩ : ∃ u, u = a.tmps.getD 9 undef := ⟨_, rfl⟩
      obtain ⟨u10, hu10⟩ : ∃ u, u = a.tmps.getD 10 undef := ⟨_, rfl⟩
      obtain ⟨u11, hu11⟩ : ∃ u, u = a.tmps.getD 11 undef := ⟨_, rfl⟩
      obtain ⟨u12, hu12⟩ : ∃ u, u = a.tmps.getD 12 undef := ⟨_, rfl⟩
      obtain ⟨u13, hu13⟩ : ∃ u, u = a.tmps.getD 13 undef := ⟨_, rfl⟩
      obtain ⟨u14, hu14⟩ : ∃ u, u = a.tmps.getD 14 undef := ⟨_, rfl⟩
      obtain ⟨u15, hu15⟩ : ∃ u, u = a.tmps.getD 15 undef := ⟨_, rfl⟩
      obtain ⟨u16, hu16⟩ : ∃ u, u = a.tmps.getD 16 undef := ⟨_, rfl⟩
      obtain ⟨u17, hu17⟩ : ∃ u, u = a.tmps.getD 17 undef := ⟨_, rfl⟩
      obtain ⟨u18, hu18⟩ : ∃ u, u = a.tmps.getD 18 undef := ⟨_, rfl⟩
      obtain ⟨u19, hu19⟩ : ∃ u, u = a.tmps.getD 19 undef := ⟨_, rfl⟩
      obtain ⟨u20, hu20⟩ : ∃ u, u = a.tmps.getD 20 undef := ⟨_, rfl⟩
      obtain ⟨u21, hu21⟩ : ∃ u, u = a.tmps.getD 21 undef := ⟨_, rfl⟩
      obtain ⟨u22, hu22⟩ : ∃ u, u = a.tmps.getD 22 undef := ⟨_, rfl⟩
      obtain ⟨u23, hu23⟩ : ∃ u, u = a.tmps.getD 23 undef := ⟨_, rfl⟩
      obtain ⟨u24, hu24⟩ : ∃ u, u = a.tmps.getD 24 undef := ⟨_, rfl⟩
      obtain ⟨u25, hu25⟩ : ∃ u, u = a.tmps.getD 25 undef := ⟨_, rfl⟩
      obtain ⟨u26, hu26⟩ : ∃ u, u = a.tmps.getD 26 undef := ⟨_, rfl⟩
      obtain ⟨u27, hu27⟩ : ∃ u, u = a.tmps.getD 27 undef := ⟨_, rfl⟩
      obtain ⟨u28, hu28⟩ : ∃ u, u = a.tmps.getD 28 undef := ⟨_, rfl⟩
      obtain ⟨u29, hu29⟩ : ∃ u, u = a.tmps.getD 29 undef := ⟨_, rfl⟩
      obtain ⟨u30, hu30⟩ : ∃ u, u = a.tmps.getD 30 undef := ⟨_, rfl⟩
      obtain ⟨u31, hu31⟩ : ∃ u, u = a.tmps.getD 31 undef := ⟨_, rfl⟩
      obtain ⟨u32, hu32⟩ : ∃ u, u = a.tmps.getD 32 undef := ⟨_, rfl⟩
      have hal : AllAt a 0 [.pointer (some ⟨g, 0, none⟩), u1, u2, u3, u4, u5, u6, u7, u8, u9, u10, u11, u12, u13, u14, u15, u16, u17, u18, u19, u20, u21, u22, u23, u24, u25, u26, u27, u28, u29, u30, u31, u32] := ⟨hfree 0 rfl, hu1.symm, hu2.symm, hu3.symm, hu4.symm, hu5.symm, hu6.symm, hu7.symm, hu8.symm, hu9.symm, hu10.symm, hu11.symm, hu12.symm, hu13.symm, hu14.symm, hu15.symm, hu16.symm, hu17.symm, hu18.symm, hu19.symm, hu20.symm, hu21.symm, hu22.symm, hu23.symm, hu24.symm, hu25.symm, hu26.symm, hu27.symm, hu28.symm, hu29.symm, hu30.symm, hu31.symm, hu32.symm, trivial⟩
      have hlit := fun h => act_lit hd h hal
      rw [hlit hsz]
      clear hlit hal hd hsz hfree hs hu1 hu2 hu3 hu4 hu5 hu6 hu7 hu8 hu9 hu10 hu11 hu12 hu13 hu14 hu15 hu16 hu17 hu18 hu19 hu20 hu21 hu22 hu23 hu24 hu25 hu26 hu27 hu28 hu29 hu30 hu31 hu32
      obtain ⟨hm1, hf1⟩ := HP.out.f w hC
      obtain ⟨⟨d0, d1, d2, d3, d4⟩, dz⟩ := hm1.facts
      have HM1 := Lib.hid hm1
      have HF1 := Lib.hid hf1
      clear hm1 hf1 hC
      go_wp2
      go_end0
      have q1 := HM1.out.kind 0 (by omega)
      have q2 := q1.1.drop
      exact ⟨rfl, ⟨_, _, _, q2.1⟩, by rw [← HW.out]; exact HF1.out.trans (q1.2.trans q2.2)⟩
  · have e1 : Wd.close r = ⟨r.ps, 0, []⟩ := by unfold Wd.close; rw [if_neg hk]
    rw [e1]
    have hk0 : r.k = 0 := by omega
    obtain ⟨⟨c0, c1, c2, c3, c4⟩, hz⟩ := h.facts
    rw [hk0] at c1
    have H := Lib.hid h
    clear h e1 hk hk0
    go_enter Tryd.func23, Tryd.ntmps23
    go_wp2
    go_end0
    have q1 := H.out.kind 0 (by omega)
    have q2 := q1.1.drop
    exact ⟨rfl, ⟨_, _, _, q2.1⟩, q1.2.trans q2.2⟩
set_option maxHeartbeats 1600000 in
set_option maxRecDepth 100000 in
theorem add_v (h : RMT W X T g s raw dp r x) (p : Wd.P) (vw : Value) (hv : PsAt W T vw p.w) (hlen : r.ps.length ≤ 10000000) : Calls Tryd.prog 15 #[.pointer (some ⟨g, 0, none⟩), .agg #[.int .i64 (p.k : Int), .string (mkS p.t), .string (mkS p.o), .bool p.q, vw]] W (RowR W X T g s raw dp (Wd.add p r) x) := by
  obtain ⟨vp, vt, nd, h⟩ := h
  obtain ⟨PC, hPC⟩ : ∃ PC : Array Value, PC = #[.int .i64 (p.k : Int), .string (mkS p.t), .string (mkS p.o), .bool p.q, vw] := ⟨_, rfl⟩
  have hone : PC.all (·.oneCell') = true := by
    obtain ⟨_, A, c, e⟩ := hv.one
    rw [hPC, e]; simp [Value.oneCell']
  have hps : PC.size = 5 := by rw [hPC]; rfl
  have hpc : pcs (p, vw) = PC.toList := by rw [hPC]; rfl
  obtain ⟨wp, hwp⟩ : ∃ wp, wp = W.alloc (.cells PC 28) := ⟨_, rfl⟩
  obtain ⟨pb, hpb⟩ : ∃ pb, pb = W.heap.size := ⟨_, rfl⟩
  have hl : Later W wp := by rw [hwp]; exact Later.alloc _ _
  have hb : wp.heap[pb]? = some (.cells PC 28 (0, 0)) := by rw [hwp, hpb]; exact heap_alloc_new W _
  have h1 := h.more hl [pb] (by intro b hb2; simp at hb2; subst hb2; exact ⟨by omega, lt_of_block hb⟩)
  have hcl := close_v ⟨_, _, _, h1⟩ (by omega)
  have hvp : PsAt wp T vw p.w := hv.kept hl.size (fun b _ hlt => hl.block b hlt) fun _ hb => hb
  rw [← hPC]
  have HCL := Lib.hid hcl
  have HV := Lib.hid hvp
  have HL := Lib.hid hl
  have HBB := Lib.hid hb
  have HWP := Lib.hid hwp
  have HPB := Lib.hid hpb
  have HONE := Lib.hid hone
  have HOG := Lib.hid h.og
  have hcp : (Wd.close r).ps.length ≤ 100000000 := by unfold Wd.close; split <;> simp <;> omega
  clear hcl hvp hl hb h1 hPC hv h hone hwp hpb
  go_enter Tryd.func15, Tryd.ntmps15
  go_wp2_with (go_at_call 23; rw [← HWP.out, ← HPB.out]; (with_reducible refine HCL.out.mono ?_); rintro e w1 ⟨rfl, h2, hf1⟩)
  obtain ⟨vp1, vt1, nd1, h2⟩ := h2
  have hvk := HV.out.kept hf1.size (fun b hT hlt => hf1.block b hlt (.inr hT)) fun _ hb => hb
  obtain ⟨v', b, C, hp⟩ := push h2 (p, vw) hvk (by rw [h2.len]; omega)
  obtain ⟨k4, hv4, hk4⟩ := hp.v
  obtain ⟨A0, k0, rfl, hk0⟩ := own_any h2.row
  have hb1 : w1.heap[pb]? = some (.cells PC 28 (0, 0)) := (hf1.block pb (lt_of_block HBB.out) (.inl (.inr (by simp)))).trans HBB.out
  obtain ⟨m0, hm0⟩ : ∃ m0, m0 = nd1.length := ⟨_, rfl⟩
  subst hv4
  have HF := Lib.hid (show ∀ w, Later w1 w → w.cell? ⟨g, 0, none⟩ = some (.slice A0 m0 k0) ∧ True ∧ True from fun w hl => by
    have := (h2.later hl).facts.1
    rw [hm0]
    exact ⟨this.1, trivial, trivial⟩)
  have HB := Lib.hid (show ∀ w, Later w1 w → (Instr.loadAt 28 (.pointer (some ⟨pb, 0, none⟩))).run Tryd.prog w = .ok (.agg PC) w from fun w hl => loadO_run _ _ _ _ (later_cells hl hb1) Tryd.underlying28 rfl (by rw [hps]; exact size_part))
  rw [← hm0, hpc] at hp
  have HP := Lib.hid hp
  have HM := Lib.hid (show (0 : Int) ≤ (m0 : Int) ∧ (m0 : Int) < (m0 : Int) + 1 by omega)
  have HF1 := Lib.hid hf1
  clear h2 hp hvk hb1 hm0 hk0 hk4 hf1
  refine wp_region_bits (by kernel_rfl) [6, 7, 9, 12] (C) [some (.pointer (some ⟨g, 0, none⟩)), some (.pointer (some ⟨g, 0, none⟩)), some (.pointer (some ⟨g, 0, none⟩)), some (.slice A0 m0 k0), some (.agg PC), some (.int .i64 (m0 : Int)), some (.slice (some ⟨w1.drew.heap.size, 0, none⟩) 1 1), some (.slice (some ⟨b, 0, none⟩) (m0 + 1) k4), some (.pointer (some ⟨b, m0 * 5, none⟩)), none, some (.pointer (some ⟨g, 0, none⟩)), some (.pointer (some ⟨g, 0, none⟩)), none] (by decide) (by decide) (by kernel_rfl) (HP.out.c0) ?_ ?_
  · refine ⟨?_, ?_, ?_, ?_, ?_, ?_, ?_, ?_, ?_, ?_, ?_, ?_, ?_, trivial⟩
    · -- 0: slot 6 := Op.move t0
      refine OwesB.q rfl fun a w bits hC hd hu hs => ⟨rfl, ?_⟩
      have e0 : a.tmps.getD 0 undef = .pointer (some ⟨g, 0, none⟩) := hs.free 0 rfl
      refine ValWp.pure (v := .pointer (some ⟨g, 0, none⟩)) (fun K' hK' => ?_) ⟨rfl, rfl⟩
      simp only [ValWp, execOp, Act.eval, e0]
      go_simp
      all_goals exact hK'
    · -- 1: slot 7 := Op.nilCheck t6
      refine OwesB.q rfl fun a w bits hC hd hu hs => ⟨rfl, ?_⟩
      have e6 : a.tmps.getD 6 undef = .pointer (some ⟨g, 0, none⟩) := hs.dep 0 _ rfl rfl
      refine ValWp.pure (v := .pointer (some ⟨g, 0, none⟩)) (fun K' hK' => ?_) ⟨rfl, rfl⟩
      simp only [ValWp, execOp, Act.eval, e6]
      go_simp
      all_goals exact hK'
    · -- 2: slot 8 := Op.fieldAddr 38 t7 0
      refine OwesB.q rfl fun a w bits hC hd hu hs => ⟨rfl, ?_⟩
      have e7 : a.tmps.getD 7 undef = .pointer (some ⟨g, 0, none⟩) := hs.dep 1 _ rfl rfl
      refine ValWp.pure (v := .pointer (some ⟨g, 0, none⟩)) (fun K' hK' => ?_) ⟨rfl, rfl⟩
      simp only [ValWp, execOp, Act.eval, e7]
      go_simp
      all_goals exact hK'
    · -- 3: slot 9 := Op.load 23 t8
      refine OwesB.q rfl fun a w bits hC hd hu hs => ⟨rfl, ?_⟩
      have e8 : a.tmps.getD 8 undef = .pointer (some ⟨g, 0, none⟩) := hs.dep 2 _ rfl rfl
      have q9 := HF.out w (HP.out.q bits w hC (hu 1 7 rfl (.inr rfl)))
      obtain ⟨q0, q1, q2⟩ := q9
      refine ValWp.pure (v := .slice A0 m0 k0) (fun K' hK' => ?_) ⟨rfl, rfl⟩
      simp only [ValWp, execOp, Act.eval, e8]
      go_simp
      all_goals exact hK'
    · -- 4: slot 10 := Op.load 28 t3
      refine OwesB.q rfl fun a w bits hC hd hu hs => ⟨rfl, ?_⟩
      have e3 : a.tmps.getD 3 undef = .pointer (some ⟨pb, 0, none⟩) := hs.free 3 rfl
      exact ValWp.loadR rfl e3 (HB.out w (HP.out.q bits w hC (hu 1 7 rfl (.inr rfl)))) ⟨rfl, rfl⟩
    · -- 5: slot 11 := Op.call { builtin len, args := #[t9], argTypes := #[23] }
      refine OwesB.q rfl fun a w bits hC hd hu hs => ⟨rfl, ?_⟩
      have e9 : a.tmps.getD 9 undef = .slice A0 m0 k0 := hs.dep 3 _ rfl rfl
      refine ValWp.pure (v := .int .i64 (m0 : Int)) (fun K' hK' => ?_) ⟨rfl, rfl⟩
      simp only [ValWp, execOp, Act.eval, e9]
      go_simp
      all_goals exact hK'
    · -- 6: slot 12 := Op.buildSlice 23 1 #[(0, const (Value.agg #[0:i64, Value.string { data := #[] }, Value.string { data := #[] }, Value.bool false, Value.slice none 0 0]))]
      refine fun a w bits hC hd hu hs => ⟨rfl, fun K hK => ?_⟩
      obtain ⟨b0, b1, b2, b3, rfl, i2, i3, i1⟩ := HP.out.len bits w hC
      have h0 := hu 0 6 rfl (.inl rfl)
      simp only [List.getElem?_cons_zero, Option.some.injEq] at h0
      subst h0
      have h1 : b1 = false := by cases b1 with | false => rfl | true => exact absurd (i1 rfl) (by simp)
      subst h1
      have h2 : b2 = false := by cases b2 with | false => rfl | true => exact absurd (i2 rfl) (by simp)
      subst h2
      have h3 : b3 = false := by cases b3 with | false => rfl | true => exact absurd (i3 rfl) (by simp)
      subst h3
      have hw := HP.out.a0 w hC
      subst hw
      refine wp_of_val ?_
      refine ValWp.pure (v := .slice (some ⟨w1.drew.heap.size, 0, none⟩) 1 1) (w' := w1.drew.alloc (.cells zp.toArray 28)) (fun K' hK' => ?_) (hK _ _ rfl HP.out.c1)
      simp only [ValWp, execOp, Act.eval, List.map_toArray, List.map_cons, List.map_nil]
      go_simp
      all_goals exact hK'
    · -- 7: slot 13 := Op.call { builtin append, args := #[t9, t12], argTypes := #[23, 23] }
      refine fun a w bits hC hd hu hs => ⟨rfl, fun K hK => ?_⟩
      have e9 : a.tmps.getD 9 undef = .slice A0 m0 k0 := hs.dep 3 _ rfl rfl
      have e12 : a.tmps.getD 12 undef = .slice (some ⟨w1.drew.heap.size, 0, none⟩) 1 1 := hs.dep 6 _ rfl rfl
      obtain ⟨b0, b1, b2, b3, rfl, i2, i3, i1⟩ := HP.out.len bits w hC
      have h0 := hd 0 6 rfl rfl
      have h1 := hu 1 7 rfl (.inl rfl)
      simp only [List.getElem?_cons_zero, List.getElem?_cons_succ, Option.some.injEq] at h0 h1
      subst h0 h1
      have h2 : b2 = false := by cases b2 with | false => rfl | true => exact absurd (i2 rfl) (by simp)
      subst h2
      have h3 : b3 = false := by cases b3 with | false => rfl | true => exact absurd (i3 rfl) (by simp)
      subst h3
      obtain ⟨w', hrun, h4⟩ := HP.out.a1 w hC
      exact owes_append hrun rfl e9 e12 (hK _ w' rfl h4)
    · -- 8: slot 14 := Op.indexAddr 23 t13 t11
      refine OwesB.q rfl fun a w bits hC hd hu hs => ⟨rfl, ?_⟩
      have e13 : a.tmps.getD 13 undef = .slice (some ⟨b, 0, none⟩) (m0 + 1) k4 := hs.dep 7 _ rfl rfl
      have e11 : a.tmps.getD 11 undef = .int .i64 (m0 : Int) := hs.dep 5 _ rfl rfl
      have g1 := HM.out
      refine ValWp.pure (v := .pointer (some ⟨b, m0 * 5, none⟩)) (fun K' hK' => ?_) ⟨rfl, rfl⟩
      simp only [ValWp, execOp, Act.eval, e13, e11]
      go_simp
      all_goals exact hK'
    · -- 9: slot None := Op.store 28 t14 t10
      refine fun a w bits hC hd hu hs => ⟨rfl, fun K hK => ?_⟩
      have e14 : a.tmps.getD 14 undef = .pointer (some ⟨b, m0 * 5, none⟩) := hs.dep 8 _ rfl rfl
      have e10 : a.tmps.getD 10 undef = .agg PC := hs.dep 4 _ rfl rfl
      obtain ⟨b0, b1, b2, b3, rfl, i2, i3, i1⟩ := HP.out.len bits w hC
      have h1 := hd 1 7 rfl rfl
      have h2 := hu 2 9 rfl (.inl rfl)
      simp only [List.getElem?_cons_zero, List.getElem?_cons_succ, Option.some.injEq] at h1 h2
      subst h1 h2
      have h0 := i1 rfl
      subst h0
      obtain ⟨hth, h4⟩ := HP.out.s2 w b3 hC
      refine wp_store_mid 28 (.tmp 14) (.tmp 10) rfl b (m0 * 5) PC e14 e10 (by rw [hps]; exact hth) (by rw [hps]; exact size_part) HONE.out ?_
      exact hK undef _ trivial h4
    · -- 10: slot 15 := Op.nilCheck t6
      refine OwesB.q rfl fun a w bits hC hd hu hs => ⟨rfl, ?_⟩
      have e6 : a.tmps.getD 6 undef = .pointer (some ⟨g, 0, none⟩) := hs.dep 0 _ rfl rfl
      refine ValWp.pure (v := .pointer (some ⟨g, 0, none⟩)) (fun K' hK' => ?_) ⟨rfl, rfl⟩
      simp only [ValWp, execOp, Act.eval, e6]
      go_simp
      all_goals exact hK'
    · -- 11: slot 16 := Op.fieldAddr 38 t15 0
      refine OwesB.q rfl fun a w bits hC hd hu hs => ⟨rfl, ?_⟩
      have e15 : a.tmps.getD 15 undef = .pointer (some ⟨g, 0, none⟩) := hs.dep 10 _ rfl rfl
      refine ValWp.pure (v := .pointer (some ⟨g, 0, none⟩)) (fun K' hK' => ?_) ⟨rfl, rfl⟩
      simp only [ValWp, execOp, Act.eval, e15]
      go_simp
      all_goals exact hK'
    · -- 12: slot None := Op.store 23 t16 t13
      refine fun a w bits hC hd hu hs => ⟨rfl, fun K hK => ?_⟩
      have e16 : a.tmps.getD 16 undef = .pointer (some ⟨g, 0, none⟩) := hs.dep 11 _ rfl rfl
      have e13 : a.tmps.getD 13 undef = .slice (some ⟨b, 0, none⟩) (m0 + 1) k4 := hs.dep 7 _ rfl rfl
      obtain ⟨b0, b1, b2, b3, rfl, i2, i3, i1⟩ := HP.out.len bits w hC
      have h1 := hd 1 7 rfl rfl
      have h3 := hu 3 12 rfl (.inl rfl)
      simp only [List.getElem?_cons_zero, List.getElem?_cons_succ, Option.some.injEq] at h1 h3
      subst h1 h3
      have h0 := i1 rfl
      subst h0
      obtain ⟨⟨q4, qz⟩, h4⟩ := HP.out.s3 w b2 hC
      refine wp_of_val ?_
      refine ValWp.pure (v := undef) (w' := w.setCell ⟨g, 0, none⟩ (.slice (some ⟨b, 0, none⟩) (m0 + 1) k4)) (fun K' hK' => ?_) (hK _ _ trivial h4)
      simp only [ValWp, execOp, Act.eval, e16, e13]
      go_simp
      all_goals exact hK'
  · intro a w hC hd hsz hfree hs
    obtain ⟨u1, hu1⟩ : ∃ u, u = a.tmps.getD 1 undef := ⟨_, rfl⟩
    obtain ⟨u2, hu2⟩ : ∃ u, u = a.tmps.getD 2 undef := ⟨_, rfl⟩
    obtain ⟨u4, hu4⟩ : ∃ u, u = a.tmps.getD 4 undef := ⟨_, rfl⟩
    obtain ⟨u5, hu5⟩ : ∃ u, u = a.tmps.getD 5 undef := ⟨_, rfl⟩
    obtain ⟨u6, hu6⟩ : ∃ u, u = a.tmps.getD 6 undef := ⟨_, rfl⟩
    obtain ⟨u7, hu7⟩ : ∃ u, u = a.tmps.getD 7 undef := ⟨_, rfl⟩
    obtain ⟨u8, hu8⟩ : ∃ u, u = a.tmps.getD 8 undef := ⟨_, rfl⟩
    obtain ⟨u9, hu9⟩ : ∃ u, u = a.tmps.getD 9 undef := ⟨_, rfl⟩
    obtain ⟨u10, hu10⟩ : ∃ u, u = a.tmps.getD 10 undef := ⟨_, rfl⟩
    obtain ⟨u11, hu11⟩ : ∃ u, u = a.tmps.getD 11 undef := ⟨_, rfl⟩
    obtain ⟨u12, hu12⟩ : ∃ u, u = a.tmps.getD 12 undef := ⟨_, rfl⟩
    obtain ⟨u13, hu13⟩ : ∃ u, u = a.tmps.getD 13 undef := ⟨_, rfl⟩
    obtain ⟨u14, hu14⟩ : ∃ u, u = a.tmps.getD 14 undef := ⟨_, rfl⟩
    obtain ⟨u15, hu15⟩ : ∃ u, u = a.tmps.getD 15 undef := ⟨_, rfl⟩
    obtain ⟨u16, hu16⟩ : ∃ u, u = a.tmps.getD 16 undef := ⟨_, rfl⟩
    have hal : AllAt a 0 [.pointer (some ⟨g, 0, none⟩), u1, u2, .pointer (some ⟨pb, 0, none⟩), u4, u5, u6, u7, u8, u9, u10, u11, u12, u13, u14, u15, u16] := ⟨hfree 0 rfl, hu1.symm, hu2.symm, hfree 3 rfl, hu4.symm, hu5.symm, hu6.symm, hu7.symm, hu8.symm, hu9.symm, hu10.symm, hu11.symm, hu12.symm, hu13.symm, hu14.symm, hu15.symm, hu16.symm, trivial⟩
    have hlit := fun h => act_lit hd h hal
    rw [hlit hsz]
    clear hlit hal hd hsz hfree hs hu1 hu2 hu4 hu5 hu6 hu7 hu8 hu9 hu10 hu11 hu12 hu13 hu14 hu15 hu16
    obtain ⟨hm1, hf2⟩ := HP.out.f w hC
    have hm2 := hm1.less HOG.out
    have HM1 := Lib.hid hm2
    have HF2 := Lib.hid (hf2.sub (Y := un X T) fun b hb => hb.elim (fun e => .inl (.inl e)) .inr)
    clear hm1 hm2 hf2 hC
    go_wp2
    go_end0
    exact ⟨rfl, ⟨_, _, _, by
      have h9 := HM1.out
      have e2 : Wd.add p r = ⟨(Wd.close r).ps ++ [p], (Wd.close r).k, (Wd.close r).t⟩ := by unfold Wd.add Wd.close; split <;> rfl
      rw [e2]
      exact h9⟩, (Fr.later HL.out).trans ((HF1.out.sub fun b hb => hb.elim (fun e => .inl (.inl e)) .inr).trans HF2.out)⟩

end
end Ws
end Go.Proofs.YtlenocpaalahbaaDoor
