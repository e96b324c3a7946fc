/- A port that puts out: numbers and texts. No premises. -/
import Derived.Test.YteljmlodbnfhbaaKv
import Derived.Test.YteljmlodbnfhbaaRdr
namespace Go.Proofs.Yteljmlodbnfhbaa
open Go.RowKit
namespace Ks
set_option maxRecDepth 100000
/-- A port that puts out, in block g: b are the bytes so far; neither lies in X. -/
structure PO (X : Nat → Prop) (w : World) (g : Nat) (b : B) (v : Value) : Prop where
  box : w.heap[g]? = some (.cells #[v, .pointer none, .bool false] 73 (0, 0))
  row : w.ownsRow 0 5 1 v (b.map bv).length (b.map bv)
  vx : ∀ k, v.ownBlock = some k → ¬ X k
  gx : ¬ X g
  xl : XL X w
def POE (X : Nat → Prop) (w : World) (g : Nat) (b : B) : Prop := ∃ v, PO X w g b v
section
variable {X : Nat → Prop} {w w' : World} {g : Nat} {b t : B} {v v' : Value}
theorem PO.ne (h : PO X w g b v) : v.ownBlock ≠ some g := fun e => by
  obtain ⟨cs, hb⟩ := own_type h.row e
  rw [h.box] at hb
  injection hb with hb
  injection hb with _ hb _
  revert hb
  decide
theorem PO.held (h : PO X w g b v) (hg : w.grownBy w' v.ownBlock) : w'.heap[g]? = some (.cells #[v, .pointer none, .bool false] 73 (0, 0)) :=
  (hg.block g (lt_of_block h.box) fun e => h.ne e.symm).trans h.box
theorem PO.done (h : PO X w g b v) (ho : w'.ownsRow 0 5 1 v' ((b ++ t).map bv).length ((b ++ t).map bv)) (hg : w.grownBy w' v.ownBlock) (hm : Moved w v v') : POE X (w'.setCell ⟨g, 0, none⟩ v') g (b ++ t) ∧ Fr X w (w'.setCell ⟨g, 0, none⟩ v') := by
  have hb := h.held hg
  have hne : v'.ownBlock ≠ some g := fun e => by
    obtain ⟨cs, hb'⟩ := own_type ho e
    rw [hb] at hb'
    injection hb' with hb'
    injection hb' with _ hb' _
    revert hb'
    decide
  have hs := set_only w' g 0 v'
  have hf : Fr X w (w'.setCell ⟨g, 0, none⟩ v') := (Fr.grown hg fun x e => h.vx x e).trans (Fr.grown hs fun x e hx => h.gx (by injection e with e; rw [e]; exact hx))
  refine ⟨⟨v', ⟨?_, ?_, fun k hk hx => ?_, h.gx, h.xl.mono hf.size⟩⟩, hf⟩
  · rw [set_row hb 0 v']; rfl
  · exact (Fr.grown (X := fun k => k ≠ g) hs fun x e hx => hx (by injection e with e; exact e.symm)).row ho fun i hi e => hne (by rw [hi, e])
  · rcases hm with e | ⟨j, e, hj⟩
    · exact h.vx k (by rw [← e]; exact hk) hx
    · rw [e] at hk; injection hk with hk; have := h.xl k hx; omega
theorem POE.later (h : POE X w g b) (hl : Later w w') : POE X w' g b := by
  obtain ⟨v, h⟩ := h
  exact ⟨v, later_cells hl h.box, own_below h.row hl, h.vx, h.gx, h.xl.mono hl.size⟩
theorem POE.alloc (h : POE X w g b) (o : Obj) : POE (plus X [w.heap.size]) (w.alloc o) g b := by
  obtain ⟨v, h⟩ := h
  have hl := Later.alloc w o
  refine ⟨v, later_cells hl h.box, own_below h.row hl, fun k hk hx => ?_, fun hx => ?_, fun k hx => ?_⟩
  · rcases hx with hx | hx
    · exact h.vx k hk hx
    · simp only [List.mem_cons, List.not_mem_nil, or_false] at hx
      obtain ⟨cs, hb⟩ := own_type h.row hk
      have := lt_of_block hb
      omega
  · rcases hx with hx | hx
    · exact h.gx hx
    · simp only [List.mem_cons, List.not_mem_nil, or_false] at hx
      have := lt_of_block h.box
      omega
  · rw [World.size_alloc]
    rcases hx with hx | hx
    · have := h.xl k hx; omega
    · simp only [List.mem_cons, List.not_mem_nil, or_false] at hx
      omega
theorem POE.less {l : List Nat} (h : POE (plus X l) w g b) : POE X w g b := by
  obtain ⟨v, h⟩ := h
  exact ⟨v, h.box, h.row, fun k hk hx => h.vx k hk (.inl hx), fun hx => h.gx (.inl hx), fun k hx => h.xl k (.inl hx)⟩
theorem POE.form (h : POE X w g b) : w.cell? ⟨g, 1, none⟩ = some (.pointer none) := by
  obtain ⟨v, h⟩ := h
  have := (cell_row h.box 1).1
  simpa using this
end
theorem texts_one (t : B) : textsL [mkS t] = textB t := by
  unfold textsL
  rw [List.flatMap_cons, List.flatMap_nil, List.append_nil, textL, mkS_size, textB, mkS_list]
set_option maxHeartbeats 1600000 in
theorem int_out {X : Nat → Prop} {W : World} {g bx o : Nat} {b : B} {v0 : Int} (h : POE X W g b) (hx : W.cell? ⟨bx, o, none⟩ = some (.int .i64 v0)) (hI : I64 v0) (hb : b.length ≤ 1000000000) :
    Calls Try.prog 35 #[.pointer (some ⟨g, 0, none⟩), .pointer (some ⟨bx, o, none⟩)] W fun e W' => e = .returned (.tuple #[]) ∧ POE X W' g (b ++ numP v0) ∧ Fr X W W' := by
  obtain ⟨v, h⟩ := h
  obtain ⟨A, c, rfl, hnc, hrd, _⟩ := own_map h.row
  obtain ⟨n, hn⟩ : ∃ n, n = b.length := ⟨_, rfl⟩
  rw [← hn] at h hnc hrd
  obtain ⟨q, hq⟩ : ∃ q, q = numP v0 := ⟨_, rfl⟩
  rw [← hq]
  obtain ⟨z, hz⟩ : ∃ z, z = (zig v0).toNat := ⟨_, rfl⟩
  have hzl : z < 18446744073709551616 := by rw [hz]; exact zig_nat hI.1 hI.2
  have hqz : q = numL z := by rw [hq, hz]; rfl
  have hq9 : q.length ≤ 2000000000 := by have := numP_len hI; rw [← hq] at this; omega
  have hze := zig_eq hI
  rw [← hz] at hze
  have HZ := Lib.hid (fun w => zig_v v0 w hI.1 hI.2)
  rw [hze] at HZ
  have HP := Lib.hid (put_v (some ⟨W.drew.heap.size, 0, none⟩) 1 1 (W.drew.heap.size + 1) [z] (W.drew.alloc (.cells #[.int .u64 (z : Int)] 127)) (Rd.lit W.drew 127 [.int .u64 (z : Int)]) (by rw [World.size_alloc]; exact Nat.le_refl _) (by omega) (by simpa using hzl))
  rw [show putL [z] = q by rw [hqz]; simp [putL]] at HP
  have hc1 := (cell_row h.box 1).1
  simp at hc1
  have HG := Lib.hid (show ∀ (j : Nat) (u : Value) (x : World), (fun j u x => match j with | 0 => x = W.drew | 1 => x = W.drew ∧ u = .int .u64 (z : Int) | 2 => x = W.drew.alloc (.cells #[.int .u64 (z : Int)] 127) | 3 => ∃ A2 n2 c2, u = .slice A2 n2 c2 ∧ n2 ≤ 2000000000 ∧ Later W x ∧ Rd x x.heap.size A2 n2 (q.map bv) | 4 => x.ownsRow 0 5 1 u ((b ++ q).map bv).length ((b ++ q).map bv) ∧ W.grownBy x (Value.slice A n c).ownBlock ∧ Moved W (.slice A n c) u | _ => POE X x g (b ++ q) ∧ Fr X W x) j u x → j ≤ 3 → x.cell? ⟨g, 0, none⟩ = some (.slice A n c) from fun j u x hC hj => by
    have hl : Later W x := by
      match j, hC, hj with
      | 0, hC, _ => rw [show x = W.drew from hC]; exact Later.drew W
      | 1, hC, _ => rw [show x = W.drew from hC.1]; exact Later.drew W
      | 2, hC, _ => rw [show x = W.drew.alloc (.cells #[.int .u64 (z : Int)] 127) from hC]; exact (Later.drew W).trans (Later.alloc _ _)
      | 3, hC, _ => obtain ⟨_, _, _, _, _, hl, _⟩ := hC; exact hl
      | j + 4, hC, hj => omega
    rw [(cell_row (later_cells hl h.box) 0).1]; rfl)
  have HX := Lib.hid (show ∀ (j : Nat) (u : Value) (x : World), (fun j u x => match j with | 0 => x = W.drew | 1 => x = W.drew ∧ u = .int .u64 (z : Int) | 2 => x = W.drew.alloc (.cells #[.int .u64 (z : Int)] 127) | 3 => ∃ A2 n2 c2, u = .slice A2 n2 c2 ∧ n2 ≤ 2000000000 ∧ Later W x ∧ Rd x x.heap.size A2 n2 (q.map bv) | 4 => x.ownsRow 0 5 1 u ((b ++ q).map bv).length ((b ++ q).map bv) ∧ W.grownBy x (Value.slice A n c).ownBlock ∧ Moved W (.slice A n c) u | _ => POE X x g (b ++ q) ∧ Fr X W x) j u x → j ≤ 0 → x.cell? ⟨bx, o, none⟩ = some (.int .i64 v0) from fun j u x hC hj => by
    obtain rfl : j = 0 := by omega
    rw [show x = W.drew from hC]; exact hx)
  have H2 := Lib.hid (show ∀ (v2 : Value) (x : World), Grew (W.drew.alloc (.cells #[.int .u64 (z : Int)] 127)) x (W.drew.alloc (.cells #[.int .u64 (z : Int)] 127)).heap.size 5 (.slice none 0 0) v2 (q.map bv) → ∃ A2 n2 c2, v2 = .slice A2 n2 c2 ∧ n2 ≤ 2000000000 ∧ Later W x ∧ Rd x x.heap.size A2 n2 (q.map bv) from fun v2 x hg => by
    obtain ⟨A2, c2, rfl, _, hr, _⟩ := own_map hg.own
    exact ⟨A2, _, c2, rfl, hq9, ((Later.drew W).trans (Later.alloc _ _)).trans hg.belowNil, hr⟩)
  have HAP := Lib.hid (show ∀ (x : World) (A2 : Option Addr) (n2 c2 : Nat), n2 ≤ 2000000000 → Later W x → Rd x x.heap.size A2 n2 (q.map bv) → ∃ v' w', (Builtin.append_ #[43, 43] 43 #[.slice A n c, .slice A2 n2 c2]).run Try.prog x = .ok v' w' ∧ (w'.ownsRow 0 5 1 v' ((b ++ q).map bv).length ((b ++ q).map bv) ∧ W.grownBy w' (Value.slice A n c).ownBlock ∧ Moved W (.slice A n c) v') from fun x A2 n2 c2 hn2 hl hr => by
    obtain ⟨i0, hi, hz0, hz1, hz2⟩ := info_parts info_u8
    obtain ⟨v', w', hrun, hg⟩ := run_appN (P := Try.prog) x 0 43 43 5 i0 _ 1 Try.underlying43 hi hz0 hz1 hz2 rfl _ _ (own_below h.row hl) _ A2 n2 c2 _ hr (by intro u hu; obtain ⟨y, _, rfl⟩ := List.mem_map.1 hu; rfl) (by rw [List.length_map]; omega) (by rw [List.length_map]; omega) (Nat.zero_le _)
    refine ⟨v', w', hrun, ?_, later_grown hl hg.grown, ?_⟩
    · have := hg.own
      rw [← List.map_append] at this
      exact this
    · rcases hg.moved with e | ⟨k, e, hk⟩
      · exact .inl e
      · exact .inr ⟨k, e, Nat.le_trans hl.size hk⟩)
  have HU := Lib.hid (show ∀ (u : Value) (x : World), (x.ownsRow 0 5 1 u ((b ++ q).map bv).length ((b ++ q).map bv) ∧ W.grownBy x (Value.slice A n c).ownBlock ∧ Moved W (.slice A n c) u) → ∃ A4 n4 k4, u = .slice A4 n4 k4 ∧ x.cell? ⟨g, 0, none⟩ = some (.slice A n c) ∧ x.frozen? ⟨g, 0, none⟩ = false from fun u x hC => by
    obtain ⟨A4, k4, rfl, _⟩ := own_any hC.1
    have hb := h.held hC.2.1
    exact ⟨A4, _, k4, rfl, by rw [(cell_row hb 0).1]; rfl, (cell_row hb 0).2⟩)
  have H5 := Lib.hid (show ∀ (u : Value) (x : World), (x.ownsRow 0 5 1 u ((b ++ q).map bv).length ((b ++ q).map bv) ∧ W.grownBy x (Value.slice A n c).ownBlock ∧ Moved W (.slice A n c) u) → POE X (x.setCell ⟨g, 0, none⟩ u) g (b ++ q) ∧ Fr X W (x.setCell ⟨g, 0, none⟩ u) from fun u x hC => h.done hC.1 hC.2.1 hC.2.2)
  clear h hx hI hb hnc hrd hn hq hq9 hqz hzl hze hz
  go_enter Try.func35, Try.ntmps35
  go_wp2_with fail
  refine wp_region_seq (by kernel_rfl) [8, 9, 10, 11, 14] (fun j u x => match j with | 0 => x = W.drew | 1 => x = W.drew ∧ u = .int .u64 (z : Int) | 2 => x = W.drew.alloc (.cells #[.int .u64 (z : Int)] 127) | 3 => ∃ A2 n2 c2, u = .slice A2 n2 c2 ∧ n2 ≤ 2000000000 ∧ Later W x ∧ Rd x x.heap.size A2 n2 (q.map bv) | 4 => x.ownsRow 0 5 1 u ((b ++ q).map bv).length ((b ++ q).map bv) ∧ W.grownBy x (Value.slice A n c).ownBlock ∧ Moved W (.slice A n c) u | _ => POE X x g (b ++ q) ∧ Fr X W x) [some (.pointer (some ⟨g, 0, none⟩)), some (.pointer (some ⟨g, 0, none⟩)), some (.pointer (some ⟨g, 0, none⟩)), some (.pointer (some ⟨g, 0, none⟩)), some (.slice A n c), some (.pointer (some ⟨bx, o, none⟩)), some (.pointer (some ⟨bx, o, none⟩)), some (.int .i64 v0), some (.int .u64 (z : Int)), some (.slice (some ⟨W.drew.heap.size, 0, none⟩) 1 1), none, none, some (.pointer (some ⟨g, 0, none⟩)), some (.pointer (some ⟨g, 0, none⟩)), none] (by decide) (by decide) (by kernel_rfl) (by kernel_rfl) (rfl) ?_ ?_
  · refine ⟨?_, ?_, ?_, ?_, ?_, ?_, ?_, ?_, ?_, ?_, ?_, ?_, ?_, ?_, ?_, trivial⟩
    · -- 0: slot 9 := Op.move t0
      refine OwesS.q rfl fun a w j u hC hb hs => ⟨rfl, ?_⟩
      have e0 : a.tmps.getD 0 undef = .pointer (some ⟨g, 0, none⟩) := hs.free 0 rfl
      refine ValWp.pure (v := .pointer (some ⟨g, 0, none⟩)) (fun K' hK' => ?_) ⟨rfl, rfl⟩
      simp only [ValWp, execOp, Act.eval, e0]
      go_simp
      all_goals exact hK'
    · -- 1: slot 10 := Op.move t0
      refine OwesS.q rfl fun a w j u hC hb hs => ⟨rfl, ?_⟩
      have e0 : a.tmps.getD 0 undef = .pointer (some ⟨g, 0, none⟩) := hs.free 0 rfl
      refine ValWp.pure (v := .pointer (some ⟨g, 0, none⟩)) (fun K' hK' => ?_) ⟨rfl, rfl⟩
      simp only [ValWp, execOp, Act.eval, e0]
      go_simp
      all_goals exact hK'
    · -- 2: slot 11 := Op.nilCheck t10
      refine OwesS.q rfl fun a w j u hC hb hs => ⟨rfl, ?_⟩
      have e10 : a.tmps.getD 10 undef = .pointer (some ⟨g, 0, none⟩) := hs.dep 1 _ rfl rfl
      refine ValWp.pure (v := .pointer (some ⟨g, 0, none⟩)) (fun K' hK' => ?_) ⟨rfl, rfl⟩
      simp only [ValWp, execOp, Act.eval, e10]
      go_simp
      all_goals exact hK'
    · -- 3: slot 12 := Op.fieldAddr 73 t11 0
      refine OwesS.q rfl fun a w j u hC hb hs => ⟨rfl, ?_⟩
      have e11 : a.tmps.getD 11 undef = .pointer (some ⟨g, 0, none⟩) := hs.dep 2 _ rfl rfl
      refine ValWp.pure (v := .pointer (some ⟨g, 0, none⟩)) (fun K' hK' => ?_) ⟨rfl, rfl⟩
      simp only [ValWp, execOp, Act.eval, e11]
      go_simp
      all_goals exact hK'
    · -- 4: slot 13 := Op.load 43 t12
      refine OwesS.q rfl fun a w j u hC hb hs => ⟨rfl, ?_⟩
      have e12 : a.tmps.getD 12 undef = .pointer (some ⟨g, 0, none⟩) := hs.dep 3 _ rfl rfl
      have hj := hb 3 11 rfl rfl
      have q0 := HG.out j u w hC hj
      refine ValWp.pure (v := .slice A n c) (fun K' hK' => ?_) ⟨rfl, rfl⟩
      simp only [ValWp, execOp, Act.eval, e12]
      go_simp
      all_goals exact hK'
    · -- 5: slot 14 := Op.move t1
      refine OwesS.q rfl fun a w j u hC hb hs => ⟨rfl, ?_⟩
      have e1 : a.tmps.getD 1 undef = .pointer (some ⟨bx, o, none⟩) := hs.free 1 rfl
      refine ValWp.pure (v := .pointer (some ⟨bx, o, none⟩)) (fun K' hK' => ?_) ⟨rfl, rfl⟩
      simp only [ValWp, execOp, Act.eval, e1]
      go_simp
      all_goals exact hK'
    · -- 6: slot 15 := Op.nilCheck t14
      refine OwesS.q rfl fun a w j u hC hb hs => ⟨rfl, ?_⟩
      have e14 : a.tmps.getD 14 undef = .pointer (some ⟨bx, o, none⟩) := hs.dep 5 _ rfl rfl
      refine ValWp.pure (v := .pointer (some ⟨bx, o, none⟩)) (fun K' hK' => ?_) ⟨rfl, rfl⟩
      simp only [ValWp, execOp, Act.eval, e14]
      go_simp
      all_goals exact hK'
    · -- 7: slot 16 := Op.load 3 t15
      refine OwesS.q rfl fun a w j u hC hb hs => ⟨rfl, ?_⟩
      have e15 : a.tmps.getD 15 undef = .pointer (some ⟨bx, o, none⟩) := hs.dep 6 _ rfl rfl
      have hj := hb 0 8 rfl rfl
      have q0 := HX.out j u w hC hj
      refine ValWp.pure (v := .int .i64 v0) (fun K' hK' => ?_) ⟨rfl, rfl⟩
      simp only [ValWp, execOp, Act.eval, e15]
      go_simp
      all_goals exact hK'
    · -- 8: slot 17 := Op.call { value (Operand.func 62), args := #[t16], argTypes := #[2] }
      refine OwesS.w rfl fun a w u hC hl hs => ⟨rfl, fun K hK => ?_⟩
      have e16 : a.tmps.getD 16 undef = .int .i64 v0 := hs.dep 7 _ rfl rfl
      have hw := hC
      subst hw
      refine wp_of_val ?_
      refine ValWp.call #[.int .i64 v0] rfl rfl Try.func62 rfl rfl (by simp only [List.map_toArray, List.map_cons, List.map_nil, Act.eval, e16]) ?_
      refine (HZ.out _).mono ?_
      rintro e w' ⟨rfl, rfl⟩
      exact ⟨_, rfl, hK _ _ rfl ⟨rfl, rfl⟩⟩
    · -- 9: slot 18 := Op.buildSlice 180 1 #[(0, t17)]
      refine OwesS.w rfl fun a w u hC hl hs => ⟨rfl, fun K hK => ?_⟩
      have e17 : a.tmps.getD 17 undef = .int .u64 (z : Int) := hs.dep 8 _ rfl rfl
      obtain ⟨hw, hu⟩ := hC
      subst hw
      refine wp_of_val ?_
      refine ValWp.pure (v := .slice (some ⟨W.drew.heap.size, 0, none⟩) 1 1) (w' := W.drew.alloc (.cells #[.int .u64 (z : Int)] 127)) (fun K' hK' => ?_) (hK _ _ rfl rfl)
      simp only [ValWp, execOp, Act.eval, List.map_toArray, List.map_cons, List.map_nil, e17]
      go_simp
      all_goals exact hK'
    · -- 10: slot 19 := Op.call { value (Operand.func 61), args := #[t18], argTypes := #[180] }
      refine OwesS.w rfl fun a w u hC hl hs => ⟨rfl, fun K hK => ?_⟩
      have e18 : a.tmps.getD 18 undef = .slice (some ⟨W.drew.heap.size, 0, none⟩) 1 1 := hs.dep 9 _ rfl rfl
      have hw := hC
      subst hw
      refine wp_of_val ?_
      refine ValWp.call #[.slice (some ⟨W.drew.heap.size, 0, none⟩) 1 1] rfl rfl Try.func61 rfl rfl (by simp only [List.map_toArray, List.map_cons, List.map_nil, Act.eval, e18]) ?_
      refine HP.out.mono ?_
      rintro e w' ⟨v2, rfl, hg⟩
      exact ⟨_, rfl, hK _ _ trivial (H2.out _ _ hg)⟩
    · -- 11: slot 20 := Op.call { builtin append, args := #[t13, t19], argTypes := #[43, 43] }
      refine OwesS.w rfl fun a w u hC hl hs => ⟨rfl, fun K hK => ?_⟩
      have e13 : a.tmps.getD 13 undef = .slice A n c := hs.dep 4 _ rfl rfl
      have e19 : a.tmps.getD 19 undef = u := hl
      obtain ⟨A2, n2, c2, hu, hn2, hl2, hr2⟩ := hC
      subst hu
      obtain ⟨v', w', hrun, h3⟩ := HAP.out _ A2 n2 c2 hn2 hl2 hr2
      exact owes_append hrun rfl e13 e19 (hK v' w' trivial h3)
    · -- 12: slot 21 := Op.nilCheck t9
      refine OwesS.q rfl fun a w j u hC hb hs => ⟨rfl, ?_⟩
      have e9 : a.tmps.getD 9 undef = .pointer (some ⟨g, 0, none⟩) := hs.dep 0 _ rfl rfl
      refine ValWp.pure (v := .pointer (some ⟨g, 0, none⟩)) (fun K' hK' => ?_) ⟨rfl, rfl⟩
      simp only [ValWp, execOp, Act.eval, e9]
      go_simp
      all_goals exact hK'
    · -- 13: slot 22 := Op.fieldAddr 73 t21 0
      refine OwesS.q rfl fun a w j u hC hb hs => ⟨rfl, ?_⟩
      have e21 : a.tmps.getD 21 undef = .pointer (some ⟨g, 0, none⟩) := hs.dep 12 _ rfl rfl
      refine ValWp.pure (v := .pointer (some ⟨g, 0, none⟩)) (fun K' hK' => ?_) ⟨rfl, rfl⟩
      simp only [ValWp, execOp, Act.eval, e21]
      go_simp
      all_goals exact hK'
    · -- 14: slot None := Op.store 43 t22 t20
      refine OwesS.w rfl fun a w u hC hl hs => ⟨rfl, fun K hK => ?_⟩
      have e22 : a.tmps.getD 22 undef = .pointer (some ⟨g, 0, none⟩) := hs.dep 13 _ rfl rfl
      have e20 : a.tmps.getD 20 undef = u := hl
      obtain ⟨A4, n4, k4, hu, q4, qz⟩ := HU.out u w hC
      subst hu
      refine wp_of_val ?_
      refine ValWp.pure (v := undef) (w' := w.setCell ⟨g, 0, none⟩ (.slice A4 n4 k4)) (fun K' hK' => ?_) (hK _ _ trivial (H5.out _ w hC))
      simp only [ValWp, execOp, Act.eval, e22, e20]
      go_simp
      all_goals exact hK'
  · intro a w u hC hl hd hsz hfree hs
    obtain ⟨u9, hu9⟩ : ∃ u, u = a.tmps.getD 9 undef := ⟨_, rfl⟩
    obtain ⟨u10, hu10⟩ : ∃ u, u = a.tmps.getD 10 undef := ⟨_, rfl⟩
    obtain ⟨u11, hu11⟩ : ∃ u, u = a.tmps.getD 11 undef := ⟨_, rfl⟩
    obtain ⟨u12, hu12⟩ : ∃ u, u = a.tmps.getD 12 undef := ⟨_, rfl⟩
    obtain ⟨u13, hu13⟩ : ∃ u, u = a.tmps.getD 13 undef := ⟨_, rfl⟩
    obtain ⟨u14, hu14⟩ : ∃ u, u = a.tmps.getD 14 undef := ⟨_, rfl⟩
    obtain ⟨u15, hu15⟩ : ∃ u, u = a.tmps.getD 15 undef := ⟨_, rfl⟩
    obtain ⟨u16, hu16⟩ : ∃ u, u = a.tmps.getD 16 undef := ⟨_, rfl⟩
    obtain ⟨u17, hu17⟩ : ∃ u, u = a.tmps.getD 17 undef := ⟨_, rfl⟩
    obtain ⟨u18, hu18⟩ : ∃ u, u = a.tmps.getD 18 undef := ⟨_, rfl⟩
    obtain ⟨u19, hu19⟩ : ∃ u, u = a.tmps.getD 19 undef := ⟨_, rfl⟩
    obtain ⟨u20, hu20⟩ : ∃ u, u = a.tmps.getD 20 undef := ⟨_, rfl⟩
    obtain ⟨u21, hu21⟩ : ∃ u, u = a.tmps.getD 21 undef := ⟨_, rfl⟩
    obtain ⟨u22, hu22⟩ : ∃ u, u = a.tmps.getD 22 undef := ⟨_, rfl⟩
    have hal : AllAt a 0 [_, _, _, _, _, _, _, _, _, u9, u10, u11, u12, u13, u14, u15, u16, u17, u18, u19, u20, u21, u22, _, _, _, _, _, _, _] := ⟨hfree 0 rfl, hfree 1 rfl, hfree 2 rfl, hfree 3 rfl, hfree 4 rfl, hfree 5 rfl, hfree 6 rfl, hfree 7 rfl, hfree 8 rfl, hu9.symm, hu10.symm, hu11.symm, hu12.symm, hu13.symm, hu14.symm, hu15.symm, hu16.symm, hu17.symm, hu18.symm, hu19.symm, hu20.symm, hu21.symm, hu22.symm, hfree 23 rfl, hfree 24 rfl, hfree 25 rfl, hfree 26 rfl, hfree 27 rfl, hfree 28 rfl, hfree 29 rfl, trivial⟩
    have hlit := fun h => act_lit hd h hal
    rw [hlit hsz]
    simp only [Array.getD_eq_getD_getElem?, List.getElem?_toArray, List.getElem?_cons_zero, List.getElem?_cons_succ, Option.getD_some]
    clear hlit hal hd hsz hfree hs hu9 hu10 hu11 hu12 hu13 hu14 hu15 hu16 hu17 hu18 hu19 hu20 hu21 hu22
    have HF := Lib.hid (show POE X w g (b ++ q) ∧ Fr X W w from hC)
    clear hC hl
    go_wp2
    (try simp only [Exit.inBlock, Exit.then]); refine bodyPost_ret (results_none rfl _ _ _) rfl ?_
    exact ⟨rfl, HF.out⟩
set_option maxHeartbeats 1600000 in
theorem int64_out {X : Nat → Prop} {W : World} {g bx o : Nat} {b : B} {v0 : Int} (h : POE X W g b) (hx : W.cell? ⟨bx, o, none⟩ = some (.int .i64 v0)) (hI : I64 v0) (hb : b.length ≤ 1000000000) :
    Calls Try.prog 57 #[.pointer (some ⟨g, 0, none⟩), .pointer (some ⟨bx, o, none⟩)] W fun e W' => e = .returned (.tuple #[]) ∧ POE X W' g (b ++ numP v0) ∧ Fr X W W' := by
  obtain ⟨v, h⟩ := h
  obtain ⟨A, c, rfl, hnc, hrd, _⟩ := own_map h.row
  obtain ⟨n, hn⟩ : ∃ n, n = b.length := ⟨_, rfl⟩
  rw [← hn] at h hnc hrd
  obtain ⟨q, hq⟩ : ∃ q, q = numP v0 := ⟨_, rfl⟩
  rw [← hq]
  obtain ⟨z, hz⟩ : ∃ z, z = (zig v0).toNat := ⟨_, rfl⟩
  have hzl : z < 18446744073709551616 := by rw [hz]; exact zig_nat hI.1 hI.2
  have hqz : q = numL z := by rw [hq, hz]; rfl
  have hq9 : q.length ≤ 2000000000 := by have := numP_len hI; rw [← hq] at this; omega
  have hze := zig_eq hI
  rw [← hz] at hze
  have HZ := Lib.hid (fun w => zig_v v0 w hI.1 hI.2)
  rw [hze] at HZ
  have HP := Lib.hid (put_v (some ⟨W.drew.heap.size, 0, none⟩) 1 1 (W.drew.heap.size + 1) [z] (W.drew.alloc (.cells #[.int .u64 (z : Int)] 127)) (Rd.lit W.drew 127 [.int .u64 (z : Int)]) (by rw [World.size_alloc]; exact Nat.le_refl _) (by omega) (by simpa using hzl))
  rw [show putL [z] = q by rw [hqz]; simp [putL]] at HP
  have hc1 := (cell_row h.box 1).1
  simp at hc1
  have HG := Lib.hid (show ∀ (j : Nat) (u : Value) (x : World), (fun j u x => match j with | 0 => x = W.drew | 1 => x = W.drew ∧ u = .int .u64 (z : Int) | 2 => x = W.drew.alloc (.cells #[.int .u64 (z : Int)] 127) | 3 => ∃ A2 n2 c2, u = .slice A2 n2 c2 ∧ n2 ≤ 2000000000 ∧ Later W x ∧ Rd x x.heap.size A2 n2 (q.map bv) | 4 => x.ownsRow 0 5 1 u ((b ++ q).map bv).length ((b ++ q).map bv) ∧ W.grownBy x (Value.slice A n c).ownBlock ∧ Moved W (.slice A n c) u | _ => POE X x g (b ++ q) ∧ Fr X W x) j u x → j ≤ 3 → x.cell? ⟨g, 0, none⟩ = some (.slice A n c) from fun j u x hC hj => by
    have hl : Later W x := by
      match j, hC, hj with
      | 0, hC, _ => rw [show x = W.drew from hC]; exact Later.drew W
      | 1, hC, _ => rw [show x = W.drew from hC.1]; exact Later.drew W
      | 2, hC, _ => rw [show x = W.drew.alloc (.cells #[.int .u64 (z : Int)] 127) from hC]; exact (Later.drew W).trans (Later.alloc _ _)
      | 3, hC, _ => obtain ⟨_, _, _, _, _, hl, _⟩ := hC; exact hl
      | j + 4, hC, hj => omega
    rw [(cell_row (later_cells hl h.box) 0).1]; rfl)
  have HX := Lib.hid (show ∀ (j : Nat) (u : Value) (x : World), (fun j u x => match j with | 0 => x = W.drew | 1 => x = W.drew ∧ u = .int .u64 (z : Int) | 2 => x = W.drew.alloc (.cells #[.int .u64 (z : Int)] 127) | 3 => ∃ A2 n2 c2, u = .slice A2 n2 c2 ∧ n2 ≤ 2000000000 ∧ Later W x ∧ Rd x x.heap.size A2 n2 (q.map bv) | 4 => x.ownsRow 0 5 1 u ((b ++ q).map bv).length ((b ++ q).map bv) ∧ W.grownBy x (Value.slice A n c).ownBlock ∧ Moved W (.slice A n c) u | _ => POE X x g (b ++ q) ∧ Fr X W x) j u x → j ≤ 0 → x.cell? ⟨bx, o, none⟩ = some (.int .i64 v0) from fun j u x hC hj => by
    obtain rfl : j = 0 := by omega
    rw [show x = W.drew from hC]; exact hx)
  have H2 := Lib.hid (show ∀ (v2 : Value) (x : World), Grew (W.drew.alloc (.cells #[.int .u64 (z : Int)] 127)) x (W.drew.alloc (.cells #[.int .u64 (z : Int)] 127)).heap.size 5 (.slice none 0 0) v2 (q.map bv) → ∃ A2 n2 c2, v2 = .slice A2 n2 c2 ∧ n2 ≤ 2000000000 ∧ Later W x ∧ Rd x x.heap.size A2 n2 (q.map bv) from fun v2 x hg => by
    obtain ⟨A2, c2, rfl, _, hr, _⟩ := own_map hg.own
    exact ⟨A2, _, c2, rfl, hq9, ((Later.drew W).trans (Later.alloc _ _)).trans hg.belowNil, hr⟩)
  have HAP := Lib.hid (show ∀ (x : World) (A2 : Option Addr) (n2 c2 : Nat), n2 ≤ 2000000000 → Later W x → Rd x x.heap.size A2 n2 (q.map bv) → ∃ v' w', (Builtin.append_ #[43, 43] 43 #[.slice A n c, .slice A2 n2 c2]).run Try.prog x = .ok v' w' ∧ (w'.ownsRow 0 5 1 v' ((b ++ q).map bv).length ((b ++ q).map bv) ∧ W.grownBy w' (Value.slice A n c).ownBlock ∧ Moved W (.slice A n c) v') from fun x A2 n2 c2 hn2 hl hr => by
    obtain ⟨i0, hi, hz0, hz1, hz2⟩ := info_parts info_u8
    obtain ⟨v', w', hrun, hg⟩ := run_appN (P := Try.prog) x 0 43 43 5 i0 _ 1 Try.underlying43 hi hz0 hz1 hz2 rfl _ _ (own_below h.row hl) _ A2 n2 c2 _ hr (by intro u hu; obtain ⟨y, _, rfl⟩ := List.mem_map.1 hu; rfl) (by rw [List.length_map]; omega) (by rw [List.length_map]; omega) (Nat.zero_le _)
    refine ⟨v', w', hrun, ?_, later_grown hl hg.grown, ?_⟩
    · have := hg.own
      rw [← List.map_append] at this
      exact this
    · rcases hg.moved with e | ⟨k, e, hk⟩
      · exact .inl e
      · exact .inr ⟨k, e, Nat.le_trans hl.size hk⟩)
  have HU := Lib.hid (show ∀ (u : Value) (x : World), (x.ownsRow 0 5 1 u ((b ++ q).map bv).length ((b ++ q).map bv) ∧ W.grownBy x (Value.slice A n c).ownBlock ∧ Moved W (.slice A n c) u) → ∃ A4 n4 k4, u = .slice A4 n4 k4 ∧ x.cell? ⟨g, 0, none⟩ = some (.slice A n c) ∧ x.frozen? ⟨g, 0, none⟩ = false from fun u x hC => by
    obtain ⟨A4, k4, rfl, _⟩ := own_any hC.1
    have hb := h.held hC.2.1
    exact ⟨A4, _, k4, rfl, by rw [(cell_row hb 0).1]; rfl, (cell_row hb 0).2⟩)
  have H5 := Lib.hid (show ∀ (u : Value) (x : World), (x.ownsRow 0 5 1 u ((b ++ q).map bv).length ((b ++ q).map bv) ∧ W.grownBy x (Value.slice A n c).ownBlock ∧ Moved W (.slice A n c) u) → POE X (x.setCell ⟨g, 0, none⟩ u) g (b ++ q) ∧ Fr X W (x.setCell ⟨g, 0, none⟩ u) from fun u x hC => h.done hC.1 hC.2.1 hC.2.2)
  clear h hx hI hb hnc hrd hn hq hq9 hqz hzl hze hz
  go_enter Try.func57, Try.ntmps57
  go_wp2_with fail
  refine wp_region_seq (by kernel_rfl) [8, 9, 10, 11, 14] (fun j u x => match j with | 0 => x = W.drew | 1 => x = W.drew ∧ u = .int .u64 (z : Int) | 2 => x = W.drew.alloc (.cells #[.int .u64 (z : Int)] 127) | 3 => ∃ A2 n2 c2, u = .slice A2 n2 c2 ∧ n2 ≤ 2000000000 ∧ Later W x ∧ Rd x x.heap.size A2 n2 (q.map bv) | 4 => x.ownsRow 0 5 1 u ((b ++ q).map bv).length ((b ++ q).map bv) ∧ W.grownBy x (Value.slice A n c).ownBlock ∧ Moved W (.slice A n c) u | _ => POE X x g (b ++ q) ∧ Fr X W x) [some (.pointer (some ⟨g, 0, none⟩)), some (.pointer (some ⟨g, 0, none⟩)), some (.pointer (some ⟨g, 0, none⟩)), some (.pointer (some ⟨g, 0, none⟩)), some (.slice A n c), some (.pointer (some ⟨bx, o, none⟩)), some (.pointer (some ⟨bx, o, none⟩)), some (.int .i64 v0), some (.int .u64 (z : Int)), some (.slice (some ⟨W.drew.heap.size, 0, none⟩) 1 1), none, none, some (.pointer (some ⟨g, 0, none⟩)), some (.pointer (some ⟨g, 0, none⟩)), none] (by decide) (by decide) (by kernel_rfl) (by kernel_rfl) (rfl) ?_ ?_
  · refine ⟨?_, ?_, ?_, ?_, ?_, ?_, ?_, ?_, ?_, ?_, ?_, ?_, ?_, ?_, ?_, trivial⟩
    · -- 0: slot 9 := Op.move t0
      refine OwesS.q rfl fun a w j u hC hb hs => ⟨rfl, ?_⟩
      have e0 : a.tmps.getD 0 undef = .pointer (some ⟨g, 0, none⟩) := hs.free 0 rfl
      refine ValWp.pure (v := .pointer (some ⟨g, 0, none⟩)) (fun K' hK' => ?_) ⟨rfl, rfl⟩
      simp only [ValWp, execOp, Act.eval, e0]
      go_simp
      all_goals exact hK'
    · -- 1: slot 10 := Op.move t0
      refine OwesS.q rfl fun a w j u hC hb hs => ⟨rfl, ?_⟩
      have e0 : a.tmps.getD 0 undef = .pointer (some ⟨g, 0, none⟩) := hs.free 0 rfl
      refine ValWp.pure (v := .pointer (some ⟨g, 0, none⟩)) (fun K' hK' => ?_) ⟨rfl, rfl⟩
      simp only [ValWp, execOp, Act.eval, e0]
      go_simp
      all_goals exact hK'
    · -- 2: slot 11 := Op.nilCheck t10
      refine OwesS.q rfl fun a w j u hC hb hs => ⟨rfl, ?_⟩
      have e10 : a.tmps.getD 10 undef = .pointer (some ⟨g, 0, none⟩) := hs.dep 1 _ rfl rfl
      refine ValWp.pure (v := .pointer (some ⟨g, 0, none⟩)) (fun K' hK' => ?_) ⟨rfl, rfl⟩
      simp only [ValWp, execOp, Act.eval, e10]
      go_simp
      all_goals exact hK'
    · -- 3: slot 12 := Op.fieldAddr 73 t11 0
      refine OwesS.q rfl fun a w j u hC hb hs => ⟨rfl, ?_⟩
      have e11 : a.tmps.getD 11 undef = .pointer (some ⟨g, 0, none⟩) := hs.dep 2 _ rfl rfl
      refine ValWp.pure (v := .pointer (some ⟨g, 0, none⟩)) (fun K' hK' => ?_) ⟨rfl, rfl⟩
      simp only [ValWp, execOp, Act.eval, e11]
      go_simp
      all_goals exact hK'
    · -- 4: slot 13 := Op.load 43 t12
      refine OwesS.q rfl fun a w j u hC hb hs => ⟨rfl, ?_⟩
      have e12 : a.tmps.getD 12 undef = .pointer (some ⟨g, 0, none⟩) := hs.dep 3 _ rfl rfl
      have hj := hb 3 11 rfl rfl
      have q0 := HG.out j u w hC hj
      refine ValWp.pure (v := .slice A n c) (fun K' hK' => ?_) ⟨rfl, rfl⟩
      simp only [ValWp, execOp, Act.eval, e12]
      go_simp
      all_goals exact hK'
    · -- 5: slot 14 := Op.move t1
      refine OwesS.q rfl fun a w j u hC hb hs => ⟨rfl, ?_⟩
      have e1 : a.tmps.getD 1 undef = .pointer (some ⟨bx, o, none⟩) := hs.free 1 rfl
      refine ValWp.pure (v := .pointer (some ⟨bx, o, none⟩)) (fun K' hK' => ?_) ⟨rfl, rfl⟩
      simp only [ValWp, execOp, Act.eval, e1]
      go_simp
      all_goals exact hK'
    · -- 6: slot 15 := Op.nilCheck t14
      refine OwesS.q rfl fun a w j u hC hb hs => ⟨rfl, ?_⟩
      have e14 : a.tmps.getD 14 undef = .pointer (some ⟨bx, o, none⟩) := hs.dep 5 _ rfl rfl
      refine ValWp.pure (v := .pointer (some ⟨bx, o, none⟩)) (fun K' hK' => ?_) ⟨rfl, rfl⟩
      simp only [ValWp, execOp, Act.eval, e14]
      go_simp
      all_goals exact hK'
    · -- 7: slot 16 := Op.load 2 t15
      refine OwesS.q rfl fun a w j u hC hb hs => ⟨rfl, ?_⟩
      have e15 : a.tmps.getD 15 undef = .pointer (some ⟨bx, o, none⟩) := hs.dep 6 _ rfl rfl
      have hj := hb 0 8 rfl rfl
      have q0 := HX.out j u w hC hj
      refine ValWp.pure (v := .int .i64 v0) (fun K' hK' => ?_) ⟨rfl, rfl⟩
      simp only [ValWp, execOp, Act.eval, e15]
      go_simp
      all_goals exact hK'
    · -- 8: slot 17 := Op.call { value (Operand.func 62), args := #[t16], argTypes := #[2] }
      refine OwesS.w rfl fun a w u hC hl hs => ⟨rfl, fun K hK => ?_⟩
      have e16 : a.tmps.getD 16 undef = .int .i64 v0 := hs.dep 7 _ rfl rfl
      have hw := hC
      subst hw
      refine wp_of_val ?_
      refine ValWp.call #[.int .i64 v0] rfl rfl Try.func62 rfl rfl (by simp only [List.map_toArray, List.map_cons, List.map_nil, Act.eval, e16]) ?_
      refine (HZ.out _).mono ?_
      rintro e w' ⟨rfl, rfl⟩
      exact ⟨_, rfl, hK _ _ rfl ⟨rfl, rfl⟩⟩
    · -- 9: slot 18 := Op.buildSlice 180 1 #[(0, t17)]
      refine OwesS.w rfl fun a w u hC hl hs => ⟨rfl, fun K hK => ?_⟩
      have e17 : a.tmps.getD 17 undef = .int .u64 (z : Int) := hs.dep 8 _ rfl rfl
      obtain ⟨hw, hu⟩ := hC
      subst hw
      refine wp_of_val ?_
      refine ValWp.pure (v := .slice (some ⟨W.drew.heap.size, 0, none⟩) 1 1) (w' := W.drew.alloc (.cells #[.int .u64 (z : Int)] 127)) (fun K' hK' => ?_) (hK _ _ rfl rfl)
      simp only [ValWp, execOp, Act.eval, List.map_toArray, List.map_cons, List.map_nil, e17]
      go_simp
      all_goals exact hK'
    · -- 10: slot 19 := Op.call { value (Operand.func 61), args := #[t18], argTypes := #[180] }
      refine OwesS.w rfl fun a w u hC hl hs => ⟨rfl, fun K hK => ?_⟩
      have e18 : a.tmps.getD 18 undef = .slice (some ⟨W.drew.heap.size, 0, none⟩) 1 1 := hs.dep 9 _ rfl rfl
      have hw := hC
      subst hw
      refine wp_of_val ?_
      refine ValWp.call #[.slice (some ⟨W.drew.heap.size, 0, none⟩) 1 1] rfl rfl Try.func61 rfl rfl (by simp only [List.map_toArray, List.map_cons, List.map_nil, Act.eval, e18]) ?_
      refine HP.out.mono ?_
      rintro e w' ⟨v2, rfl, hg⟩
      exact ⟨_, rfl, hK _ _ trivial (H2.out _ _ hg)⟩
    · -- 11: slot 20 := Op.call { builtin append, args := #[t13, t19], argTypes := #[43, 43] }
      refine OwesS.w rfl fun a w u hC hl hs => ⟨rfl, fun K hK => ?_⟩
      have e13 : a.tmps.getD 13 undef = .slice A n c := hs.dep 4 _ rfl rfl
      have e19 : a.tmps.getD 19 undef = u := hl
      obtain ⟨A2, n2, c2, hu, hn2, hl2, hr2⟩ := hC
      subst hu
      obtain ⟨v', w', hrun, h3⟩ := HAP.out _ A2 n2 c2 hn2 hl2 hr2
      exact owes_append hrun rfl e13 e19 (hK v' w' trivial h3)
    · -- 12: slot 21 := Op.nilCheck t9
      refine OwesS.q rfl fun a w j u hC hb hs => ⟨rfl, ?_⟩
      have e9 : a.tmps.getD 9 undef = .pointer (some ⟨g, 0, none⟩) := hs.dep 0 _ rfl rfl
      refine ValWp.pure (v := .pointer (some ⟨g, 0, none⟩)) (fun K' hK' => ?_) ⟨rfl, rfl⟩
      simp only [ValWp, execOp, Act.eval, e9]
      go_simp
      all_goals exact hK'
    · -- 13: slot 22 := Op.fieldAddr 73 t21 0
      refine OwesS.q rfl fun a w j u hC hb hs => ⟨rfl, ?_⟩
      have e21 : a.tmps.getD 21 undef = .pointer (some ⟨g, 0, none⟩) := hs.dep 12 _ rfl rfl
      refine ValWp.pure (v := .pointer (some ⟨g, 0, none⟩)) (fun K' hK' => ?_) ⟨rfl, rfl⟩
      simp only [ValWp, execOp, Act.eval, e21]
      go_simp
      all_goals exact hK'
    · -- 14: slot None := Op.store 43 t22 t20
      refine OwesS.w rfl fun a w u hC hl hs => ⟨rfl, fun K hK => ?_⟩
      have e22 : a.tmps.getD 22 undef = .pointer (some ⟨g, 0, none⟩) := hs.dep 13 _ rfl rfl
      have e20 : a.tmps.getD 20 undef = u := hl
      obtain ⟨A4, n4, k4, hu, q4, qz⟩ := HU.out u w hC
      subst hu
      refine wp_of_val ?_
      refine ValWp.pure (v := undef) (w' := w.setCell ⟨g, 0, none⟩ (.slice A4 n4 k4)) (fun K' hK' => ?_) (hK _ _ trivial (H5.out _ w hC))
      simp only [ValWp, execOp, Act.eval, e22, e20]
      go_simp
      all_goals exact hK'
  · intro a w u hC hl hd hsz hfree hs
    obtain ⟨u9, hu9⟩ : ∃ u, u = a.tmps.getD 9 undef := ⟨_, rfl⟩
    obtain ⟨u10, hu10⟩ : ∃ u, u = a.tmps.getD 10 undef := ⟨_, rfl⟩
    obtain ⟨u11, hu11⟩ : ∃ u, u = a.tmps.getD 11 undef := ⟨_, rfl⟩
    obtain ⟨u12, hu12⟩ : ∃ u, u = a.tmps.getD 12 undef := ⟨_, rfl⟩
    obtain ⟨u13, hu13⟩ : ∃ u, u = a.tmps.getD 13 undef := ⟨_, rfl⟩
    obtain ⟨u14, hu14⟩ : ∃ u, u = a.tmps.getD 14 undef := ⟨_, rfl⟩
    obtain ⟨u15, hu15⟩ : ∃ u, u = a.tmps.getD 15 undef := ⟨_, rfl⟩
    obtain ⟨u16, hu16⟩ : ∃ u, u = a.tmps.getD 16 undef := ⟨_, rfl⟩
    obtain ⟨u17, hu17⟩ : ∃ u, u = a.tmps.getD 17 undef := ⟨_, rfl⟩
    obtain ⟨u18, hu18⟩ : ∃ u, u = a.tmps.getD 18 undef := ⟨_, rfl⟩
    obtain ⟨u19, hu19⟩ : ∃ u, u = a.tmps.getD 19 undef := ⟨_, rfl⟩
    obtain ⟨u20, hu20⟩ : ∃ u, u = a.tmps.getD 20 undef := ⟨_, rfl⟩
    obtain ⟨u21, hu21⟩ : ∃ u, u = a.tmps.getD 21 undef := ⟨_, rfl⟩
    obtain ⟨u22, hu22⟩ : ∃ u, u = a.tmps.getD 22 undef := ⟨_, rfl⟩
    have hal : AllAt a 0 [_, _, _, _, _, _, _, _, _, u9, u10, u11, u12, u13, u14, u15, u16, u17, u18, u19, u20, u21, u22, _, _, _, _, _, _, _] := ⟨hfree 0 rfl, hfree 1 rfl, hfree 2 rfl, hfree 3 rfl, hfree 4 rfl, hfree 5 rfl, hfree 6 rfl, hfree 7 rfl, hfree 8 rfl, hu9.symm, hu10.symm, hu11.symm, hu12.symm, hu13.symm, hu14.symm, hu15.symm, hu16.symm, hu17.symm, hu18.symm, hu19.symm, hu20.symm, hu21.symm, hu22.symm, hfree 23 rfl, hfree 24 rfl, hfree 25 rfl, hfree 26 rfl, hfree 27 rfl, hfree 28 rfl, hfree 29 rfl, trivial⟩
    have hlit := fun h => act_lit hd h hal
    rw [hlit hsz]
    simp only [Array.getD_eq_getD_getElem?, List.getElem?_toArray, List.getElem?_cons_zero, List.getElem?_cons_succ, Option.getD_some]
    clear hlit hal hd hsz hfree hs hu9 hu10 hu11 hu12 hu13 hu14 hu15 hu16 hu17 hu18 hu19 hu20 hu21 hu22
    have HF := Lib.hid (show POE X w g (b ++ q) ∧ Fr X W w from hC)
    clear hC hl
    go_wp2
    (try simp only [Exit.inBlock, Exit.then]); refine bodyPost_ret (results_none rfl _ _ _) rfl ?_
    exact ⟨rfl, HF.out⟩
set_option maxHeartbeats 1600000 in
theorem errno_out {X : Nat → Prop} {W : World} {g bx o : Nat} {b : B} {v0 : Int} (h : POE X W g b) (hx : W.cell? ⟨bx, o, none⟩ = some (.int .i64 v0)) (hI : I64 v0) (hb : b.length ≤ 1000000000) :
    Calls Try.prog 38 #[.pointer (some ⟨g, 0, none⟩), .pointer (some ⟨bx, o, none⟩)] W fun e W' => e = .returned (.tuple #[]) ∧ POE X W' g (b ++ numP v0) ∧ Fr X W W' := by
  obtain ⟨v, h⟩ := h
  obtain ⟨A, c, rfl, hnc, hrd, _⟩ := own_map h.row
  obtain ⟨n, hn⟩ : ∃ n, n = b.length := ⟨_, rfl⟩
  rw [← hn] at h hnc hrd
  obtain ⟨q, hq⟩ : ∃ q, q = numP v0 := ⟨_, rfl⟩
  rw [← hq]
  obtain ⟨z, hz⟩ : ∃ z, z = (zig v0).toNat := ⟨_, rfl⟩
  have hzl : z < 18446744073709551616 := by rw [hz]; exact zig_nat hI.1 hI.2
  have hqz : q = numL z := by rw [hq, hz]; rfl
  have hq9 : q.length ≤ 2000000000 := by have := numP_len hI; rw [← hq] at this; omega
  have hze := zig_eq hI
  rw [← hz] at hze
  have HZ := Lib.hid (fun w => zig_v v0 w hI.1 hI.2)
  rw [hze] at HZ
  have HP := Lib.hid (put_v (some ⟨W.drew.heap.size, 0, none⟩) 1 1 (W.drew.heap.size + 1) [z] (W.drew.alloc (.cells #[.int .u64 (z : Int)] 127)) (Rd.lit W.drew 127 [.int .u64 (z : Int)]) (by rw [World.size_alloc]; exact Nat.le_refl _) (by omega) (by simpa using hzl))
  rw [show putL [z] = q by rw [hqz]; simp [putL]] at HP
  have hc1 := (cell_row h.box 1).1
  simp at hc1
  have HG := Lib.hid (show ∀ (j : Nat) (u : Value) (x : World), (fun j u x => match j with | 0 => x = W.drew | 1 => x = W.drew ∧ u = .int .u64 (z : Int) | 2 => x = W.drew.alloc (.cells #[.int .u64 (z : Int)] 127) | 3 => ∃ A2 n2 c2, u = .slice A2 n2 c2 ∧ n2 ≤ 2000000000 ∧ Later W x ∧ Rd x x.heap.size A2 n2 (q.map bv) | 4 => x.ownsRow 0 5 1 u ((b ++ q).map bv).length ((b ++ q).map bv) ∧ W.grownBy x (Value.slice A n c).ownBlock ∧ Moved W (.slice A n c) u | _ => POE X x g (b ++ q) ∧ Fr X W x) j u x → j ≤ 3 → x.cell? ⟨g, 0, none⟩ = some (.slice A n c) from fun j u x hC hj => by
    have hl : Later W x := by
      match j, hC, hj with
      | 0, hC, _ => rw [show x = W.drew from hC]; exact Later.drew W
      | 1, hC, _ => rw [show x = W.drew from hC.1]; exact Later.drew W
      | 2, hC, _ => rw [show x = W.drew.alloc (.cells #[.int .u64 (z : Int)] 127) from hC]; exact (Later.drew W).trans (Later.alloc _ _)
      | 3, hC, _ => obtain ⟨_, _, _, _, _, hl, _⟩ := hC; exact hl
      | j + 4, hC, hj => omega
    rw [(cell_row (later_cells hl h.box) 0).1]; rfl)
  have HX := Lib.hid (show ∀ (j : Nat) (u : Value) (x : World), (fun j u x => match j with | 0 => x = W.drew | 1 => x = W.drew ∧ u = .int .u64 (z : Int) | 2 => x = W.drew.alloc (.cells #[.int .u64 (z : Int)] 127) | 3 => ∃ A2 n2 c2, u = .slice A2 n2 c2 ∧ n2 ≤ 2000000000 ∧ Later W x ∧ Rd x x.heap.size A2 n2 (q.map bv) | 4 => x.ownsRow 0 5 1 u ((b ++ q).map bv).length ((b ++ q).map bv) ∧ W.grownBy x (Value.slice A n c).ownBlock ∧ Moved W (.slice A n c) u | _ => POE X x g (b ++ q) ∧ Fr X W x) j u x → j ≤ 0 → x.cell? ⟨bx, o, none⟩ = some (.int .i64 v0) from fun j u x hC hj => by
    obtain rfl : j = 0 := by omega
    rw [show x = W.drew from hC]; exact hx)
  have H2 := Lib.hid (show ∀ (v2 : Value) (x : World), Grew (W.drew.alloc (.cells #[.int .u64 (z : Int)] 127)) x (W.drew.alloc (.cells #[.int .u64 (z : Int)] 127)).heap.size 5 (.slice none 0 0) v2 (q.map bv) → ∃ A2 n2 c2, v2 = .slice A2 n2 c2 ∧ n2 ≤ 2000000000 ∧ Later W x ∧ Rd x x.heap.size A2 n2 (q.map bv) from fun v2 x hg => by
    obtain ⟨A2, c2, rfl, _, hr, _⟩ := own_map hg.own
    exact ⟨A2, _, c2, rfl, hq9, ((Later.drew W).trans (Later.alloc _ _)).trans hg.belowNil, hr⟩)
  have HAP := Lib.hid (show ∀ (x : World) (A2 : Option Addr) (n2 c2 : Nat), n2 ≤ 2000000000 → Later W x → Rd x x.heap.size A2 n2 (q.map bv) → ∃ v' w', (Builtin.append_ #[43, 43] 43 #[.slice A n c, .slice A2 n2 c2]).run Try.prog x = .ok v' w' ∧ (w'.ownsRow 0 5 1 v' ((b ++ q).map bv).length ((b ++ q).map bv) ∧ W.grownBy w' (Value.slice A n c).ownBlock ∧ Moved W (.slice A n c) v') from fun x A2 n2 c2 hn2 hl hr => by
    obtain ⟨i0, hi, hz0, hz1, hz2⟩ := info_parts info_u8
    obtain ⟨v', w', hrun, hg⟩ := run_appN (P := Try.prog) x 0 43 43 5 i0 _ 1 Try.underlying43 hi hz0 hz1 hz2 rfl _ _ (own_below h.row hl) _ A2 n2 c2 _ hr (by intro u hu; obtain ⟨y, _, rfl⟩ := List.mem_map.1 hu; rfl) (by rw [List.length_map]; omega) (by rw [List.length_map]; omega) (Nat.zero_le _)
    refine ⟨v', w', hrun, ?_, later_grown hl hg.grown, ?_⟩
    · have := hg.own
      rw [← List.map_append] at this
      exact this
    · rcases hg.moved with e | ⟨k, e, hk⟩
      · exact .inl e
      · exact .inr ⟨k, e, Nat.le_trans hl.size hk⟩)
  have HU := Lib.hid (show ∀ (u : Value) (x : World), (x.ownsRow 0 5 1 u ((b ++ q).map bv).length ((b ++ q).map bv) ∧ W.grownBy x (Value.slice A n c).ownBlock ∧ Moved W (.slice A n c) u) → ∃ A4 n4 k4, u = .slice A4 n4 k4 ∧ x.cell? ⟨g, 0, none⟩ = some (.slice A n c) ∧ x.frozen? ⟨g, 0, none⟩ = false from fun u x hC => by
    obtain ⟨A4, k4, rfl, _⟩ := own_any hC.1
    have hb := h.held hC.2.1
    exact ⟨A4, _, k4, rfl, by rw [(cell_row hb 0).1]; rfl, (cell_row hb 0).2⟩)
  have H5 := Lib.hid (show ∀ (u : Value) (x : World), (x.ownsRow 0 5 1 u ((b ++ q).map bv).length ((b ++ q).map bv) ∧ W.grownBy x (Value.slice A n c).ownBlock ∧ Moved W (.slice A n c) u) → POE X (x.setCell ⟨g, 0, none⟩ u) g (b ++ q) ∧ Fr X W (x.setCell ⟨g, 0, none⟩ u) from fun u x hC => h.done hC.1 hC.2.1 hC.2.2)
  clear h hx hI hb hnc hrd hn hq hq9 hqz hzl hze hz
  go_enter Try.func38, Try.ntmps38
  go_wp2_with fail
  refine wp_region_seq (by kernel_rfl) [8, 9, 10, 11, 14] (fun j u x => match j with | 0 => x = W.drew | 1 => x = W.drew ∧ u = .int .u64 (z : Int) | 2 => x = W.drew.alloc (.cells #[.int .u64 (z : Int)] 127) | 3 => ∃ A2 n2 c2, u = .slice A2 n2 c2 ∧ n2 ≤ 2000000000 ∧ Later W x ∧ Rd x x.heap.size A2 n2 (q.map bv) | 4 => x.ownsRow 0 5 1 u ((b ++ q).map bv).length ((b ++ q).map bv) ∧ W.grownBy x (Value.slice A n c).ownBlock ∧ Moved W (.slice A n c) u | _ => POE X x g (b ++ q) ∧ Fr X W x) [some (.pointer (some ⟨g, 0, none⟩)), some (.pointer (some ⟨g, 0, none⟩)), some (.pointer (some ⟨g, 0, none⟩)), some (.pointer (some ⟨g, 0, none⟩)), some (.slice A n c), some (.pointer (some ⟨bx, o, none⟩)), some (.pointer (some ⟨bx, o, none⟩)), some (.int .i64 v0), some (.int .u64 (z : Int)), some (.slice (some ⟨W.drew.heap.size, 0, none⟩) 1 1), none, none, some (.pointer (some ⟨g, 0, none⟩)), some (.pointer (some ⟨g, 0, none⟩)), none] (by decide) (by decide) (by kernel_rfl) (by kernel_rfl) (rfl) ?_ ?_
  · refine ⟨?_, ?_, ?_, ?_, ?_, ?_, ?_, ?_, ?_, ?_, ?_, ?_, ?_, ?_, ?_, trivial⟩
    · -- 0: slot 9 := Op.move t0
      refine OwesS.q rfl fun a w j u hC hb hs => ⟨rfl, ?_⟩
      have e0 : a.tmps.getD 0 undef = .pointer (some ⟨g, 0, none⟩) := hs.free 0 rfl
      refine ValWp.pure (v := .pointer (some ⟨g, 0, none⟩)) (fun K' hK' => ?_) ⟨rfl, rfl⟩
      simp only [ValWp, execOp, Act.eval, e0]
      go_simp
      all_goals exact hK'
    · -- 1: slot 10 := Op.move t0
      refine OwesS.q rfl fun a w j u hC hb hs => ⟨rfl, ?_⟩
      have e0 : a.tmps.getD 0 undef = .pointer (some ⟨g, 0, none⟩) := hs.free 0 rfl
      refine ValWp.pure (v := .pointer (some ⟨g, 0, none⟩)) (fun K' hK' => ?_) ⟨rfl, rfl⟩
      simp only [ValWp, execOp, Act.eval, e0]
      go_simp
      all_goals exact hK'
    · -- 2: slot 11 := Op.nilCheck t10
      refine OwesS.q rfl fun a w j u hC hb hs => ⟨rfl, ?_⟩
      have e10 : a.tmps.getD 10 undef = .pointer (some ⟨g, 0, none⟩) := hs.dep 1 _ rfl rfl
      refine ValWp.pure (v := .pointer (some ⟨g, 0, none⟩)) (fun K' hK' => ?_) ⟨rfl, rfl⟩
      simp only [ValWp, execOp, Act.eval, e10]
      go_simp
      all_goals exact hK'
    · -- 3: slot 12 := Op.fieldAddr 73 t11 0
      refine OwesS.q rfl fun a w j u hC hb hs => ⟨rfl, ?_⟩
      have e11 : a.tmps.getD 11 undef = .pointer (some ⟨g, 0, none⟩) := hs.dep 2 _ rfl rfl
      refine ValWp.pure (v := .pointer (some ⟨g, 0, none⟩)) (fun K' hK' => ?_) ⟨rfl, rfl⟩
      simp only [ValWp, execOp, Act.eval, e11]
      go_simp
      all_goals exact hK'
    · -- 4: slot 13 := Op.load 43 t12
      refine OwesS.q rfl fun a w j u hC hb hs => ⟨rfl, ?_⟩
      have e12 : a.tmps.getD 12 undef = .pointer (some ⟨g, 0, none⟩) := hs.dep 3 _ rfl rfl
      have hj := hb 3 11 rfl rfl
      have q0 := HG.out j u w hC hj
      refine ValWp.pure (v := .slice A n c) (fun K' hK' => ?_) ⟨rfl, rfl⟩
      simp only [ValWp, execOp, Act.eval, e12]
      go_simp
      all_goals exact hK'
    · -- 5: slot 14 := Op.move t1
      refine OwesS.q rfl fun a w j u hC hb hs => ⟨rfl, ?_⟩
      have e1 : a.tmps.getD 1 undef = .pointer (some ⟨bx, o, none⟩) := hs.free 1 rfl
      refine ValWp.pure (v := .pointer (some ⟨bx, o, none⟩)) (fun K' hK' => ?_) ⟨rfl, rfl⟩
      simp only [ValWp, execOp, Act.eval, e1]
      go_simp
      all_goals exact hK'
    · -- 6: slot 15 := Op.nilCheck t14
      refine OwesS.q rfl fun a w j u hC hb hs => ⟨rfl, ?_⟩
      have e14 : a.tmps.getD 14 undef = .pointer (some ⟨bx, o, none⟩) := hs.dep 5 _ rfl rfl
      refine ValWp.pure (v := .pointer (some ⟨bx, o, none⟩)) (fun K' hK' => ?_) ⟨rfl, rfl⟩
      simp only [ValWp, execOp, Act.eval, e14]
      go_simp
      all_goals exact hK'
    · -- 7: slot 16 := Op.load 38 t15
      refine OwesS.q rfl fun a w j u hC hb hs => ⟨rfl, ?_⟩
      have e15 : a.tmps.getD 15 undef = .pointer (some ⟨bx, o, none⟩) := hs.dep 6 _ rfl rfl
      have hj := hb 0 8 rfl rfl
      have q0 := HX.out j u w hC hj
      refine ValWp.pure (v := .int .i64 v0) (fun K' hK' => ?_) ⟨rfl, rfl⟩
      simp only [ValWp, execOp, Act.eval, e15]
      go_simp
      all_goals exact hK'
    · -- 8: slot 17 := Op.call { value (Operand.func 62), args := #[t16], argTypes := #[2] }
      refine OwesS.w rfl fun a w u hC hl hs => ⟨rfl, fun K hK => ?_⟩
      have e16 : a.tmps.getD 16 undef = .int .i64 v0 := hs.dep 7 _ rfl rfl
      have hw := hC
      subst hw
      refine wp_of_val ?_
      refine ValWp.call #[.int .i64 v0] rfl rfl Try.func62 rfl rfl (by simp only [List.map_toArray, List.map_cons, List.map_nil, Act.eval, e16]) ?_
      refine (HZ.out _).mono ?_
      rintro e w' ⟨rfl, rfl⟩
      exact ⟨_, rfl, hK _ _ rfl ⟨rfl, rfl⟩⟩
    · -- 9: slot 18 := Op.buildSlice 180 1 #[(0, t17)]
      refine OwesS.w rfl fun a w u hC hl hs => ⟨rfl, fun K hK => ?_⟩
      have e17 : a.tmps.getD 17 undef = .int .u64 (z : Int) := hs.dep 8 _ rfl rfl
      obtain ⟨hw, hu⟩ := hC
      subst hw
      refine wp_of_val ?_
      refine ValWp.pure (v := .slice (some ⟨W.drew.heap.size, 0, none⟩) 1 1) (w' := W.drew.alloc (.cells #[.int .u64 (z : Int)] 127)) (fun K' hK' => ?_) (hK _ _ rfl rfl)
      simp only [ValWp, execOp, Act.eval, List.map_toArray, List.map_cons, List.map_nil, e17]
      go_simp
      all_goals exact hK'
    · -- 10: slot 19 := Op.call { value (Operand.func 61), args := #[t18], argTypes := #[180] }
      refine OwesS.w rfl fun a w u hC hl hs => ⟨rfl, fun K hK => ?_⟩
      have e18 : a.tmps.getD 18 undef = .slice (some ⟨W.drew.heap.size, 0, none⟩) 1 1 := hs.dep 9 _ rfl rfl
      have hw := hC
      subst hw
      refine wp_of_val ?_
      refine ValWp.call #[.slice (some ⟨W.drew.heap.size, 0, none⟩) 1 1] rfl rfl Try.func61 rfl rfl (by simp only [List.map_toArray, List.map_cons, List.map_nil, Act.eval, e18]) ?_
      refine HP.out.mono ?_
      rintro e w' ⟨v2, rfl, hg⟩
      exact ⟨_, rfl, hK _ _ trivial (H2.out _ _ hg)⟩
    · -- 11: slot 20 := Op.call { builtin append, args := #[t13, t19], argTypes := #[43, 43] }
      refine OwesS.w rfl fun a w u hC hl hs => ⟨rfl, fun K hK => ?_⟩
      have e13 : a.tmps.getD 13 undef = .slice A n c := hs.dep 4 _ rfl rfl
      have e19 : a.tmps.getD 19 undef = u := hl
      obtain ⟨A2, n2, c2, hu, hn2, hl2, hr2⟩ := hC
      subst hu
      obtain ⟨v', w', hrun, h3⟩ := HAP.out _ A2 n2 c2 hn2 hl2 hr2
      exact owes_append hrun rfl e13 e19 (hK v' w' trivial h3)
    · -- 12: slot 21 := Op.nilCheck t9
      refine OwesS.q rfl fun a w j u hC hb hs => ⟨rfl, ?_⟩
      have e9 : a.tmps.getD 9 undef = .pointer (some ⟨g, 0, none⟩) := hs.dep 0 _ rfl rfl
      refine ValWp.pure (v := .pointer (some ⟨g, 0, none⟩)) (fun K' hK' => ?_) ⟨rfl, rfl⟩
      simp only [ValWp, execOp, Act.eval, e9]
      go_simp
      all_goals exact hK'
    · -- 13: slot 22 := Op.fieldAddr 73 t21 0
      refine OwesS.q rfl fun a w j u hC hb hs => ⟨rfl, ?_⟩
      have e21 : a.tmps.getD 21 undef = .pointer (some ⟨g, 0, none⟩) := hs.dep 12 _ rfl rfl
      refine ValWp.pure (v := .pointer (some ⟨g, 0, none⟩)) (fun K' hK' => ?_) ⟨rfl, rfl⟩
      simp only [ValWp, execOp, Act.eval, e21]
      go_simp
      all_goals exact hK'
    · -- 14: slot None := Op.store 43 t22 t20
      refine OwesS.w rfl fun a w u hC hl hs => ⟨rfl, fun K hK => ?_⟩
      have e22 : a.tmps.getD 22 undef = .pointer (some ⟨g, 0, none⟩) := hs.dep 13 _ rfl rfl
      have e20 : a.tmps.getD 20 undef = u := hl
      obtain ⟨A4, n4, k4, hu, q4, qz⟩ := HU.out u w hC
      subst hu
      refine wp_of_val ?_
      refine ValWp.pure (v := undef) (w' := w.setCell ⟨g, 0, none⟩ (.slice A4 n4 k4)) (fun K' hK' => ?_) (hK _ _ trivial (H5.out _ w hC))
      simp only [ValWp, execOp, Act.eval, e22, e20]
      go_simp
      all_goals exact hK'
  · intro a w u hC hl hd hsz hfree hs
    obtain ⟨u9, hu9⟩ : ∃ u, u = a.tmps.getD 9 undef := ⟨_, rfl⟩
    obtain ⟨u10, hu10⟩ : ∃ u, u = a.tmps.getD 10 undef := ⟨_, rfl⟩
    obtain ⟨u11, hu11⟩ : ∃ u, u = a.tmps.getD 11 undef := ⟨_, rfl⟩
    obtain ⟨u12, hu12⟩ : ∃ u, u = a.tmps.getD 12 undef := ⟨_, rfl⟩
    obtain ⟨u13, hu13⟩ : ∃ u, u = a.tmps.getD 13 undef := ⟨_, rfl⟩
    obtain ⟨u14, hu14⟩ : ∃ u, u = a.tmps.getD 14 undef := ⟨_, rfl⟩
    obtain ⟨u15, hu15⟩ : ∃ u, u = a.tmps.getD 15 undef := ⟨_, rfl⟩
    obtain ⟨u16, hu16⟩ : ∃ u, u = a.tmps.getD 16 undef := ⟨_, rfl⟩
    obtain ⟨u17, hu17⟩ : ∃ u, u = a.tmps.getD 17 undef := ⟨_, rfl⟩
    obtain ⟨u18, hu18⟩ : ∃ u, u = a.tmps.getD 18 undef := ⟨_, rfl⟩
    obtain ⟨u19, hu19⟩ : ∃ u, u = a.tmps.getD 19 undef := ⟨_, rfl⟩
    obtain ⟨u20, hu20⟩ : ∃ u, u = a.tmps.getD 20 undef := ⟨_, rfl⟩
    obtain ⟨u21, hu21⟩ : ∃ u, u = a.tmps.getD 21 undef := ⟨_, rfl⟩
    obtain ⟨u22, hu22⟩ : ∃ u, u = a.tmps.getD 22 undef := ⟨_, rfl⟩
    have hal : AllAt a 0 [_, _, _, _, _, _, _, _, _, u9, u10, u11, u12, u13, u14, u15, u16, u17, u18, u19, u20, u21, u22, _, _, _, _, _, _, _] := ⟨hfree 0 rfl, hfree 1 rfl, hfree 2 rfl, hfree 3 rfl, hfree 4 rfl, hfree 5 rfl, hfree 6 rfl, hfree 7 rfl, hfree 8 rfl, hu9.symm, hu10.symm, hu11.symm, hu12.symm, hu13.symm, hu14.symm, hu15.symm, hu16.symm, hu17.symm, hu18.symm, hu19.symm, hu20.symm, hu21.symm, hu22.symm, hfree 23 rfl, hfree 24 rfl, hfree 25 rfl, hfree 26 rfl, hfree 27 rfl, hfree 28 rfl, hfree 29 rfl, trivial⟩
    have hlit := fun h => act_lit hd h hal
    rw [hlit hsz]
    simp only [Array.getD_eq_getD_getElem?, List.getElem?_toArray, List.getElem?_cons_zero, List.getElem?_cons_succ, Option.getD_some]
    clear hlit hal hd hsz hfree hs hu9 hu10 hu11 hu12 hu13 hu14 hu15 hu16 hu17 hu18 hu19 hu20 hu21 hu22
    have HF := Lib.hid (show POE X w g (b ++ q) ∧ Fr X W w from hC)
    clear hC hl
    go_wp2
    (try simp only [Exit.inBlock, Exit.then]); refine bodyPost_ret (results_none rfl _ _ _) rfl ?_
    exact ⟨rfl, HF.out⟩
set_option maxHeartbeats 1600000 in
theorem text_out {X : Nat → Prop} {W : World} {g bx o : Nat} {b : B} {t : B} (h : POE X W g b) (hx : W.cell? ⟨bx, o, none⟩ = some (.string (mkS t))) (hI : t.length ≤ 1000000000) (hb : b.length ≤ 1000000000) :
    Calls Try.prog 29 #[.pointer (some ⟨g, 0, none⟩), .pointer (some ⟨bx, o, none⟩)] W fun e W' => e = .returned (.tuple #[]) ∧ POE X W' g (b ++ textB t) ∧ Fr X W W' := by
  obtain ⟨v, h⟩ := h
  obtain ⟨A, c, rfl, hnc, hrd, _⟩ := own_map h.row
  obtain ⟨n, hn⟩ : ∃ n, n = b.length := ⟨_, rfl⟩
  rw [← hn] at h hnc hrd
  obtain ⟨q, hq⟩ : ∃ q, q = textB t := ⟨_, rfl⟩
  rw [← hq]
  have hq9 : q.length ≤ 2000000000 := by
    have := numL_ten (x := t.length) (by omega)
    rw [hq, textB, List.length_append]; omega
  have hs1 : (textsL [mkS t]).length ≤ 100000000000000 := by
    have e : textsL [mkS t] = q := by rw [hq]; exact texts_one t
    rw [e]; omega
  have HP := Lib.hid (texts_v (some ⟨W.drew.heap.size, 0, none⟩) 1 1 (W.drew.heap.size + 1) [mkS t] (W.drew.alloc (.cells #[.string (mkS t)] 9)) (Rd.lit W.drew 9 [.string (mkS t)]) (by rw [World.size_alloc]; exact Nat.le_refl _) (by omega) hs1)
  rw [show textsL [mkS t] = q by rw [hq]; exact texts_one t] at HP
  clear hs1
  have hc1 := (cell_row h.box 1).1
  simp at hc1
  have HG := Lib.hid (show ∀ (j : Nat) (u : Value) (x : World), (fun j u x => match j with | 0 => x = W.drew | 1 => x = W.drew.alloc (.cells #[.string (mkS t)] 9) | 2 => ∃ A2 n2 c2, u = .slice A2 n2 c2 ∧ n2 ≤ 2000000000 ∧ Later W x ∧ Rd x x.heap.size A2 n2 (q.map bv) | 3 => x.ownsRow 0 5 1 u ((b ++ q).map bv).length ((b ++ q).map bv) ∧ W.grownBy x (Value.slice A n c).ownBlock ∧ Moved W (.slice A n c) u | _ => POE X x g (b ++ q) ∧ Fr X W x) j u x → j ≤ 2 → x.cell? ⟨g, 0, none⟩ = some (.slice A n c) from fun j u x hC hj => by
    have hl : Later W x := by
      match j, hC, hj with
      | 0, hC, _ => rw [show x = W.drew from hC]; exact Later.drew W
      | 1, hC, _ => rw [show x = W.drew.alloc (.cells #[.string (mkS t)] 9) from hC]; exact (Later.drew W).trans (Later.alloc _ _)
      | 2, hC, _ => obtain ⟨_, _, _, _, _, hl, _⟩ := hC; exact hl
      | j + 3, hC, hj => omega
    rw [(cell_row (later_cells hl h.box) 0).1]; rfl)
  have HX := Lib.hid (show ∀ (j : Nat) (u : Value) (x : World), (fun j u x => match j with | 0 => x = W.drew | 1 => x = W.drew.alloc (.cells #[.string (mkS t)] 9) | 2 => ∃ A2 n2 c2, u = .slice A2 n2 c2 ∧ n2 ≤ 2000000000 ∧ Later W x ∧ Rd x x.heap.size A2 n2 (q.map bv) | 3 => x.ownsRow 0 5 1 u ((b ++ q).map bv).length ((b ++ q).map bv) ∧ W.grownBy x (Value.slice A n c).ownBlock ∧ Moved W (.slice A n c) u | _ => POE X x g (b ++ q) ∧ Fr X W x) j u x → j ≤ 0 → x.cell? ⟨bx, o, none⟩ = some (.string (mkS t)) from fun j u x hC hj => by
    obtain rfl : j = 0 := by omega
    rw [show x = W.drew from hC]; exact hx)
  have H2 := Lib.hid (show ∀ (v2 : Value) (x : World), Grew (W.drew.alloc (.cells #[.string (mkS t)] 9)) x (W.drew.alloc (.cells #[.string (mkS t)] 9)).heap.size 5 (.slice none 0 0) v2 (q.map bv) → ∃ A2 n2 c2, v2 = .slice A2 n2 c2 ∧ n2 ≤ 2000000000 ∧ Later W x ∧ Rd x x.heap.size A2 n2 (q.map bv) from fun v2 x hg => by
    obtain ⟨A2, c2, rfl, _, hr, _⟩ := own_map hg.own
    exact ⟨A2, _, c2, rfl, hq9, ((Later.drew W).trans (Later.alloc _ _)).trans hg.belowNil, hr⟩)
  have HAP := Lib.hid (show ∀ (x : World) (A2 : Option Addr) (n2 c2 : Nat), n2 ≤ 2000000000 → Later W x → Rd x x.heap.size A2 n2 (q.map bv) → ∃ v' w', (Builtin.append_ #[43, 43] 43 #[.slice A n c, .slice A2 n2 c2]).run Try.prog x = .ok v' w' ∧ (w'.ownsRow 0 5 1 v' ((b ++ q).map bv).length ((b ++ q).map bv) ∧ W.grownBy w' (Value.slice A n c).ownBlock ∧ Moved W (.slice A n c) v') from fun x A2 n2 c2 hn2 hl hr => by
    obtain ⟨i0, hi, hz0, hz1, hz2⟩ := info_parts info_u8
    obtain ⟨v', w', hrun, hg⟩ := run_appN (P := Try.prog) x 0 43 43 5 i0 _ 1 Try.underlying43 hi hz0 hz1 hz2 rfl _ _ (own_below h.row hl) _ A2 n2 c2 _ hr (by intro u hu; obtain ⟨y, _, rfl⟩ := List.mem_map.1 hu; rfl) (by rw [List.length_map]; omega) (by rw [List.length_map]; omega) (Nat.zero_le _)
    refine ⟨v', w', hrun, ?_, later_grown hl hg.grown, ?_⟩
    · have := hg.own
      rw [← List.map_append] at this
      exact this
    · rcases hg.moved with e | ⟨k, e, hk⟩
      · exact .inl e
      · exact .inr ⟨k, e, Nat.le_trans hl.size hk⟩)
  have HU := Lib.hid (show ∀ (u : Value) (x : World), (x.ownsRow 0 5 1 u ((b ++ q).map bv).length ((b ++ q).map bv) ∧ W.grownBy x (Value.slice A n c).ownBlock ∧ Moved W (.slice A n c) u) → ∃ A4 n4 k4, u = .slice A4 n4 k4 ∧ x.cell? ⟨g, 0, none⟩ = some (.slice A n c) ∧ x.frozen? ⟨g, 0, none⟩ = false from fun u x hC => by
    obtain ⟨A4, k4, rfl, _⟩ := own_any hC.1
    have hb := h.held hC.2.1
    exact ⟨A4, _, k4, rfl, by rw [(cell_row hb 0).1]; rfl, (cell_row hb 0).2⟩)
  have H5 := Lib.hid (show ∀ (u : Value) (x : World), (x.ownsRow 0 5 1 u ((b ++ q).map bv).length ((b ++ q).map bv) ∧ W.grownBy x (Value.slice A n c).ownBlock ∧ Moved W (.slice A n c) u) → POE X (x.setCell ⟨g, 0, none⟩ u) g (b ++ q) ∧ Fr X W (x.setCell ⟨g, 0, none⟩ u) from fun u x hC => h.done hC.1 hC.2.1 hC.2.2)
  clear h hx hI hb hnc hrd hn hq hq9
  go_enter Try.func29, Try.ntmps29
  go_wp2_with fail
  refine wp_region_seq (by kernel_rfl) [8, 9, 10, 13] (fun j u x => match j with | 0 => x = W.drew | 1 => x = W.drew.alloc (.cells #[.string (mkS t)] 9) | 2 => ∃ A2 n2 c2, u = .slice A2 n2 c2 ∧ n2 ≤ 2000000000 ∧ Later W x ∧ Rd x x.heap.size A2 n2 (q.map bv) | 3 => x.ownsRow 0 5 1 u ((b ++ q).map bv).length ((b ++ q).map bv) ∧ W.grownBy x (Value.slice A n c).ownBlock ∧ Moved W (.slice A n c) u | _ => POE X x g (b ++ q) ∧ Fr X W x) [some (.pointer (some ⟨g, 0, none⟩)), some (.pointer (some ⟨g, 0, none⟩)), some (.pointer (some ⟨g, 0, none⟩)), some (.pointer (some ⟨g, 0, none⟩)), some (.slice A n c), some (.pointer (some ⟨bx, o, none⟩)), some (.pointer (some ⟨bx, o, none⟩)), some (.string (mkS t)), some (.slice (some ⟨W.drew.heap.size, 0, none⟩) 1 1), none, none, some (.pointer (some ⟨g, 0, none⟩)), some (.pointer (some ⟨g, 0, none⟩)), none] (by decide) (by decide) (by kernel_rfl) (by kernel_rfl) (rfl) ?_ ?_
  · refine ⟨?_, ?_, ?_, ?_, ?_, ?_, ?_, ?_, ?_, ?_, ?_, ?_, ?_, ?_, trivial⟩
    · -- 0: slot 9 := Op.move t0
      refine OwesS.q rfl fun a w j u hC hb hs => ⟨rfl, ?_⟩
      have e0 : a.tmps.getD 0 undef = .pointer (some ⟨g, 0, none⟩) := hs.free 0 rfl
      refine ValWp.pure (v := .pointer (some ⟨g, 0, none⟩)) (fun K' hK' => ?_) ⟨rfl, rfl⟩
      simp only [ValWp, execOp, Act.eval, e0]
      go_simp
      all_goals exact hK'
    · -- 1: slot 10 := Op.move t0
      refine OwesS.q rfl fun a w j u hC hb hs => ⟨rfl, ?_⟩
      have e0 : a.tmps.getD 0 undef = .pointer (some ⟨g, 0, none⟩) := hs.free 0 rfl
      refine ValWp.pure (v := .pointer (some ⟨g, 0, none⟩)) (fun K' hK' => ?_) ⟨rfl, rfl⟩
      simp only [ValWp, execOp, Act.eval, e0]
      go_simp
      all_goals exact hK'
    · -- 2: slot 11 := Op.nilCheck t10
      refine OwesS.q rfl fun a w j u hC hb hs => ⟨rfl, ?_⟩
      have e10 : a.tmps.getD 10 undef = .pointer (some ⟨g, 0, none⟩) := hs.dep 1 _ rfl rfl
      refine ValWp.pure (v := .pointer (some ⟨g, 0, none⟩)) (fun K' hK' => ?_) ⟨rfl, rfl⟩
      simp only [ValWp, execOp, Act.eval, e10]
      go_simp
      all_goals exact hK'
    · -- 3: slot 12 := Op.fieldAddr 73 t11 0
      refine OwesS.q rfl fun a w j u hC hb hs => ⟨rfl, ?_⟩
      have e11 : a.tmps.getD 11 undef = .pointer (some ⟨g, 0, none⟩) := hs.dep 2 _ rfl rfl
      refine ValWp.pure (v := .pointer (some ⟨g, 0, none⟩)) (fun K' hK' => ?_) ⟨rfl, rfl⟩
      simp only [ValWp, execOp, Act.eval, e11]
      go_simp
      all_goals exact hK'
    · -- 4: slot 13 := Op.load 43 t12
      refine OwesS.q rfl fun a w j u hC hb hs => ⟨rfl, ?_⟩
      have e12 : a.tmps.getD 12 undef = .pointer (some ⟨g, 0, none⟩) := hs.dep 3 _ rfl rfl
      have hj := hb 2 10 rfl rfl
      have q0 := HG.out j u w hC hj
      refine ValWp.pure (v := .slice A n c) (fun K' hK' => ?_) ⟨rfl, rfl⟩
      simp only [ValWp, execOp, Act.eval, e12]
      go_simp
      all_goals exact hK'
    · -- 5: slot 14 := Op.move t1
      refine OwesS.q rfl fun a w j u hC hb hs => ⟨rfl, ?_⟩
      have e1 : a.tmps.getD 1 undef = .pointer (some ⟨bx, o, none⟩) := hs.free 1 rfl
      refine ValWp.pure (v := .pointer (some ⟨bx, o, none⟩)) (fun K' hK' => ?_) ⟨rfl, rfl⟩
      simp only [ValWp, execOp, Act.eval, e1]
      go_simp
      all_goals exact hK'
    · -- 6: slot 15 := Op.nilCheck t14
      refine OwesS.q rfl fun a w j u hC hb hs => ⟨rfl, ?_⟩
      have e14 : a.tmps.getD 14 undef = .pointer (some ⟨bx, o, none⟩) := hs.dep 5 _ rfl rfl
      refine ValWp.pure (v := .pointer (some ⟨bx, o, none⟩)) (fun K' hK' => ?_) ⟨rfl, rfl⟩
      simp only [ValWp, execOp, Act.eval, e14]
      go_simp
      all_goals exact hK'
    · -- 7: slot 16 := Op.load 9 t15
      refine OwesS.q rfl fun a w j u hC hb hs => ⟨rfl, ?_⟩
      have e15 : a.tmps.getD 15 undef = .pointer (some ⟨bx, o, none⟩) := hs.dep 6 _ rfl rfl
      have hj := hb 0 8 rfl rfl
      have q0 := HX.out j u w hC hj
      refine ValWp.pure (v := .string (mkS t)) (fun K' hK' => ?_) ⟨rfl, rfl⟩
      simp only [ValWp, execOp, Act.eval, e15]
      go_simp
      all_goals exact hK'
    · -- 8: slot 17 := Op.buildSlice 23 1 #[(0, t16)]
      refine OwesS.w rfl fun a w u hC hl hs => ⟨rfl, fun K hK => ?_⟩
      have e16 : a.tmps.getD 16 undef = .string (mkS t) := hs.dep 7 _ rfl rfl
      have hw := hC
      subst hw
      refine wp_of_val ?_
      refine ValWp.pure (v := .slice (some ⟨W.drew.heap.size, 0, none⟩) 1 1) (w' := W.drew.alloc (.cells #[.string (mkS t)] 9)) (fun K' hK' => ?_) (hK _ _ rfl rfl)
      simp only [ValWp, execOp, Act.eval, List.map_toArray, List.map_cons, List.map_nil, e16]
      go_simp
      all_goals exact hK'
    · -- 9: slot 18 := Op.call { value (Operand.func 52), args := #[t17], argTypes := #[23] }
      refine OwesS.w rfl fun a w u hC hl hs => ⟨rfl, fun K hK => ?_⟩
      have e17 : a.tmps.getD 17 undef = .slice (some ⟨W.drew.heap.size, 0, none⟩) 1 1 := hs.dep 8 _ rfl rfl
      have hw := hC
      subst hw
      refine wp_of_val ?_
      refine ValWp.call #[.slice (some ⟨W.drew.heap.size, 0, none⟩) 1 1] rfl rfl Try.func52 rfl rfl (by simp only [List.map_toArray, List.map_cons, List.map_nil, Act.eval, e17]) ?_
      refine HP.out.mono ?_
      rintro e w' ⟨v2, rfl, hg⟩
      exact ⟨_, rfl, hK _ _ trivial (H2.out _ _ hg)⟩
    · -- 10: slot 19 := Op.call { builtin append, args := #[t13, t18], argTypes := #[43, 43] }
      refine OwesS.w rfl fun a w u hC hl hs => ⟨rfl, fun K hK => ?_⟩
      have e13 : a.tmps.getD 13 undef = .slice A n c := hs.dep 4 _ rfl rfl
      have e18 : a.tmps.getD 18 undef = u := hl
      obtain ⟨A2, n2, c2, hu, hn2, hl2, hr2⟩ := hC
      subst hu
      obtain ⟨v', w', hrun, h3⟩ := HAP.out _ A2 n2 c2 hn2 hl2 hr2
      exact owes_append hrun rfl e13 e18 (hK v' w' trivial h3)
    · -- 11: slot 20 := Op.nilCheck t9
      refine OwesS.q rfl fun a w j u hC hb hs => ⟨rfl, ?_⟩
      have e9 : a.tmps.getD 9 undef = .pointer (some ⟨g, 0, none⟩) := hs.dep 0 _ rfl rfl
      refine ValWp.pure (v := .pointer (some ⟨g, 0, none⟩)) (fun K' hK' => ?_) ⟨rfl, rfl⟩
      simp only [ValWp, execOp, Act.eval, e9]
      go_simp
      all_goals exact hK'
    · -- 12: slot 21 := Op.fieldAddr 73 t20 0
      refine OwesS.q rfl fun a w j u hC hb hs => ⟨rfl, ?_⟩
      have e20 : a.tmps.getD 20 undef = .pointer (some ⟨g, 0, none⟩) := hs.dep 11 _ rfl rfl
      refine ValWp.pure (v := .pointer (some ⟨g, 0, none⟩)) (fun K' hK' => ?_) ⟨rfl, rfl⟩
      simp only [ValWp, execOp, Act.eval, e20]
      go_simp
      all_goals exact hK'
    · -- 13: slot None := Op.store 43 t21 t19
      refine OwesS.w rfl fun a w u hC hl hs => ⟨rfl, fun K hK => ?_⟩
      have e21 : a.tmps.getD 21 undef = .pointer (some ⟨g, 0, none⟩) := hs.dep 12 _ rfl rfl
      have e19 : a.tmps.getD 19 undef = u := hl
      obtain ⟨A4, n4, k4, hu, q4, qz⟩ := HU.out u w hC
      subst hu
      refine wp_of_val ?_
      refine ValWp.pure (v := undef) (w' := w.setCell ⟨g, 0, none⟩ (.slice A4 n4 k4)) (fun K' hK' => ?_) (hK _ _ trivial (H5.out _ w hC))
      simp only [ValWp, execOp, Act.eval, e21, e19]
      go_simp
      all_goals exact hK'
  · intro a w u hC hl hd hsz hfree hs
    obtain ⟨u9, hu9⟩ : ∃ u, u = a.tmps.getD 9 undef := ⟨_, rfl⟩
    obtain ⟨u10, hu10⟩ : ∃ u, u = a.tmps.getD 10 undef := ⟨_, rfl⟩
    obtain ⟨u11, hu11⟩ : ∃ u, u = a.tmps.getD 11 undef := ⟨_, rfl⟩
    obtain ⟨u12, hu12⟩ : ∃ u, u = a.tmps.getD 12 undef := ⟨_, rfl⟩
    obtain ⟨u13, hu13⟩ : ∃ u, u = a.tmps.getD 13 undef := ⟨_, rfl⟩
    obtain ⟨u14, hu14⟩ : ∃ u, u = a.tmps.getD 14 undef := ⟨_, rfl⟩
    obtain ⟨u15, hu15⟩ : ∃ u, u = a.tmps.getD 15 undef := ⟨_, rfl⟩
    obtain ⟨u16, hu16⟩ : ∃ u, u = a.tmps.getD 16 undef := ⟨_, rfl⟩
    obtain ⟨u17, hu17⟩ : ∃ u, u = a.tmps.getD 17 undef := ⟨_, rfl⟩
    obtain ⟨u18, hu18⟩ : ∃ u, u = a.tmps.getD 18 undef := ⟨_, rfl⟩
    obtain ⟨u19, hu19⟩ : ∃ u, u = a.tmps.getD 19 undef := ⟨_, rfl⟩
    obtain ⟨u20, hu20⟩ : ∃ u, u = a.tmps.getD 20 undef := ⟨_, rfl⟩
    obtain ⟨u21, hu21⟩ : ∃ u, u = a.tmps.getD 21 undef := ⟨_, rfl⟩
    have hal : AllAt a 0 [_, _, _, _, _, _, _, _, _, u9, u10, u11, u12, u13, u14, u15, u16, u17, u18, u19, u20, u21, _, _, _, _, _, _, _] := ⟨hfree 0 rfl, hfree 1 rfl, hfree 2 rfl, hfree 3 rfl, hfree 4 rfl, hfree 5 rfl, hfree 6 rfl, hfree 7 rfl, hfree 8 rfl, hu9.symm, hu10.symm, hu11.symm, hu12.symm, hu13.symm, hu14.symm, hu15.symm, hu16.symm, hu17.symm, hu18.symm, hu19.symm, hu20.symm, hu21.symm, hfree 22 rfl, hfree 23 rfl, hfree 24 rfl, hfree 25 rfl, hfree 26 rfl, hfree 27 rfl, hfree 28 rfl, trivial⟩
    have hlit := fun h => act_lit hd h hal
    rw [hlit hsz]
    simp only [Array.getD_eq_getD_getElem?, List.getElem?_toArray, List.getElem?_cons_zero, List.getElem?_cons_succ, Option.getD_some]
    clear hlit hal hd hsz hfree hs hu9 hu10 hu11 hu12 hu13 hu14 hu15 hu16 hu17 hu18 hu19 hu20 hu21
    have HF := Lib.hid (show POE X w g (b ++ q) ∧ Fr X W w from hC)
    clear hC hl
    go_wp2
    (try simp only [Exit.inBlock, Exit.then]); refine bodyPost_ret (results_none rfl _ _ _) rfl ?_
    exact ⟨rfl, HF.out⟩
end Ks
end Go.Proofs.Yteljmlodbnfhbaa
