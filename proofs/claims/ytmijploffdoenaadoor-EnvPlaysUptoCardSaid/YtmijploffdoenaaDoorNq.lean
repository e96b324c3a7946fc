/- THE DOCUMENT'S Flag. No premises. -/
import Derived.Test.YtmijploffdoenaaDoorNx
namespace Go.Proofs.YtmijploffdoenaaDoor
open Go.RowKit Go.Maps
namespace En
theorem set_text (S : B) (k : Nat) (c : UInt8) (hk : k < S.length) (h : S[k] = c) : (mkS S).extract k (k + 1) = mkS [c] := by
  apply ByteArray.ext
  simp [mkS]
  rw [List.drop_eq_getElem_cons hk, h]
  rfl
theorem slice_one (t : B) (k : Nat) (htl : k < t.length) (c : UInt8) (hc : t[k] = c) (wr : World) : (Instr.slice 9 (.string (mkS t)) (some (.int .i64 (k : Int))) (some (.int .i64 ((k : Int) + 1))) none).run Tryd.prog wr = .ok (.string (mkS [c])) wr := by
  have HEX := set_text t k c htl hc
  have us := Tryd.underlying9
  have hts : (mkS t).size = t.length := mkS_size t
  have hk2 : (k : Int) + 1 ≤ ((mkS t).size : Int) := by omega
  have hk0 : (0 : Int) ≤ (k : Int) := by omega
  have hk3 : (k : Int) ≤ (k : Int) + 1 := by omega
  have hn1 : ((k : Int) + 1).toNat = k + 1 := by omega
  clear hts
  go_simp
def flagW (f : B) (q : UInt8) (on : Bool) (x : UInt8) : Bool := if x = q then on else f.contains x
theorem flagW_take (f : B) (q : UInt8) (on : Bool) {l : B} {k : Nat} (h : k < l.length) : (l.take (k + 1)).filter (flagW f q on) = (l.take k).filter (flagW f q on) ++ (if flagW f q on l[k] = true then [l[k]] else []) := by
  rw [List.take_succ_eq_append_getElem h, List.filter_append]
  by_cases e : flagW f q on l[k] = true
  · rw [if_pos e, List.filter_cons, if_pos e]; rfl
  · rw [if_neg e, List.filter_cons, if_neg e]; rfl
theorem flagW_step (f : B) (q : UInt8) (on : Bool) {l : B} {k : Nat} (h : k < l.length) {x : UInt8} (hx : l[k] = x) : (l.take (k + 1)).filter (flagW f q on) = (l.take k).filter (flagW f q on) ++ (if flagW f q on x = true then [x] else []) := by subst hx; exact flagW_take f q on h
set_option maxRecDepth 100000 in
set_option maxHeartbeats 6400000 in
theorem rflag_x (Av : Option Addr) (nv cv : Nat) (A : Option Addr) (n c : Nat) (st : Int) (f : B) (q : UInt8) (on : Bool) (W : World) (hf : f.length ≤ 9223372036854775807) : Calls Tryd.prog 13 #[.agg #[.slice Av nv cv, .slice A n c, .int .i64 st, .string (mkS f)], .int .u8 (q.toNat : Int), .bool on] W fun x W' => x = .returned (.agg #[.slice Av nv cv, .slice A n c, .int .i64 st, .string (mkS (flag f q on))]) ∧ Later W W' := by
  have HH := Lib.hid (fun x W => rhas_x (.slice Av nv cv) A n c st f x W hf)
  have hfl : flag f q on = efux.filter (flagW f q on) := rfl
  rw [hfl]
  clear hfl
  have hl4 : efux.length = 4 := rfl
  have HF := Lib.hid (show Later W ((W.alloc (.cells #[.slice Av nv cv, .slice A n c, .int .i64 st, .string (mkS f)] 31)).alloc (.cells #[.slice none 0 0, .slice none 0 0, .int .i64 0, .string ⟨#[]⟩] 31)) ∧ ((W.alloc (.cells #[.slice Av nv cv, .slice A n c, .int .i64 st, .string (mkS f)] 31)).alloc (.cells #[.slice none 0 0, .slice none 0 0, .int .i64 0, .string ⟨#[]⟩] 31)).heap[W.heap.size]? = some (.cells #[.slice Av nv cv, .slice A n c, .int .i64 st, .string (mkS f)] 31 (0, 0)) ∧ ((W.alloc (.cells #[.slice Av nv cv, .slice A n c, .int .i64 st, .string (mkS f)] 31)).alloc (.cells #[.slice none 0 0, .slice none 0 0, .int .i64 0, .string ⟨#[]⟩] 31)).heap[W.heap.size + 1]? = some (.cells #[.slice none 0 0, .slice none 0 0, .int .i64 0, .string ⟨#[]⟩] 31 (0, 0)) from by
    have l2 := Later.alloc (W.alloc (.cells #[.slice Av nv cv, .slice A n c, .int .i64 st, .string (mkS f)] 31)) (.cells #[.slice none 0 0, .slice none 0 0, .int .i64 0, .string ⟨#[]⟩] 31)
    have n2 := heap_alloc_new (W.alloc (.cells #[.slice Av nv cv, .slice A n c, .int .i64 st, .string (mkS f)] 31)) (.cells #[.slice none 0 0, .slice none 0 0, .int .i64 0, .string ⟨#[]⟩] 31)
    rw [World.size_alloc] at n2
    exact ⟨(Later.alloc W _).trans l2, later_cells l2 (heap_alloc_new W _), n2⟩)
  go_enter Tryd.func13, Tryd.ntmps13
  go_wp2_with fail
  go_loopw [8, 9] (fun s8 s9 wr => ∃ i : Nat, s9 = .int .i64 (i : Int) ∧ i ≤ 4 ∧ s8 = .string (mkS ((efux.take i).filter (flagW f q on))) ∧ Later W wr ∧ wr.heap[W.heap.size]? = some (.cells #[.slice Av nv cv, .slice A n c, .int .i64 st, .string (mkS f)] 31 (0, 0)) ∧ wr.heap[W.heap.size + 1]? = some (.cells #[.slice none 0 0, .slice none 0 0, .int .i64 0, .string ⟨#[]⟩] 31 (0, 0))) (fun _ i _ => 4 - (intOf i).toNat)
  case atStart => exact ⟨0, rfl, Nat.zero_le _, rfl, HF.out⟩
  case round =>
    obtain ⟨i, rfl, hi, rfl, hlw, hbx, hrs⟩ := hrel
    have HB := Lib.hid (And.intro hlw (And.intro hbx hrs))
    clear hlw hbx hrs
    have hi0 : (0 : Int) ≤ (i : Int) := by omega
    obtain ⟨y, hy⟩ : ∃ y, y = (efux.take i).filter (flagW f q on) := ⟨_, rfl⟩
    have hyl : y.length ≤ 4 := by
      rw [hy]
      have h1 := List.length_filter_le (flagW f q on) (efux.take i)
      have h2 : (efux.take i).length ≤ 4 := by rw [List.length_take]; omega
      omega
    by_cases hlt : i < 4
    · have hi1 : (i : Int) < 4 := by omega
      have hil : i < efux.length := by omega
      have hi2 : i < (⟨#[101, 102, 117, 120]⟩ : ByteArray).size := hlt
      have hi3 : (i : Int) < ((⟨#[101, 102, 117, 120]⟩ : ByteArray).size : Int) := by have : (⟨#[101, 102, 117, 120]⟩ : ByteArray).size = 4 := rfl; omega
      obtain ⟨x, hx⟩ : ∃ x, x = (⟨#[101, 102, 117, 120]⟩ : ByteArray)[i] := ⟨_, rfl⟩
      have hx2 : efux[i] = x := by rw [hx]; exact (mkS_get' efux i hi2 hil).symm
      have hxt : (⟨#[101, 102, 117, 120]⟩ : ByteArray)[i] = x := hx.symm
      have htk := flagW_step f q on hil hx2
      rw [← hy] at htk
      have HTK := Lib.hid htk
      clear htk
      have HSL := Lib.hid (show ∀ W, (Instr.slice 9 (.string ⟨#[101, 102, 117, 120]⟩) (some (.int .i64 (i : Int))) (some (.int .i64 ((i : Int) + 1))) none).run Tryd.prog W = .ok (.string (mkS [x])) W from fun W => slice_one efux i hil x hx2 W)
      obtain ⟨hb, hhb⟩ : ∃ hb, hb = f.contains x := ⟨_, rfl⟩
      have HHB := Lib.hid hhb
      have HHS := Lib.hid (show ∀ (x' : UInt8) (W : World), x' = x → Calls Tryd.prog 23 #[.agg #[.slice Av nv cv, .slice A n c, .int .i64 st, .string (mkS f)], .int .u8 (x'.toNat : Int)] W fun e W' => e = .returned (.bool hb) ∧ Later W W' from fun x' W e => by subst e; rw [hhb]; exact HH.out x' W)
      have HBX := Lib.hid (show ∀ W', Later wr W' → W'.cell? ⟨W.heap.size, 0, none⟩ = some (.slice Av nv cv) ∧ W'.cell? ⟨W.heap.size, 1, none⟩ = some (.slice A n c) ∧ W'.cell? ⟨W.heap.size, 2, none⟩ = some (.int .i64 st) ∧ W'.cell? ⟨W.heap.size, 3, none⟩ = some (.string (mkS f)) from fun W' hl => by
        have h := later_cells hl HB.out.2.1
        exact ⟨(cell_row h 0).1, (cell_row h 1).1, (cell_row h 2).1, (cell_row h 3).1⟩)
      rw [← hy]
      clear hx hx2 hhb hy hil
      go_wp2
      refine wp_region_owes (by kernel_rfl) (fun W' => Later wr W') (Later) (Later.refl) [Sp.val (.agg #[.slice Av nv cv, .slice A n c, .int .i64 st, .string (mkS f)]), Sp.val (.string ⟨#[101, 102, 117, 120]⟩), Sp.val (.int .i64 (i : Int)), Sp.val (.int .u8 (x.toNat : Int)), Sp.val (.bool hb), Sp.val (.bool hb)] (by kernel_rfl) (Later.drew wr) ?_ ?_
      · refine ⟨?_, ?_, ?_, ?_, ?_, ?_, trivial⟩
        · -- 0: slot 15 := Op.load 31 t3
          refine fun a w hC hs => .inl ⟨?_, ?_⟩
          · rfl
          have e3 : a.tmps.getD 3 undef = .pointer (some ⟨W.heap.size, 0, none⟩) := hs.free 3 rfl
          obtain ⟨k0, k1, k2, k3⟩ := HBX.out w hC
          refine ValWp.pure (v := .agg #[.slice Av nv cv, .slice A n c, .int .i64 st, .string (mkS f)]) (fun K' hK' => ?_) ⟨rfl, hC, Later.refl _⟩
          simp only [ValWp, execOp, Act.eval, e3]
          go_simp
          all_goals exact hK'
        · -- 1: slot 16 := Op.move t7
          refine fun a w hC hs => .inl ⟨?_, ?_⟩
          · rfl
          have e7 : a.tmps.getD 7 undef = .string ⟨#[101, 102, 117, 120]⟩ := hs.free 7 rfl
          exact ⟨e7, hC, Later.refl _⟩
        · -- 2: slot 17 := Op.move t9
          refine fun a w hC hs => .inl ⟨?_, ?_⟩
          · rfl
          have e9 : a.tmps.getD 9 undef = .int .i64 (i : Int) := hs.free 9 rfl
          exact ⟨e9, hC, Later.refl _⟩
        · -- 3: slot 18 := Op.index 9 t16 t17
          refine fun a w hC hs => .inl ⟨?_, ?_⟩
          · rfl
          have e16 : a.tmps.getD 16 undef = .string ⟨#[101, 102, 117, 120]⟩ := hs.dep 1 _ rfl rfl
          have e17 : a.tmps.getD 17 undef = .int .i64 (i : Int) := hs.dep 2 _ rfl rfl
          refine ValWp.pure (v := .int .u8 (x.toNat : Int)) (fun K' hK' => ?_) ⟨rfl, hC, Later.refl _⟩
          simp only [ValWp, execOp, Act.eval, e16, e17]
          go_simp
          all_goals exact hK'
        · -- 4: slot 19 := Op.call { value (Operand.func 23), args := #[t15, t18], argTypes := #[31, 5] }
          refine fun a w hC hs => .inl ⟨?_, ?_⟩
          · rfl
          have e15 : a.tmps.getD 15 undef = .agg #[.slice Av nv cv, .slice A n c, .int .i64 st, .string (mkS f)] := hs.dep 0 _ rfl rfl
          have e18 : a.tmps.getD 18 undef = .int .u8 (x.toNat : Int) := hs.dep 3 _ rfl rfl
          refine ValWp.call #[.agg #[.slice Av nv cv, .slice A n c, .int .i64 st, .string (mkS f)], .int .u8 (x.toNat : Int)] rfl rfl Tryd.func23 rfl rfl (by simp only [List.map_toArray, List.map_cons, List.map_nil, Act.eval, e15, e18]) ?_
          refine (HHS.out x w rfl).mono ?_
          rintro e w' ⟨rfl, hb⟩
          exact ⟨_, rfl, rfl, Later.trans hC hb, hb⟩
        · -- 5: slot 10 := Op.assign t19
          refine fun a w hC hs => .inl ⟨?_, ?_⟩
          · rfl
          have e19 : a.tmps.getD 19 undef = .bool hb := hs.dep 4 _ rfl rfl
          exact ⟨e19, hC, Later.refl _⟩
      · intro a W' hC hd hsz hfree hs
        obtain ⟨u15, hu15⟩ : ∃ u, u = a.tmps.getD 15 undef := ⟨_, rfl⟩
        obtain ⟨u16, hu16⟩ : ∃ u, u = a.tmps.getD 16 undef := ⟨_, rfl⟩
        obtain ⟨u17, hu17⟩ : ∃ u, u = a.tmps.getD 17 undef := ⟨_, rfl⟩
        obtain ⟨u18, hu18⟩ : ∃ u, u = a.tmps.getD 18 undef := ⟨_, rfl⟩
        obtain ⟨u19, hu19⟩ : ∃ u, u = a.tmps.getD 19 undef := ⟨_, rfl⟩
        have hal : AllAt a 0 [_, _, _, _, _, _, _, _, _, _, .bool hb, _, _, _, _, u15, u16, u17, u18, u19, _, _, _, _, _, _, _, _, _, _, _, _, _, _, _, _, _] := ⟨hfree 0 rfl, hfree 1 rfl, hfree 2 rfl, hfree 3 rfl, hfree 4 rfl, hfree 5 rfl, hfree 6 rfl, hfree 7 rfl, hfree 8 rfl, hfree 9 rfl, hs 5 _ rfl, hfree 11 rfl, hfree 12 rfl, hfree 13 rfl, hfree 14 rfl, hu15.symm, hu16.symm, hu17.symm, hu18.symm, hu19.symm, hfree 20 rfl, hfree 21 rfl, hfree 22 rfl, hfree 23 rfl, hfree 24 rfl, hfree 25 rfl, hfree 26 rfl, hfree 27 rfl, hfree 28 rfl, hfree 29 rfl, hfree 30 rfl, hfree 31 rfl, hfree 32 rfl, hfree 33 rfl, hfree 34 rfl, hfree 35 rfl, hfree 36 rfl, trivial⟩
        have hlit := fun h => act_lit hd h hal
        rw [hlit hsz]
        simp only [Array.getD_eq_getD_getElem?, List.getElem?_toArray, List.getElem?_cons_zero, List.getElem?_cons_succ, Option.getD_some]
        clear hlit hal hd hsz hfree hs hu15 hu16 hu17 hu18 hu19
        have HB2 := Lib.hid (show Later W W' ∧ W'.heap[W.heap.size]? = some (.cells #[.slice Av nv cv, .slice A n c, .int .i64 st, .string (mkS f)] 31 (0, 0)) ∧ W'.heap[W.heap.size + 1]? = some (.cells #[.slice none 0 0, .slice none 0 0, .int .i64 0, .string ⟨#[]⟩] 31 (0, 0)) from ⟨HB.out.1.trans hC, later_cells hC HB.out.2.1, later_cells hC HB.out.2.2⟩)
        clear hC
        have hsl := HSL.out W'
        have hs1 : ¬ 9223372036854775807 < (mkS y).size + (mkS [x]).size := by rw [mkS_size, mkS_size]; simp; omega
        have hadd : mkS y ++ mkS [x] = mkS (y ++ [x]) := mkS_add _ _
        by_cases hxq : x = q
        · have f1 : ((x.toNat : Int) == (q.toNat : Int)) = true := by rw [hxq]; simp
          have hw : flagW f q on x = on := by unfold flagW; rw [if_pos hxq]
          rw [hw] at HTK
          clear hxq hw
          cases on with
          | true =>
            go_wp2
            go_roundw
            case rel => exact ⟨i + 1, by go_num, by omega, by rw [HTK.out]; rfl, HB2.out⟩
            case measure => simp [intOf]; omega
          | false =>
            go_wp2
            go_roundw
            case rel => exact ⟨i + 1, by go_num, by omega, by rw [HTK.out]; simp, HB2.out⟩
            case measure => simp [intOf]; omega
        · have f1 : ((x.toNat : Int) == (q.toNat : Int)) = false := by
            have h5 : x.toNat ≠ q.toNat := fun h => hxq (UInt8.toNat_inj.1 h)
            rw [beq_eq_false_iff_ne]; omega
          have hw : flagW f q on x = hb := by unfold flagW; rw [if_neg hxq, HHB.out]
          rw [hw] at HTK
          clear hxq hw
          cases hb with
          | true =>
            go_wp2
            go_roundw
            case rel => exact ⟨i + 1, by go_num, by omega, by rw [HTK.out]; rfl, HB2.out⟩
            case measure => simp [intOf]; omega
          | false =>
            go_wp2
            go_roundw
            case rel => exact ⟨i + 1, by go_num, by omega, by rw [HTK.out]; simp, HB2.out⟩
            case measure => simp [intOf]; omega
    · have hfull : (efux.take i).filter (flagW f q on) = efux.filter (flagW f q on) := by rw [List.take_of_length_le (by omega)]
      rw [← hy] at hfull
      have HFU := Lib.hid hfull
      rw [← hy]
      clear hfull hy
      have a0 : wr.cell? ⟨W.heap.size, 0, none⟩ = some (.slice Av nv cv) := (cell_row HB.out.2.1 0).1
      have a1 : wr.cell? ⟨W.heap.size, 1, none⟩ = some (.slice A n c) := (cell_row HB.out.2.1 1).1
      have a2 : wr.cell? ⟨W.heap.size, 2, none⟩ = some (.int .i64 st) := (cell_row HB.out.2.1 2).1
      have a3 : wr.cell? ⟨W.heap.size, 3, none⟩ = some (.string (mkS f)) := (cell_row HB.out.2.1 3).1
      have r0 : wr.cell? ⟨W.heap.size + 1, 0, none⟩ = some (.slice none 0 0) := (cell_row HB.out.2.2 0).1
      have r1 : wr.cell? ⟨W.heap.size + 1, 1, none⟩ = some (.slice none 0 0) := (cell_row HB.out.2.2 1).1
      have r2 : wr.cell? ⟨W.heap.size + 1, 2, none⟩ = some (.int .i64 0) := (cell_row HB.out.2.2 2).1
      have r3 : wr.cell? ⟨W.heap.size + 1, 3, none⟩ = some (.string ⟨#[]⟩) := (cell_row HB.out.2.2 3).1
      have z0 := fun i => (cell_row HB.out.2.1 i).2
      have z1 := fun i => (cell_row HB.out.2.2 i).2
      go_wp2
      have h1 := grown_cells (set_only wr W.heap.size 3 (.string (mkS y))) HB.out.2.2 (by omega)
      have h2 := set_row (set_row (set_row (set_row h1 0 (.slice Av nv cv)) 1 (.slice A n c)) 2 (.int .i64 st)) 3 (.string (mkS y))
      refine bodyPost_ret (results_E rfl _ _ (W.heap.size + 1) _ (0, 0) rfl h2 rfl) rfl ?_
      refine ⟨by rw [← HFU.out]; rfl, ?_⟩
      exact later_of_new (later_of_new (later_of_new (later_of_new (later_of_new HB.out.1 (set_only _ _ _ _) (Nat.le_refl _)) (set_only _ _ _ _) (by omega)) (set_only _ _ _ _) (by omega)) (set_only _ _ _ _) (by omega)) (set_only _ _ _ _) (by omega)
end En
end Go.Proofs.YtmijploffdoenaaDoor
