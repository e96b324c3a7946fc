/- Flag. No premises. -/
import Derived.Test.YtmijploffdoenaaDoorNwi
import Derived.Test.YtmijploffdoenaaDoorNq
namespace Go.Proofs.YtmijploffdoenaaDoor
open Go.RowKit Go.Maps
namespace En
/-- The row of flags under way, beside the Env's box and the result's block. -/
structure Af (W W2 wr : World) (b0 b1 b2 b3 : Value) (v : Value) (l : B) : Prop where
  low : Later W2 wr
  bx : Bx W wr b0 b1 b2 b3
  own : wr.ownsRow W2.heap.size 5 1 v (l.map bv).length (l.map bv)
theorem Af.push {W W2 wr wr' : World} {b0 b1 b2 b3 v v' : Value} {l m : B} (h : Af W W2 wr b0 b1 b2 b3 v l) (hB : W.heap.size + 2 ≤ W2.heap.size) (hg : Grew wr wr' W2.heap.size 5 v v' (l.map bv ++ m.map bv)) : Af W W2 wr' b0 b1 b2 b3 v' (l ++ m) := by
  have hne : ∀ k, k < W2.heap.size → some k ≠ v.ownBlock := fun k hk e => by have := (own_ge h.own e.symm).1; omega
  have hlow : Later W2 wr' := ⟨hg.grown.os.trans h.low.os, hg.grown.tape.trans h.low.tape, hg.grown.output.trans h.low.output, Nat.le_trans h.low.size hg.grown.size, fun k hk => (hg.grown.block k (Nat.lt_of_lt_of_le hk h.low.size) (hne k hk)).trans (h.low.block k hk)⟩
  have kp : ∀ {k : Nat} {o : Obj}, k < W2.heap.size → wr.heap[k]? = some o → wr'.heap[k]? = some o := fun hk ho => (hg.grown.block _ (lt_of_block ho) (hne _ hk)).trans ho
  refine ⟨hlow, ⟨?_, kp (by omega) h.bx.bx, kp (by omega) h.bx.rs⟩, by rw [List.map_append]; exact hg.own⟩
  have hl := h.bx.low
  exact ⟨hg.grown.os.trans hl.os, hg.grown.tape.trans hl.tape, hg.grown.output.trans hl.output, Nat.le_trans hl.size hg.grown.size, fun k hk => (hg.grown.block k (Nat.lt_of_lt_of_le hk hl.size) (hne k (by omega))).trans (hl.block k hk)⟩
theorem Af.later {W W2 wr wr' : World} {b0 b1 b2 b3 v : Value} {l : B} (h : Af W W2 wr b0 b1 b2 b3 v l) (hl : Later wr wr') : Af W W2 wr' b0 b1 b2 b3 v l := ⟨h.low.trans hl, h.bx.later hl, own_below h.own hl⟩
set_option maxRecDepth 100000 in
set_option maxHeartbeats 6400000 in
theorem flag_v (va : Value) (e : E) (q : UInt8) (on : Bool) (W : World) (h : RdE W va e) (hn : e.vars.length ≤ 1000000) (ha : e.args.length ≤ 1000000) : Calls Tryd.prog 12 #[va, .int .u8 (q.toNat : Int), .bool on] W fun x W' => Told W W' x { e with flags := flag e.flags q on } := by
  have HHS := Lib.hid (fun x W' hl => has_v va e x W' (RdE.later h (w' := W') hl))
  obtain ⟨v0, A, n, c, rfl, hv, hr, hc1, hc2⟩ := h
  have HANY := Lib.hid (show ∀ W' f', Later W W' → Calls Tryd.prog 32 #[.agg #[v0, .slice A n c, .int .i64 (e.status : Int), .string (mkS f')]] W' fun x W'' => Told W' W'' x { e with flags := f' } from fun W' f' hl => anew_v _ { e with flags := f' } W' ⟨_, _, _, _, rfl, hv.later hl, (hr.below hl).more hl.size, hc1, hc2⟩ hn ha)
  obtain ⟨Av, cv, rfl, _⟩ := hv.le
  obtain ⟨n0, hn0⟩ : ∃ n0, n0 = e.vars.length := ⟨_, rfl⟩
  obtain ⟨st, hst⟩ : ∃ st : Int, st = (e.status : Int) := ⟨_, rfl⟩
  obtain ⟨f, hf⟩ : ∃ f, f = e.flags := ⟨_, rfl⟩
  rw [← hn0, ← hst] at HANY HHS
  rw [← hf] at HHS
  rw [← hn0, ← hst, ← hf]
  have hfl : flag f q on = efux.filter (flagW f q on) := rfl
  rw [hfl]
  have hl4 : efux.length = 4 := rfl
  obtain ⟨i0, hif, hz0, hz1, hz2⟩ := info_parts info_u8
  have HB := Lib.hid (Bx.new W (.slice Av n0 cv) (.slice A n c) (.int .i64 st) (.string (mkS f)))
  obtain ⟨W1, hW1⟩ : ∃ W1, W1 = (W.alloc (.cells #[.slice Av n0 cv, .slice A n c, .int .i64 st, .string (mkS f)] 28)).alloc (.cells #[.slice none 0 0, .slice none 0 0, .int .i64 0, .string ⟨#[]⟩] 28) := ⟨_, rfl⟩
  have hs1 : W1.heap.size = W.heap.size + 2 := by rw [hW1, World.size_alloc, World.size_alloc]
  rw [← hW1] at HB
  have hcc := conv_const W1 #[.int .u8 101, .int .u8 102, .int .u8 117, .int .u8 120] 4 4 (W.heap.size + 2) hs1.symm
  obtain ⟨W2, hW2⟩ : ∃ W2, W2 = W1.alloc (.cells #[.int .u8 101, .int .u8 102, .int .u8 117, .int .u8 120] 5 (#[Value.int .u8 101, .int .u8 102, .int .u8 117, .int .u8 120].size, #[Value.int .u8 101, .int .u8 102, .int .u8 117, .int .u8 120].size + 1)) := ⟨_, rfl⟩
  rw [← hW2] at hcc
  have HL12 := Lib.hid (show Later W1 W2 by rw [hW2]; exact Later.alloc _ _)
  have HS2 := Lib.hid (show W.heap.size + 2 ≤ W2.heap.size by rw [hW2, World.size_alloc]; omega)
  have HRD := Lib.hid (show Rd W2 W2.heap.size (some ⟨W.heap.size + 2, 0, none⟩) 4 (efux.map bv) by
    have := Rd.litF W1 5 (4, 5) (efux.map bv)
    rw [hs1] at this
    rw [hW2, World.size_alloc, hs1]
    exact this)
  rw [hW1] at hcc
  have HCC := Lib.hid hcc
  clear hv hr hc1 hc2 hn0 hst hf hn ha hfl hs1 hcc hW2
  go_enter Tryd.func12, Tryd.ntmps12
  have hcc := HCC.out
  go_wp2_with fail
  go_loopw [7, 13] (fun s7 s13 wr => ∃ (i : Nat), s13 = .int .i64 (i : Int) ∧ i ≤ 4 ∧ Af W W2 wr (.slice Av n0 cv) (.slice A n c) (.int .i64 st) (.string (mkS f)) s7 ((efux.take i).filter (flagW f q on))) (fun _ i _ => 4 - (intOf i).toNat)
  case atStart => exact ⟨0, rfl, Nat.zero_le _, Later.refl _, HB.out.later HL12.out, World.ownsRow_nil _ _ _ _⟩
  case round =>
    obtain ⟨i, rfl, hi, haf⟩ := hrel
    obtain ⟨l7, hl7⟩ : ∃ l7, l7 = (efux.take i).filter (flagW f q on) := ⟨_, rfl⟩
    rw [← hl7] at haf
    have hyl : l7.length ≤ 4 := by
      rw [hl7]
      have h1 := List.length_filter_le (flagW f q on) (efux.take i)
      have h2 : (efux.take i).length ≤ 4 := by rw [List.length_take]; omega
      omega
    have HYL := Lib.hid hyl
    have hown := haf.own
    rw [List.length_map] at hown
    obtain ⟨A7, c7, rfl, _⟩ := own_any hown
    have HA := Lib.hid haf
    have HSW := Lib.hid haf.low.size
    obtain ⟨b0, b1, b2, b3⟩ := haf.bx.c
    have hi0 : (0 : Int) ≤ (i : Int) := by omega
    by_cases hlt : i < 4
    · have hi1 : (i : Int) < 4 := by omega
      have hil : i < efux.length := by omega
      obtain ⟨x, hx⟩ : ∃ x, x = efux[i] := ⟨_, rfl⟩
      have htk := flagW_step f q on hil hx.symm
      rw [← hl7] at htk
      have HTK := Lib.hid htk
      obtain ⟨ad, _, had, _, hcell⟩ := HRD.out.byte hlt
      injection had with had
      rw [← had, add_lit0, ← hx] at hcell
      have hc5 : wr.cell? ⟨W.heap.size + 2, i, none⟩ = some (.int .u8 (x.toNat : Int)) := (haf.low.cell (p := ⟨W.heap.size + 2, i, none⟩) (World.block_lt_of_cell? _ _ hcell)).trans hcell
      have HHX := Lib.hid (HHS.out x wr haf.bx.low)
      obtain ⟨hb, hhb⟩ : ∃ hb, hb = f.contains x := ⟨_, rfl⟩
      rw [← hhb] at HHX
      have HHB := Lib.hid hhb
      clear htk hcell had hx hil haf hl7 hhb hown hyl
      by_cases hxq : x = q
      · have f1 : ((x.toNat : Int) == (q.toNat : Int)) = true := by rw [hxq]; simp
        have HW := Lib.hid (show flagW f q on x = on by unfold flagW; rw [if_pos hxq])
        rw [HW.out] at HTK
        clear hxq
        cases on with
        | true =>
          go_wp2_with (at_builtin; refine wpList_app1 wr (bv x) rfl (.tmp 33) (.tmp 35) 69 rfl W2.heap.size 5 i0 (.int .u8 0) 1 Tryd.underlying69 hif hz0 hz1 hz2 rfl rfl (.slice A7 l7.length c7) (l7.map bv) rfl HA.out.own rfl (by rw [List.length_map]; have := HYL.out; omega) (by rw [List.length_map]; have := HYL.out; omega) HSW.out ?_; intro v8 w8 hg8; (have hp8 := HA.out.push (m := [x]) HS2.out hg8); obtain ⟨A8, c8, hv8, _⟩ := own_any hp8.own; (have HP8 := Lib.hid hp8); rw [hv8] at HP8; subst hv8; clear hg8 hp8)
          go_roundw
          case rel => exact ⟨i + 1, by go_num, by omega, by
            have h9 := HP8.out
            rw [show (List.map bv (l7 ++ [x])).length = l7.length + 1 by simp] at h9
            rw [HTK.out]
            first | rw [if_pos rfl] | rw [if_pos trivial]
            exact h9⟩
          case measure => simp [intOf]; omega
        | false =>
          have f2 : ((x.toNat : Int) != (q.toNat : Int)) = false := by simp [bne, f1]
          go_wp2
          go_roundw
          case rel => exact ⟨i + 1, by go_num, by omega, by rw [HTK.out]; simp; exact HA.out⟩
          case measure => simp [intOf]; omega
      · have f1 : ((x.toNat : Int) == (q.toNat : Int)) = false := by
          have h5 : x.toNat ≠ q.toNat := fun h => hxq (UInt8.toNat_inj.1 h)
          rw [beq_eq_false_iff_ne]; omega
        have f2 : ((x.toNat : Int) != (q.toNat : Int)) = true := by simp [bne, f1]
        have HW := Lib.hid (show flagW f q on x = hb by unfold flagW; rw [if_neg hxq]; exact HHB.out.symm)
        rw [HW.out] at HTK
        clear hxq
        cases hb with
        | true =>
          go_wp2_with (first
            | (go_at_call 22; (with_reducible refine (HHX.out).mono ?_); rintro x9 w5 ⟨rfl, hl5⟩; (have HA5 := Lib.hid (HA.out.later hl5)); (have HS5 := Lib.hid (Nat.le_trans HSW.out hl5.size)); clear hl5)
            | (at_builtin; refine wpList_app1 w5 (bv x) rfl (.tmp 33) (.tmp 35) 69 rfl W2.heap.size 5 i0 (.int .u8 0) 1 Tryd.underlying69 hif hz0 hz1 hz2 rfl rfl (.slice A7 l7.length c7) (l7.map bv) rfl HA5.out.own rfl (by rw [List.length_map]; have := HYL.out; omega) (by rw [List.length_map]; have := HYL.out; omega) HS5.out ?_; intro v8 w8 hg8; (have hp8 := HA5.out.push (m := [x]) HS2.out hg8); obtain ⟨A8, c8, hv8, _⟩ := own_any hp8.own; (have HP8 := Lib.hid hp8); rw [hv8] at HP8; subst hv8; clear hg8 hp8))
          go_roundw
          case rel => exact ⟨i + 1, by go_num, by omega, by
            have h9 := HP8.out
            rw [show (List.map bv (l7 ++ [x])).length = l7.length + 1 by simp] at h9
            rw [HTK.out]
            first | rw [if_pos rfl] | rw [if_pos trivial]
            exact h9⟩
          case measure => simp [intOf]; omega
        | false =>
          go_wp2_with (go_at_call 22; (with_reducible refine (HHX.out).mono ?_); rintro x9 w5 ⟨rfl, hl5⟩; (have HA5 := Lib.hid (HA.out.later hl5)); (have HS5 := Lib.hid (Nat.le_trans HSW.out hl5.size)); clear hl5)
          go_roundw
          case rel => exact ⟨i + 1, by go_num, by omega, by rw [HTK.out]; simp; exact HA5.out⟩
          case measure => simp [intOf]; omega
    · have hfull : l7 = efux.filter (flagW f q on) := by rw [hl7, List.take_of_length_le (by omega)]
      have HFU := Lib.hid hfull
      have hrd : Rd wr wr.heap.size A7 l7.length (l7.map bv) := Rd.of_own hown
      have hcv := run_str_of hrd 69 9 5 Tryd.underlying69 Tryd.underlying5 Tryd.underlying9 c7
      have z3 := fun i => (cell_row HA.out.bx.bx i).2
      have g5 := set_only wr W.heap.size 3 (.string (mkS l7))
      obtain ⟨w5, hw5⟩ : ∃ w5, w5 = wr.setCell ⟨W.heap.size, 3, none⟩ (.string (mkS l7)) := ⟨_, rfl⟩
      have hb5 : Bx W w5 (.slice Av n0 cv) (.slice A n c) (.int .i64 st) (.string (mkS l7)) := by
        rw [hw5]
        exact ⟨later_of_new HA.out.bx.low g5 (Nat.le_refl _), set_row HA.out.bx.bx 3 _, grown_cells g5 HA.out.bx.rs (by omega)⟩
      have HB5 := Lib.hid hb5
      have HAN := Lib.hid (HANY.out w5 l7 hb5.low)
      have HW5 := Lib.hid hw5
      clear haf hown hrd g5 hw5 hb5 hfull hl7
      go_wp2_with fail
      rw [← HW5.out]
      go_at_call 32
      with_reducible refine HAN.out.mono ?_
      rintro x w4 ⟨⟨v, rfl, hf⟩, hl4⟩
      have HF := Lib.hid hf
      obtain ⟨v0, A4, n4, c4, rfl, hv4, _⟩ := hf.rd
      obtain ⟨A5, c5, rfl, _⟩ := hv4.le
      have HB4 := Lib.hid (HB5.out.later hl4)
      obtain ⟨r0, r1, r2, r3, r4⟩ := HB4.out.r
      clear hf hl4 hv4 b0 b1 b2 b3 z3
      go_wp2
      have hs5 := lt_of_block HB5.out.rs
      obtain ⟨w9, hw9, hl9, hr9, hf9⟩ := HB4.out.tell HF.out hs5
      rw [← hw9]
      refine bodyPost_ret (results_Env rfl _ _ (W.heap.size + 1) _ (0, 0) rfl hr9 rfl) rfl ?_
      rw [← HFU.out]
      exact ⟨⟨_, rfl, hf9.less (by omega)⟩, hl9⟩
end En
end Go.Proofs.YtmijploffdoenaaDoor
