/- StateCuts' walk. No premises. -/
import Derived.Test.YteljmlodbnfhbaaKok
namespace Go.Proofs.Yteljmlodbnfhbaa
open Go.RowKit
namespace Ks
set_option maxRecDepth 100000
/-- What each law begins with: the state lies in a box; is it few? -/
theorem box_facts {s : St} {cs : List Value} {W : World} (h : stR.C W W.heap.size cs s) (hx : (stC.put s).length ≤ 100000000) (w1 : World) (hb : w1.heap[W.heap.size]? = some (.cells cs.toArray 40 (0, 0))) (hl : Later W w1) :
    (∀ w, Later w1 w → Calls Try.prog 8 #[.agg cs.toArray] w fun r w' => r = .returned (.bool (decide (fewN s ≤ 300))) ∧ Later w w') ∧
    ∀ w, Later w1 w → (Instr.loadAt 40 (.pointer (some ⟨W.heap.size, 0, none⟩))).run Try.prog w = .ok (.agg cs.toArray) w := by
  refine ⟨fun w hw => ?_, fun w hw => loadO_run (P := Try.prog) 40 _ _ _ (later_cells hw hb) Try.underlying40 rfl (by rw [List.size_toArray, stR.len h]; kernel_rfl)⟩
  have hl2 := hl.trans hw
  exact few_v s cs w (stR.more (stR.keep h fun p hp => hl2.cell hp) hl2.size) hx
theorem own_kept {w w' : World} {base size n b : Nat} {e : TypeId} {v : Value} {xs : List Value} (h : w.ownsRow base e size v n xs) (hg : w.grownBy w' (some b)) (hne : ∀ k, v.ownBlock = some k → k ≠ b) : w'.ownsRow base e size v n xs := by
  refine h.kept hg ?_
  cases hv : v.ownBlock with
  | none => exact .inl rfl
  | some k => exact .inr fun e => hne k hv (by injection e)
set_option maxHeartbeats 6400000 in
theorem cuts_law (s : St) (cs : List Value) (W : World) (h : stR.C W W.heap.size cs s) (hx : (stC.put s).length ≤ 20000000) (x : Nat) (hx16 : x < 65536) (A : Option Addr) (m c : Nat) (l : B) (hr : Rd W W.heap.size A m (l.map bv)) (hm : m ≤ 20000000) :
    Calls Try.prog 5 #[.agg cs.toArray, .int .u16 (x : Int), .slice A m c] W fun e W' => e = .returned (.bool true) ∧ Later W W' := by
  have HB := Lib.hid (fun w1 hb hl => box_facts h (by omega) w1 hb hl)
  by_cases hf : fewN s ≤ 300
  · rw [decide_eq_true hf] at HB
    have hok := ok_st h hf
    clear hf
    by_cases hm0 : m = 0
    · subst hm0
      clear h hx hr hok
      go_enter Try.func5, Try.ntmps5
      go_wp2_with (first
        | (refine wpList_boxO rfl 40 (.tmp 0) rfl _ rfl ?_; intro w1 hb1 hl1 hs1; obtain ⟨ha1, hld1⟩ := HB.out w1 hb1 hl1; (have HL1 := Lib.hid hl1); (have HLD := Lib.hid hld1); (have HFW := Lib.hid ha1); clear hb1 hl1 hs1 ha1 hld1)
        | (go_at_call 7; (with_reducible refine (awake_v _).mono ?_); rintro e w2 ⟨rfl, hl2⟩; (have HL2 := Lib.hid hl2); clear hl2)
        | (refine wpList_loadRun rfl 40 (.tmp 3) rfl _ _ rfl (HLD.out _ HL2.out) ?_)
        | (go_at_call 8; (with_reducible refine (HFW.out _ HL2.out).mono ?_); rintro e w3 ⟨rfl, hl3⟩; (have HL3 := Lib.hid (HL2.out.trans hl3)); clear hl3))
      go_ret
      exact ⟨rfl, HL1.out.trans HL3.out⟩
    · have hlne : l ≠ [] := fun e => hm0 (by have := hr.len; rw [e] at this; simpa using this.symm)
      have hml : l.length = m := hr.len
      have h29 := st_29 s
      obtain ⟨n, hn⟩ : ∃ n, n = (stC.put s).length := ⟨_, rfl⟩
      rw [← hn] at h29 hx
      obtain ⟨k, hk⟩ : ∃ k, k = x % n := ⟨_, rfl⟩
      have hkn : k < n := by rw [hk]; exact Nat.mod_lt _ (by omega)
      have hmod : Int.tmod (x : Int) (n : Int) = (k : Int) := by rw [hk]; exact (Int.ofNat_tmod x n).symm
      have HPK := Lib.hid (show ∀ w, Later W w → Calls Try.prog 9 #[.agg cs.toArray] w fun e w' => ∃ A2 c2, e = .returned (.slice A2 n c2) ∧ n ≤ c2 ∧ w'.ownsRow w.heap.size 5 1 (.slice A2 n c2) ((stC.put s).map bv).length ((stC.put s).map bv) ∧ Later w w' from fun w hw => by
        refine (packS_v s cs w (stR.more (stR.keep h fun p hp => hw.cell hp) hw.size) hok (by omega)).mono fun e w' hq => ?_
        obtain ⟨v', rfl, hg⟩ := hq
        obtain ⟨A2, c2, rfl, hc2, _, _⟩ := own_map hg.own
        rw [← hn] at hc2
        refine ⟨A2, c2, by rw [← hn], hc2, ?_, hg.belowNil⟩
        have := hg.own
        rw [← hn] at this
        exact this)
      have HU1 := Lib.hid (show ∀ (w : World) (A2 : Option Addr) (c2 b : Nat), n ≤ c2 → w.ownsRow b 5 1 (.slice A2 n c2) ((stC.put s).map bv).length ((stC.put s).map bv) → Calls Try.prog 10 #[.slice A2 k c2] w fun e w' => e = .returned (.tuple #[.agg #[.slice none 0 0, .slice none 0 0, .int .i64 0, .string ⟨#[]⟩, .slice none 0 0, .slice none 0 0, .slice none 0 0, .slice none 0 0, .slice none 0 0, .int .i64 0, .int .i64 0, .int .i64 0, .string ⟨#[]⟩, .slice none 0 0, .int .i64 0, .int .i64 0, .int .i64 0, .int .i64 0, .string ⟨#[]⟩, .slice none 0 0, .int .i64 0, .slice none 0 0, .int .i64 0, .int .i64 0, .int .i64 0, .bool false, .bool false, .bool false, .int .i64 0], .int .i64 10]) ∧ Later w w' from fun w A2 c2 b hc2 ho => by
        have hrd := Rd.of_own (c := c2) (show w.ownsRow b 5 1 (.slice A2 n c2) n ((stC.put s).map bv) by rw [hn] at ho ⊢; simpa using ho)
        have hrd2 : Rd w w.heap.size A2 k (((stC.put s).take k).map bv) := by rw [List.map_take]; exact hrd.take_ (by omega)
        refine (unpack_v A2 k c2 _ w hrd2 (by omega)).mono fun e w' hq => ?_
        obtain ⟨hl, cs', k', rfl, hbad, _⟩ := hq
        obtain ⟨rfl, rfl, _⟩ := hbad 10 (unp_cut hok (by omega))
        exact ⟨rfl, hl⟩)
      have HU2 := Lib.hid (show ∀ (w : World) (v : Value) (b : Nat), w.ownsRow b 5 1 v ((stC.put s).map bv ++ l.map bv).length ((stC.put s).map bv ++ l.map bv) → ∃ A3 n3 c3, v = .slice A3 n3 c3 ∧ Calls Try.prog 10 #[.slice A3 n3 c3] w fun e w' => e = .returned (.tuple #[.agg #[.slice none 0 0, .slice none 0 0, .int .i64 0, .string ⟨#[]⟩, .slice none 0 0, .slice none 0 0, .slice none 0 0, .slice none 0 0, .slice none 0 0, .int .i64 0, .int .i64 0, .int .i64 0, .string ⟨#[]⟩, .slice none 0 0, .int .i64 0, .int .i64 0, .int .i64 0, .int .i64 0, .string ⟨#[]⟩, .slice none 0 0, .int .i64 0, .slice none 0 0, .int .i64 0, .int .i64 0, .int .i64 0, .bool false, .bool false, .bool false, .int .i64 0], .int .i64 14]) ∧ Later w w' from fun w v b ho => by
        rw [← List.map_append] at ho
        obtain ⟨A3, c3, rfl, _, hrd, _⟩ := own_map ho
        refine ⟨A3, _, c3, rfl, ?_⟩
        refine (unpack_v A3 _ c3 _ w hrd (by rw [List.length_append]; omega)).mono fun e w' hq => ?_
        obtain ⟨hl, cs', k', rfl, hbad, _⟩ := hq
        obtain ⟨rfl, rfl, _⟩ := hbad 14 (unp_more hok hlne)
        exact ⟨rfl, hl⟩)
      have HR := Lib.hid hr
      have HON := Lib.hid (show (#[.slice none 0 0, .slice none 0 0, .int .i64 0, .string ⟨#[]⟩, .slice none 0 0, .slice none 0 0, .slice none 0 0, .slice none 0 0, .slice none 0 0, .int .i64 0, .int .i64 0, .int .i64 0, .string ⟨#[]⟩, .slice none 0 0, .int .i64 0, .int .i64 0, .int .i64 0, .int .i64 0, .string ⟨#[]⟩, .slice none 0 0, .int .i64 0, .slice none 0 0, .int .i64 0, .int .i64 0, .int .i64 0, .bool false, .bool false, .bool false, .int .i64 0] : Array Value).all (·.oneCell') = true by simp [Value.oneCell'])
      have HNN := Lib.hid (show ((stC.put s).map bv).length = n by rw [List.length_map, hn])
      obtain ⟨i0, hi, hz0, hz1, hz2⟩ := info_parts info_u8
      have h29' : ¬ (n : Int) < 29 := by omega
      have hnz : ¬ (n : Int) = 0 := by omega
      have hmz : ((m : Int) == 0) = false := by simp; omega
      have hkc : (0 : Int) ≤ (k : Int) := by omega
      have HKN := Lib.hid hkn
      clear h hok hr hn hk hlne hml h29 hm0 hkn
      go_enter Try.func5, Try.ntmps5
      go_wp2_with (first
        | (refine wpList_boxO rfl 40 (.tmp 0) rfl _ rfl ?_; intro w1 hb1 hl1 hs1; obtain ⟨ha1, hld1⟩ := HB.out w1 hb1 hl1; (have HL1 := Lib.hid hl1); (have HLD := Lib.hid hld1); (have HFW := Lib.hid ha1); clear hb1 hl1 hs1 ha1 hld1)
        | (go_at_call 7; (with_reducible refine (awake_v _).mono ?_); rintro e w2 ⟨rfl, hl2⟩; (have HL2 := Lib.hid hl2); clear hl2)
        | (refine wpList_loadRun rfl 40 (.tmp 3) rfl _ _ rfl (HLD.out _ HL2.out) ?_)
        | (go_at_call 8; (with_reducible refine (HFW.out _ HL2.out).mono ?_); rintro e w3 ⟨rfl, hl3⟩; (have HL3 := Lib.hid (HL2.out.trans hl3)); clear hl3)
        | (refine wpList_loadRun rfl 40 (.tmp 3) rfl _ _ rfl (HLD.out _ HL3.out) ?_)
        | (go_at_call 9; (with_reducible refine (HPK.out _ (HL1.out.trans HL3.out)).mono ?_); rintro e w4 ⟨A2, c2, rfl, hc2, ho, hl4⟩; (have HL4 := Lib.hid ((HL1.out.trans HL3.out).trans hl4)); (have HO := Lib.hid ho); have hkc2 : (k : Int) ≤ (c2 : Int) := (by have := HKN.out; omega); (have HUA := Lib.hid (HU1.out w4 A2 c2 _ hc2 ho)); clear ho hl4 hc2)
        | (go_at_call 10; (with_reducible refine HUA.out.mono ?_); rintro e w5 ⟨rfl, hl5⟩; (have HO5 := Lib.hid (own_below HO.out hl5)); (have HL5 := Lib.hid (HL4.out.trans hl5)); clear hl5)
        | (refine wpList_allocO 10 rfl rfl 40 rfl #[.slice none 0 0, .slice none 0 0, .int .i64 0, .string ⟨#[]⟩, .slice none 0 0, .slice none 0 0, .slice none 0 0, .slice none 0 0, .slice none 0 0, .int .i64 0, .int .i64 0, .int .i64 0, .string ⟨#[]⟩, .slice none 0 0, .int .i64 0, .int .i64 0, .int .i64 0, .int .i64 0, .string ⟨#[]⟩, .slice none 0 0, .int .i64 0, .slice none 0 0, .int .i64 0, .int .i64 0, .int .i64 0, .bool false, .bool false, .bool false, .int .i64 0] 29 (by kernel_rfl) ?_; intro w6 hw6 hl6 hs6; (have HW6 := Lib.hid hw6); (have HO6 := Lib.hid (own_below HO5.out hl6)); (have HL6 := Lib.hid (HL5.out.trans hl6)); (have HS6 := Lib.hid HL5.out.size); clear hw6 hl6 hs6)
        | (refine wpList_storeO rfl 40 (.tmp 10) (.tmp 40) rfl w5.heap.size #[.slice none 0 0, .slice none 0 0, .int .i64 0, .string ⟨#[]⟩, .slice none 0 0, .slice none 0 0, .slice none 0 0, .slice none 0 0, .slice none 0 0, .int .i64 0, .int .i64 0, .int .i64 0, .string ⟨#[]⟩, .slice none 0 0, .int .i64 0, .int .i64 0, .int .i64 0, .int .i64 0, .string ⟨#[]⟩, .slice none 0 0, .int .i64 0, .slice none 0 0, .int .i64 0, .int .i64 0, .int .i64 0, .bool false, .bool false, .bool false, .int .i64 0] #[.slice none 0 0, .slice none 0 0, .int .i64 0, .string ⟨#[]⟩, .slice none 0 0, .slice none 0 0, .slice none 0 0, .slice none 0 0, .slice none 0 0, .int .i64 0, .int .i64 0, .int .i64 0, .string ⟨#[]⟩, .slice none 0 0, .int .i64 0, .int .i64 0, .int .i64 0, .int .i64 0, .string ⟨#[]⟩, .slice none 0 0, .int .i64 0, .slice none 0 0, .int .i64 0, .int .i64 0, .int .i64 0, .bool false, .bool false, .bool false, .int .i64 0] rfl rfl HW6.out (by kernel_rfl) rfl HON.out ?_; intro w7 hw7 hg7 hs7; (have HL7 := Lib.hid (later_of_new HL6.out hg7 HS6.out)); (have HO7 := Lib.hid (own_kept HO6.out hg7 (fun b hv => Nat.ne_of_lt (HO5.out.lt b hv).2))); (have HBA := Lib.hid (show W.heap.size ≤ w7.heap.size from HL7.out.size)); clear hw7 hg7 hs7)
        | (at_builtin; refine wpList_appN w7 rfl (.tmp 43) (.tmp 44) _ rfl 0 5 i0 _ 1 Try.underlying43 hi hz0 hz1 hz2 rfl (.slice A2 n c2) ((stC.put s).map bv) rfl (own_up HO7.out (fun _ _ => Nat.zero_le _)) W.heap.size A m c (l.map bv) rfl (HR.out.below HL7.out) (by intro u hu; obtain ⟨y, _, rfl⟩ := List.mem_map.1 hu; rfl) (by have := HNN.out; omega) (by have := HNN.out; omega) (Nat.zero_le _) ?_; intro v8 w8 hg8; obtain ⟨A3, n3, c3, rfl, hun8⟩ := HU2.out w8 v8 _ hg8.own; (have HUB := Lib.hid hun8); (have HL8 := Lib.hid (hg8.grown)); clear hg8 hun8)
        | (go_at_call 10; (with_reducible refine HUB.out.mono ?_); rintro e w9 ⟨rfl, hl9⟩; (have HL9 := Lib.hid hl9); clear hl9)
        | (refine wpList_allocO 12 rfl rfl 40 rfl #[.slice none 0 0, .slice none 0 0, .int .i64 0, .string ⟨#[]⟩, .slice none 0 0, .slice none 0 0, .slice none 0 0, .slice none 0 0, .slice none 0 0, .int .i64 0, .int .i64 0, .int .i64 0, .string ⟨#[]⟩, .slice none 0 0, .int .i64 0, .int .i64 0, .int .i64 0, .int .i64 0, .string ⟨#[]⟩, .slice none 0 0, .int .i64 0, .slice none 0 0, .int .i64 0, .int .i64 0, .int .i64 0, .bool false, .bool false, .bool false, .int .i64 0] 29 (by kernel_rfl) ?_; intro wa hwa hla hsa; (have HWA := Lib.hid hwa); (have HLA := Lib.hid hla); clear hwa hla hsa)
        | (refine wpList_storeO rfl 40 (.tmp 12) (.tmp 47) rfl w9.heap.size #[.slice none 0 0, .slice none 0 0, .int .i64 0, .string ⟨#[]⟩, .slice none 0 0, .slice none 0 0, .slice none 0 0, .slice none 0 0, .slice none 0 0, .int .i64 0, .int .i64 0, .int .i64 0, .string ⟨#[]⟩, .slice none 0 0, .int .i64 0, .int .i64 0, .int .i64 0, .int .i64 0, .string ⟨#[]⟩, .slice none 0 0, .int .i64 0, .slice none 0 0, .int .i64 0, .int .i64 0, .int .i64 0, .bool false, .bool false, .bool false, .int .i64 0] #[.slice none 0 0, .slice none 0 0, .int .i64 0, .string ⟨#[]⟩, .slice none 0 0, .slice none 0 0, .slice none 0 0, .slice none 0 0, .slice none 0 0, .int .i64 0, .int .i64 0, .int .i64 0, .string ⟨#[]⟩, .slice none 0 0, .int .i64 0, .int .i64 0, .int .i64 0, .int .i64 0, .string ⟨#[]⟩, .slice none 0 0, .int .i64 0, .slice none 0 0, .int .i64 0, .int .i64 0, .int .i64 0, .bool false, .bool false, .bool false, .int .i64 0] rfl rfl HWA.out (by kernel_rfl) rfl HON.out ?_; intro wb hwb hgb hsb; (have HLB := Lib.hid (later_of_new HLA.out hgb (Nat.le_refl _))); clear hwb hgb hsb))
      go_ret
      refine ⟨rfl, ?_⟩
      have hlow : Later W w8 := by
        have hg := HL8.out
        have hlow7 := HL7.out
        refine ⟨hg.os.trans hlow7.os, hg.tape.trans hlow7.tape, hg.output.trans hlow7.output, Nat.le_trans hlow7.size hg.size, fun j hj => (hg.block j (Nat.lt_of_lt_of_le hj hlow7.size) fun e => ?_).trans (hlow7.block j hj)⟩
        have h1 := HO.out.lt j e.symm
        have h2 := (HL1.out.trans HL3.out).size
        omega
      exact (hlow.trans HL9.out).trans HLB.out
  · rw [decide_eq_false hf] at HB
    clear h hx hr hf
    go_enter Try.func5, Try.ntmps5
    go_wp2_with (first
      | (refine wpList_boxO rfl 40 (.tmp 0) rfl _ rfl ?_; intro w1 hb1 hl1 hs1; obtain ⟨ha1, hld1⟩ := HB.out w1 hb1 hl1; (have HL1 := Lib.hid hl1); (have HLD := Lib.hid hld1); (have HFW := Lib.hid ha1); clear hb1 hl1 hs1 ha1 hld1)
      | (go_at_call 7; (with_reducible refine (awake_v _).mono ?_); rintro e w2 ⟨rfl, hl2⟩; (have HL2 := Lib.hid hl2); clear hl2)
      | (refine wpList_loadRun rfl 40 (.tmp 3) rfl _ _ rfl (HLD.out _ HL2.out) ?_)
      | (go_at_call 8; (with_reducible refine (HFW.out _ HL2.out).mono ?_); rintro e w3 ⟨rfl, hl3⟩; (have HL3 := Lib.hid (HL2.out.trans hl3)); clear hl3))
    go_ret
    exact ⟨rfl, HL1.out.trans HL3.out⟩
end Ks
end Go.Proofs.Yteljmlodbnfhbaa
