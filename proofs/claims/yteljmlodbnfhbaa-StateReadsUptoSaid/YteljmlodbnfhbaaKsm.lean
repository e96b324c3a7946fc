/- Same. No premises. -/
import Derived.Test.YteljmlodbnfhbaaKpa
import Derived.Test.YteljmlodbnfhbaaSof2
namespace Go.Proofs.Yteljmlodbnfhbaa
open Go.RowKit
namespace Ks
set_option maxRecDepth 100000
theorem equal_v (A A' : Option Addr) (n n' c c' B B' : Nat) (l l' : List UInt8) (w : World) (h : Rd w B A n (l.map bv)) (h' : Rd w B' A' n' (l'.map bv)) (r : Bool) (hd : r = decide (l = l')) :
    Calls Try.prog 26 #[.slice A n c, .slice A' n' c'] w fun e w' => e = .returned (.bool r) ∧ w = w' := by
  have h1 := run_str_of (P := Try.prog) h 43 9 5 Try.underlying43 Try.underlying5 Try.underlying9 c
  have h2 := run_str_of (P := Try.prog) h' 43 9 5 Try.underlying43 Try.underlying5 Try.underlying9 c'
  have he : ((mkS l).toList == (mkS l').toList) = r := by
    rw [hd, ByteArray.toList_eq, ByteArray.toList_eq, mkS_list, mkS_list, Bool.eq_iff_iff]; simp
  clear h h' hd
  go_enter Try.func26, Try.ntmps26
  go_wp2
  go_ret
  exact ⟨by simp, rfl⟩
set_option maxHeartbeats 1600000 in
theorem same_v (a b : St) (ca cb : List Value) (W : World) (ha : stR.C W W.heap.size ca a) (hb : stR.C W W.heap.size cb b) (hoa : stC.ok a) (hob : stC.ok b) (hxa : (stC.put a).length ≤ 800000000) (hxb : (stC.put b).length ≤ 800000000) :
    Calls Try.prog 13 #[.agg ca.toArray, .agg cb.toArray] W fun e W' => e = .returned (.bool (decide (stC.put a = stC.put b))) ∧ Later W W' := by
  obtain ⟨Wa, hWa⟩ : ∃ x, x = W.alloc (.cells ca.toArray 40) := ⟨_, rfl⟩
  obtain ⟨w1, hw1⟩ : ∃ x, x = Wa.alloc (.cells cb.toArray 40) := ⟨_, rfl⟩
  have l1 : Later W Wa := by rw [hWa]; exact Later.alloc _ _
  have l2 : Later Wa w1 := by rw [hw1]; exact Later.alloc _ _
  obtain ⟨b0, hb0⟩ : ∃ x, x = W.heap.size := ⟨_, rfl⟩
  obtain ⟨b1, hb1⟩ : ∃ x, x = W.heap.size + 1 := ⟨_, rfl⟩
  have hx0 : w1.heap[b0]? = some (.cells ca.toArray 40 (0, 0)) := later_cells l2 (by rw [hb0, hWa]; exact heap_alloc_new W _)
  have hx1 : w1.heap[b1]? = some (.cells cb.toArray 40 (0, 0)) := by rw [hb1, hw1, show W.heap.size + 1 = Wa.heap.size by rw [hWa]; simp]; exact heap_alloc_new Wa _
  have hsa : ca.toArray.size = 29 := by rw [List.size_toArray]; exact stR.len ha
  have hsb : cb.toArray.size = 29 := by rw [List.size_toArray]; exact stR.len hb
  have HLA := Lib.hid (fun (w : World) (hl : Later w1 w) => loadO_run (P := Try.prog) 40 _ _ _ (later_cells hl hx0) Try.underlying40 rfl (by rw [hsa]; kernel_rfl))
  have HLB := Lib.hid (fun (w : World) (hl : Later w1 w) => loadO_run (P := Try.prog) 40 _ _ _ (later_cells hl hx1) Try.underlying40 rfl (by rw [hsb]; kernel_rfl))
  obtain ⟨pa, hpa⟩ : ∃ x, x = stC.put a := ⟨_, rfl⟩
  obtain ⟨pb, hpb⟩ : ∃ x, x = stC.put b := ⟨_, rfl⟩
  obtain ⟨n1, hn1⟩ : ∃ x, x = pa.length := ⟨_, rfl⟩
  obtain ⟨n2, hn2⟩ : ∃ x, x = pb.length := ⟨_, rfl⟩
  have pack : ∀ (x : St) (cx : List Value) (px : B) (nx : Nat), px = stC.put x → nx = px.length → stR.C W W.heap.size cx x → stC.ok x → (stC.put x).length ≤ 800000000 → ∀ w, Later w1 w → Calls Try.prog 9 #[.agg cx.toArray] w fun e w' => ∃ A c, e = .returned (.slice A nx c) ∧ Rd w' w'.heap.size A nx (px.map bv) ∧ Later w w' := by
    intro x cx px nx hpx hnx hx ho hl w hw
    have hlw := (l1.trans l2).trans hw
    refine (packS_v x cx w (stR.more (stR.keep hx fun p hp => hlw.cell hp) hlw.size) ho hl).mono fun e w' h => ?_
    obtain ⟨v', rfl, hg⟩ := h
    obtain ⟨A, c, rfl, _, hr, _⟩ := own_map hg.own
    rw [hnx, hpx]
    exact ⟨A, c, rfl, hr, hg.belowNil⟩
  have HPA := Lib.hid (pack a ca pa n1 hpa hn1 ha hoa hxa)
  have HPB := Lib.hid (pack b cb pb n2 hpb hn2 hb hob hxb)
  obtain ⟨r, hr⟩ : ∃ r, r = decide (pa = pb) := ⟨_, rfl⟩
  rw [← hpa, ← hpb, ← hr]
  have HRR := Lib.hid hr
  have HL := Lib.hid (l1.trans l2)
  have HW := Lib.hid (show (W.alloc (.cells ca.toArray 40)).alloc (.cells cb.toArray 40) = w1 by rw [hw1, hWa])
  have HB0 := Lib.hid hb0
  have HB1 := Lib.hid hb1
  clear ha hb hoa hob hxa hxb hx0 hx1 hsa hsb pack hpa hpb hn1 hn2 hr l1 l2 hw1 hWa hb0 hb1
  go_enter Try.func13, Try.ntmps13
  go_wp2_with fail
  rw [HW.out, ← HB1.out, ← HB0.out]
  refine wp_region_owes (by kernel_rfl) (fun x => Later w1 x) (Later) (Later.refl) [Sp.val (.agg ca.toArray), spBytes n1 pa, Sp.val (.agg cb.toArray), spBytes n2 pb, Sp.val (.bool r), Sp.val (.bool r)] (by kernel_rfl) (Later.drew w1) ?_ ?_
  · refine ⟨?_, ?_, ?_, ?_, ?_, ?_, trivial⟩
    · -- 0: slot 5 := Op.load 40 t2
      refine fun a w hC hs => .inl ⟨?_, ?_⟩
      · rfl
      have e2 : a.tmps.getD 2 undef = .pointer (some ⟨b0, 0, none⟩) := hs.free 2 rfl
      exact ValWp.loadR rfl e2 (HLA.out w hC) ⟨rfl, hC, Later.refl _⟩
    · -- 1: slot 6 := Op.call { value (Operand.func 9), args := #[t5], argTypes := #[40] }
      refine fun a w hC hs => .inl ⟨?_, ?_⟩
      · rfl
      have e5 : a.tmps.getD 5 undef = .agg ca.toArray := hs.dep 0 _ rfl rfl
      refine ValWp.call #[.agg ca.toArray] rfl rfl Try.func9 rfl rfl (by simp only [List.map_toArray, List.map_cons, List.map_nil, Act.eval, e5]) ?_
      refine (HPA.out w hC).mono ?_
      rintro e w' ⟨A, c, rfl, h2, hl⟩
      exact ⟨_, rfl, ⟨A, c, rfl, h2⟩, Later.trans hC hl, hl⟩
    · -- 2: slot 7 := Op.load 40 t3
      refine fun a w hC hs => .inl ⟨?_, ?_⟩
      · rfl
      have e3 : a.tmps.getD 3 undef = .pointer (some ⟨b1, 0, none⟩) := hs.free 3 rfl
      exact ValWp.loadR rfl e3 (HLB.out w hC) ⟨rfl, hC, Later.refl _⟩
    · -- 3: slot 8 := Op.call { value (Operand.func 9), args := #[t7], argTypes := #[40] }
      refine fun a w hC hs => .inl ⟨?_, ?_⟩
      · rfl
      have e7 : a.tmps.getD 7 undef = .agg cb.toArray := hs.dep 2 _ rfl rfl
      refine ValWp.call #[.agg cb.toArray] rfl rfl Try.func9 rfl rfl (by simp only [List.map_toArray, List.map_cons, List.map_nil, Act.eval, e7]) ?_
      refine (HPB.out w hC).mono ?_
      rintro e w' ⟨A, c, rfl, h2, hl⟩
      exact ⟨_, rfl, ⟨A, c, rfl, h2⟩, Later.trans hC hl, hl⟩
    · -- 4: slot 9 := Op.call { value (Operand.func 26), args := #[t6, t8], argTypes := #[43, 43] }
      refine fun a w hC hs => .inl ⟨?_, ?_⟩
      · rfl
      obtain ⟨A6, c6, e6, h6⟩ := hs.dep 1 _ rfl rfl
      change a.tmps.getD 6 undef = _ at e6
      obtain ⟨A8, c8, e8, h8⟩ := hs.dep 3 _ rfl rfl
      change a.tmps.getD 8 undef = _ at e8
      refine ValWp.call #[.slice A6 n1 c6, .slice A8 n2 c8] rfl rfl Try.func26 rfl rfl (by simp only [List.map_toArray, List.map_cons, List.map_nil, Act.eval, e6, e8]) ?_
      refine (equal_v A6 A8 n1 n2 c6 c8 _ _ pa pb w h6 h8 r HRR.out).mono ?_
      rintro e w' ⟨rfl, rfl⟩
      exact ⟨_, rfl, rfl, hC, Later.refl _⟩
    · -- 5: slot 4 := Op.assign t9
      refine fun a w hC hs => .inl ⟨?_, ?_⟩
      · rfl
      have e9 : a.tmps.getD 9 undef = .bool r := hs.dep 4 _ rfl rfl
      exact ⟨e9, hC, Later.refl _⟩
  · intro a W hC hd hsz hfree hs
    obtain ⟨u5, hu5⟩ : ∃ u, u = a.tmps.getD 5 undef := ⟨_, rfl⟩
    obtain ⟨u6, hu6⟩ : ∃ u, u = a.tmps.getD 6 undef := ⟨_, rfl⟩
    obtain ⟨u7, hu7⟩ : ∃ u, u = a.tmps.getD 7 undef := ⟨_, rfl⟩
    obtain ⟨u8, hu8⟩ : ∃ u, u = a.tmps.getD 8 undef := ⟨_, rfl⟩
    obtain ⟨u9, hu9⟩ : ∃ u, u = a.tmps.getD 9 undef := ⟨_, rfl⟩
    have hal : AllAt a 0 [_, _, _, _, .bool r, u5, u6, u7, u8, u9] := ⟨hfree 0 rfl, hfree 1 rfl, hfree 2 rfl, hfree 3 rfl, hs 5 _ rfl, hu5.symm, hu6.symm, hu7.symm, hu8.symm, hu9.symm, trivial⟩
    have hlit := fun h => act_lit hd h hal
    rw [hlit hsz]
    simp only [Array.getD_eq_getD_getElem?, List.getElem?_toArray, List.getElem?_cons_zero, List.getElem?_cons_succ, Option.getD_some]
    clear hlit hal hd hsz hfree hs hu5 hu6 hu7 hu8 hu9
    have HLL := Lib.hid (Later.trans HL.out hC)
    clear hC
    go_wp2
    go_ret
    exact ⟨rfl, HLL.out⟩
end Ks
end Go.Proofs.Yteljmlodbnfhbaa
