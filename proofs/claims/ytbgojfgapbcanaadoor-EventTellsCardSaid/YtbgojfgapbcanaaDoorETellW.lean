/- The walk of EventTells, where nothing returns early. -/
import Derived.Test.YtbgojfgapbcanaaDoorETellE
import Derived.Test.YtbgojfgapbcanaaDoorEvW
namespace Go.Proofs.YtbgojfgapbcanaaDoor
namespace eventTells
open Go.RowKit
set_option maxRecDepth 100000 in
set_option maxHeartbeats 2000000 in
theorem main (w0 : World) (hN : Names w0) (k n m : Int) (t : List UInt8) (A : Option Addr) (len cap : Nat) (l : List (List UInt8)) (k' n' m' : Int) (t' : List UInt8) (A' : Option Addr) (len' cap' : Nat) (l' : List (List UInt8)) (ak ae an am : Int) (at_ : List UInt8) (aA : Option Addr) (alen acap : Nat) (al : List (List UInt8)) (asg j : Int) (hr : Rd w0 w0.heap.size A len (l.map sv)) (hr' : Rd w0 w0.heap.size A' len' (l'.map sv)) (har : Rd w0 w0.heap.size aA alen (al.map sv)) (hcap : len ≤ 2 ^ 63 - 1) (hcap' : len' ≤ 2 ^ 63 - 1) (hacap : alen ≤ 2 ^ 63 - 1) (h1 : fewB len l = true) (h2 : fewB len' l' = true) (h3 : fewB alen al = true) (h4 : ¬ 500 < t.length) (h5 : ¬ 500 < at_.length)
    (hnb : -9223372036854775808 ≤ n ∧ n ≤ 9223372036854775807) (hmb : -9223372036854775808 ≤ m ∧ m ≤ 9223372036854775807) (hanb : -9223372036854775808 ≤ an ∧ an ≤ 9223372036854775807) (hamb : -9223372036854775808 ≤ am ∧ am ≤ 9223372036854775807) :
    Calls Tryd.prog 3 #[reqV k n m t A len cap, reqV k' n' m' t' A' len' cap', ansV ak ae an am at_ aA alen acap asg, .int .i64 j] w0 fun r w' => r = .returned (.bool true) ∧ Below w0.heap.size w0 w' := by
  obtain ⟨f1, f2⟩ := few_of h1
  obtain ⟨g1, g2⟩ := few_of h3
  have hxl : (textsB l).length ≤ 1000000 := by
    have h6 := textsB_le (M := 200) (by omega) f2
    have h8 := hr.len_map
    have h7 : l.length * (10 + 200) ≤ 30 * 210 := Nat.mul_le_mul (by omega) (by omega)
    omega
  have hxa : (textsB al).length ≤ 1000000 := by
    have h6 := textsB_le (M := 200) (by omega) g2
    have h8 := har.len_map
    have h7 : al.length * (10 + 200) ≤ 30 * 210 := Nat.mul_le_mul (by omega) (by omega)
    omega
  obtain ⟨NJ, hNJ⟩ : ∃ x, nameI j = x := ⟨_, rfl⟩
  obtain ⟨RB, hRB⟩ : ∃ x, rightB k len = x := ⟨_, rfl⟩
  obtain ⟨FB, hFB⟩ : ∃ x, fitsB j ak ae asg alen = x := ⟨_, rfl⟩
  obtain ⟨SB, hSB⟩ : ∃ x, decide (k = k' ∧ n = n' ∧ m = m' ∧ t = t' ∧ l = l') = x := ⟨_, rfl⟩
  obtain ⟨AL, hAL⟩ : ∃ x, askB k n m t l = x := ⟨_, rfl⟩
  obtain ⟨TL, hTL⟩ : ∃ x, tellB ak ae an am at_ al asg = x := ⟨_, rfl⟩
  have c48 := fun W (h : Later w0 W) => name_v j W (hN.keep h)
  have c50 := fun W => refName_v j W
  have c54 := fun W => right_v k n m t A len cap W
  have c56 := fun W => refRight_v k n m t A len cap W
  have c62 := fun W => fits_v j ak ae an am at_ aA alen acap asg W
  have c65 := fun W => refFits_v j ak ae an am at_ aA alen acap asg W
  have c71 := fun W (h : Later w0 W) => same_v k n m k' n' m' t t' A A' len cap len' cap' l l' W (rd_later hr h) (rd_later hr' h) (by unfold maxLen; omega) (by unfold maxLen; omega)
  have c74 := fun W (h : Later w0 W) => refSame_v k n m k' n' m' t t' A A' len cap len' cap' l l' W (rd_later hr h) (rd_later hr' h) (by unfold maxLen; omega) (by unfold maxLen; omega)
  have c79 := fun W (h : Later w0 W) => ask_v k n m t A len cap l W (rd_later hr h) (by omega) (by omega) hnb.1 hnb.2 hmb.1 hmb.2
  have c82 := fun W (h : Later w0 W) => refAsk_v k n m t A len cap l W (rd_later hr h) (by omega) (by omega) hnb.1 hnb.2 hmb.1 hmb.2
  have c87 := fun W (h : Later w0 W) => tell_v ak ae an am at_ aA alen acap al asg W (rd_later har h) (by omega) (by omega) hanb.1 hanb.2 hamb.1 hamb.2
  have c90 := fun W (h : Later w0 W) => refTell_v ak ae an am at_ aA alen acap al asg W (rd_later har h) (by omega) (by omega) hanb.1 hanb.2 hamb.1 hamb.2
  rw [hNJ] at c48 c50
  rw [hRB] at c54 c56
  rw [hFB] at c62 c65
  rw [hSB] at c71 c74
  rw [hAL] at c79 c82
  rw [hTL] at c87 c90
  unfold reqV at c54 c56 c71 c74 c79 c82
  unfold ansV at c62 c65 c87 c90
  have PK := Lib.hid (And.intro c48 (And.intro c50 (And.intro c54 (And.intro c56 (And.intro c62 (And.intro c65 (And.intro c71 (And.intro c74 (And.intro c79 (And.intro c82 (And.intro c87 (c90))))))))))))
  clear c48 c50 c54 c56 c62 c65 c71 c74 c79 c82 c87 c90 hnb hmb hanb hamb hxl hxa hNJ hRB hFB hSB hAL hTL f1 f2 g1 g2
  unfold reqV ansV
  have HN := Lib.hid hN
  have HR := Lib.hid hr
  have HR' := Lib.hid hr'
  have HAR := Lib.hid har
  have hbox := Lib.hid (show Later w0 (((w0.alloc (.cells (qC k n m t A len cap) 24)).alloc (.cells (qC k' n' m' t' A' len' cap') 24)).alloc (.cells (aC ak ae an am at_ aA alen acap asg) 26)) from Later.trans (Later.alloc w0 _) (Later.trans (Later.alloc _ _) (Later.alloc _ _)))
  have h3c := fun W h => cells3 w0 k n m t A len cap k' n' m' t' A' len' cap' ak ae an am at_ aA alen acap asg (W := W) h
  have H3 := Lib.hid h3c
  have hst := mkS_size t
  have hsa := mkS_size at_
  have hfew1 := fun W (h : Later w0 W) => few_v A len cap W.heap.size l W (rd_later HR.out h) (by omega)
  have hfew2 := fun W (h : Later w0 W) => few_v A' len' cap' W.heap.size l' W (rd_later HR'.out h) (by omega)
  have hfew3 := fun W (h : Later w0 W) => few_v aA alen acap W.heap.size al W (rd_later HAR.out h) (by omega)
  clear h3c hN hr hr' har
  rw [h1] at hfew1
  rw [h2] at hfew2
  rw [h3] at hfew3
  have HF1 := Lib.hid hfew1
  have HF2 := Lib.hid hfew2
  have HF3 := Lib.hid hfew3
  clear hfew1 hfew2 hfew3 h1 h2 h3
  go_enter Tryd.func3, Tryd.ntmps3
  go_wp2_with (first
    | (go_at_call 8; (with_reducible refine (evAwake_v _ (HN.out.keep hbox.out)).mono ?_); rintro r w1 ⟨rfl, hb1⟩; have HB1 := Lib.hid (Later.trans hbox.out hb1); obtain ⟨⟨⟨q0, q1, q2, q3, q4⟩, ⟨o0, o1, o2, o3, o4⟩, p0, p1, p2, p3, p4, p5, p6⟩, hz⟩ := H3.out w1 hb1; have L01 := Lib.hid hb1; clear hb1)
    | (go_at_call 9; (with_reducible refine (HF1.out w1 HB1.out).mono ?_); rintro r w' ⟨rfl, rfl⟩)
    | (go_at_call 9; (with_reducible refine (HF2.out w1 HB1.out).mono ?_); rintro r w' ⟨rfl, rfl⟩)
    | (go_at_call 9; (with_reducible refine (HF3.out w1 HB1.out).mono ?_); rintro r w' ⟨rfl, rfl⟩))
  have hk0 := fun W (h : Later w1 W) => (H3.out W (Later.trans L01.out h)).1
  have HK := Lib.hid hk0
  clear hk0 q0 q1 q2 q3 q4 o0 o1 o2 o3 o4 p0 p1 p2 p3 p4 p5 p6 hz HF1 HF2 HF3 H3 L01 hst hsa h4 h5
  refine wp_region_owes (by kernel_rfl) (fun W => Later w1 W) (Later) (Later.refl) [Sp.val (.int .i64 j), Sp.val (.string NJ), Sp.val (.int .i64 j), Sp.val (.string NJ), Sp.val (.bool true), Sp.val (.bool true), Sp.val (.agg #[.int .i64 k, .int .i64 n, .int .i64 m, .string (mkS t), .slice A len cap]), Sp.val (.bool RB), Sp.val (.agg #[.int .i64 k, .int .i64 n, .int .i64 m, .string (mkS t), .slice A len cap]), Sp.val (.bool RB), Sp.val (.bool true), Sp.val (.bool true), Sp.val (.bool true), Sp.val (.int .i64 j), Sp.val (.agg #[.int .i64 ak, .int .i64 ae, .int .i64 an, .int .i64 am, .string (mkS at_), .slice aA alen acap, .int .i64 asg]), Sp.val (.bool FB), Sp.val (.int .i64 j), Sp.val (.agg #[.int .i64 ak, .int .i64 ae, .int .i64 an, .int .i64 am, .string (mkS at_), .slice aA alen acap, .int .i64 asg]), Sp.val (.bool FB), Sp.val (.bool true), Sp.val (.bool true), Sp.val (.bool true), Sp.val (.agg #[.int .i64 k, .int .i64 n, .int .i64 m, .string (mkS t), .slice A len cap]), Sp.val (.agg #[.int .i64 k', .int .i64 n', .int .i64 m', .string (mkS t'), .slice A' len' cap']), Sp.val (.bool SB), Sp.val (.agg #[.int .i64 k, .int .i64 n, .int .i64 m, .string (mkS t), .slice A len cap]), Sp.val (.agg #[.int .i64 k', .int .i64 n', .int .i64 m', .string (mkS t'), .slice A' len' cap']), Sp.val (.bool SB), Sp.val (.bool true), Sp.val (.bool true), Sp.val (.bool true), Sp.val (.agg #[.int .i64 k, .int .i64 n, .int .i64 m, .string (mkS t), .slice A len cap]), spBytes AL.length AL, Sp.val (.string (mkS AL)), Sp.val (.agg #[.int .i64 k, .int .i64 n, .int .i64 m, .string (mkS t), .slice A len cap]), Sp.val (.string (mkS AL)), Sp.val (.bool true), Sp.val (.bool true), Sp.val (.bool true), Sp.val (.agg #[.int .i64 ak, .int .i64 ae, .int .i64 an, .int .i64 am, .string (mkS at_), .slice aA alen acap, .int .i64 asg]), spBytes TL.length TL, Sp.val (.string (mkS TL)), Sp.val (.agg #[.int .i64 ak, .int .i64 ae, .int .i64 an, .int .i64 am, .string (mkS at_), .slice aA alen acap, .int .i64 asg]), Sp.val (.string (mkS TL)), Sp.val (.bool true), Sp.val (.bool true), Sp.val (.bool true)] (by kernel_rfl) (Later.drew w1) ?_ ?_
  · refine ⟨?_, ?_, ?_, ?_, ?_, ?_, ?_, ?_, ?_, ?_, ?_, ?_, ?_, ?_, ?_, ?_, ?_, ?_, ?_, ?_, ?_, ?_, ?_, ?_, ?_, ?_, ?_, ?_, ?_, ?_, ?_, ?_, ?_, ?_, ?_, ?_, ?_, ?_, ?_, ?_, ?_, ?_, ?_, ?_, ?_, ?_, ?_, trivial⟩
    · -- 0: slot 47 := Op.move t3
      refine fun a w hC hs => .inl ⟨?_, ?_⟩
      · rfl
      have e3 : a.tmps.getD 3 undef = .int .i64 j := hs.free 3 rfl
      exact ⟨e3, hC, Later.refl _⟩
    · -- 1: slot 48 := Op.call { value (Operand.func 10), args := #[t47], argTypes := #[3] }
      refine fun a w hC hs => .inl ⟨?_, ?_⟩
      · rfl
      have e47 : a.tmps.getD 47 undef = .int .i64 j := hs.dep 0 _ rfl rfl
      refine ValWp.call #[.int .i64 j] rfl rfl Tryd.func10 rfl rfl (by simp only [List.map_toArray, List.map_cons, List.map_nil, Act.eval, e47]) ?_
      refine (PK.out.1 w (Later.trans HB1.out hC)).mono ?_
      rintro r w' ⟨rfl, rfl⟩
      exact ⟨_, rfl, rfl, hC, Later.refl _⟩
    · -- 2: slot 49 := Op.move t3
      refine fun a w hC hs => .inl ⟨?_, ?_⟩
      · rfl
      have e3 : a.tmps.getD 3 undef = .int .i64 j := hs.free 3 rfl
      exact ⟨e3, hC, Later.refl _⟩
    · -- 3: slot 50 := Op.call { value (Operand.func 11), args := #[t49], argTypes := #[3] }
      refine fun a w hC hs => .inl ⟨?_, ?_⟩
      · rfl
      have e49 : a.tmps.getD 49 undef = .int .i64 j := hs.dep 2 _ rfl rfl
      refine ValWp.call #[.int .i64 j] rfl rfl Tryd.func11 rfl rfl (by simp only [List.map_toArray, List.map_cons, List.map_nil, Act.eval, e49]) ?_
      refine (PK.out.2.1 w).mono ?_
      rintro r w' ⟨rfl, hb⟩
      exact ⟨_, rfl, rfl, Later.trans hC hb, hb⟩
    · -- 4: slot 51 := Op.binOp BinOp.eql 9 t48 t50 9
      refine fun a w hC hs => .inl ⟨?_, ?_⟩
      · rfl
      have e48 : a.tmps.getD 48 undef = .string NJ := hs.dep 1 _ rfl rfl
      have e50 : a.tmps.getD 50 undef = .string NJ := hs.dep 3 _ rfl rfl
      refine ValWp.pure (v := .bool true) (fun K' hK' => ?_) ⟨rfl, hC, Later.refl _⟩
      simp only [ValWp, execOp, Act.eval, e48, e50]
      go_simp
      all_goals exact hK'
    · -- 5: slot 52 := Op.move t51
      refine fun a w hC hs => .inl ⟨?_, ?_⟩
      · rfl
      have e51 : a.tmps.getD 51 undef = .bool true := hs.dep 4 _ rfl rfl
      exact ⟨e51, hC, Later.refl _⟩
    · -- 6: slot 53 := Op.load 24 t4 guarded (5, 'true')
      refine fun a w hC hs => .inl ⟨?_, ?_⟩
      · exact (by unfold Region.wanted; dsimp only; rw [yielded_bool (d := 52) rfl (hs.dep 5 _ rfl rfl)]; rfl)
      have e4 : a.tmps.getD 4 undef = .pointer (some ⟨w0.heap.size, 0, none⟩) := hs.free 4 rfl
      obtain ⟨⟨q0, q1, q2, q3, q4⟩, ⟨o0, o1, o2, o3, o4⟩, p0, p1, p2, p3, p4, p5, p6⟩ := HK.out w hC
      refine ValWp.pure (v := .agg #[.int .i64 k, .int .i64 n, .int .i64 m, .string (mkS t), .slice A len cap]) (fun K' hK' => ?_) ⟨rfl, hC, Later.refl _⟩
      simp only [ValWp, execOp, Act.eval, e4]
      go_simp
      all_goals exact hK'
    · -- 7: slot 54 := Op.call { value (Operand.func 12), args := #[t53], argTypes := #[24] } guarded (5, 'true')
      refine fun a w hC hs => .inl ⟨?_, ?_⟩
      · exact (by unfold Region.wanted; dsimp only; rw [yielded_bool (d := 52) rfl (hs.dep 5 _ rfl rfl)]; rfl)
      have e53 : a.tmps.getD 53 undef = .agg #[.int .i64 k, .int .i64 n, .int .i64 m, .string (mkS t), .slice A len cap] := hs.dep 6 _ rfl rfl
      refine ValWp.call #[.agg #[.int .i64 k, .int .i64 n, .int .i64 m, .string (mkS t), .slice A len cap]] rfl rfl Tryd.func12 rfl rfl (by simp only [List.map_toArray, List.map_cons, List.map_nil, Act.eval, e53]) ?_
      refine (PK.out.2.2.1 w).mono ?_
      rintro r w' ⟨rfl, hb⟩
      exact ⟨_, rfl, rfl, Later.trans hC hb, hb⟩
    · -- 8: slot 55 := Op.load 24 t4 guarded (5, 'true')
      refine fun a w hC hs => .inl ⟨?_, ?_⟩
      · exact (by unfold Region.wanted; dsimp only; rw [yielded_bool (d := 52) rfl (hs.dep 5 _ rfl rfl)]; rfl)
      have e4 : a.tmps.getD 4 undef = .pointer (some ⟨w0.heap.size, 0, none⟩) := hs.free 4 rfl
      obtain ⟨⟨q0, q1, q2, q3, q4⟩, ⟨o0, o1, o2, o3, o4⟩, p0, p1, p2, p3, p4, p5, p6⟩ := HK.out w hC
      refine ValWp.pure (v := .agg #[.int .i64 k, .int .i64 n, .int .i64 m, .string (mkS t), .slice A len cap]) (fun K' hK' => ?_) ⟨rfl, hC, Later.refl _⟩
      simp only [ValWp, execOp, Act.eval, e4]
      go_simp
      all_goals exact hK'
    · -- 9: slot 56 := Op.call { value (Operand.func 13), args := #[t55], argTypes := #[24] } guarded (5, 'true')
      refine fun a w hC hs => .inl ⟨?_, ?_⟩
      · exact (by unfold Region.wanted; dsimp only; rw [yielded_bool (d := 52) rfl (hs.dep 5 _ rfl rfl)]; rfl)
      have e55 : a.tmps.getD 55 undef = .agg #[.int .i64 k, .int .i64 n, .int .i64 m, .string (mkS t), .slice A len cap] := hs.dep 8 _ rfl rfl
      refine ValWp.call #[.agg #[.int .i64 k, .int .i64 n, .int .i64 m, .string (mkS t), .slice A len cap]] rfl rfl Tryd.func13 rfl rfl (by simp only [List.map_toArray, List.map_cons, List.map_nil, Act.eval, e55]) ?_
      refine (PK.out.2.2.2.1 w).mono ?_
      rintro r w' ⟨rfl, hb⟩
      exact ⟨_, rfl, rfl, Later.trans hC hb, hb⟩
    · -- 10: slot 57 := Op.binOp BinOp.eql 4 t54 t56 4 guarded (5, 'true')
      refine fun a w hC hs => .inl ⟨?_, ?_⟩
      · exact (by unfold Region.wanted; dsimp only; rw [yielded_bool (d := 52) rfl (hs.dep 5 _ rfl rfl)]; rfl)
      have e54 : a.tmps.getD 54 undef = .bool RB := hs.dep 7 _ rfl rfl
      have e56 : a.tmps.getD 56 undef = .bool RB := hs.dep 9 _ rfl rfl
      refine ValWp.pure (v := .bool true) (fun K' hK' => ?_) ⟨rfl, hC, Later.refl _⟩
      simp only [ValWp, execOp, Act.eval, e54, e56]
      go_simp
      all_goals exact hK'
    · -- 11: slot 58 := Op.pick t52 t57 (const (Value.bool false))
      refine fun a w hC hs => .inl ⟨?_, ?_⟩
      · rfl
      have e52 : a.tmps.getD 52 undef = .bool true := hs.dep 5 _ rfl rfl
      have e57 : a.tmps.getD 57 undef = .bool true := hs.dep 10 _ rfl rfl
      refine ValWp.pure (v := .bool true) (fun K' hK' => ?_) ⟨rfl, hC, Later.refl _⟩
      simp only [ValWp, execOp, Act.eval, e52, e57]
      go_simp
      all_goals exact hK'
    · -- 12: slot 59 := Op.move t58
      refine fun a w hC hs => .inl ⟨?_, ?_⟩
      · rfl
      have e58 : a.tmps.getD 58 undef = .bool true := hs.dep 11 _ rfl rfl
      exact ⟨e58, hC, Later.refl _⟩
    · -- 13: slot 60 := Op.move t3 guarded (12, 'true')
      refine fun a w hC hs => .inl ⟨?_, ?_⟩
      · exact (by unfold Region.wanted; dsimp only; rw [yielded_bool (d := 59) rfl (hs.dep 12 _ rfl rfl)]; rfl)
      have e3 : a.tmps.getD 3 undef = .int .i64 j := hs.free 3 rfl
      exact ⟨e3, hC, Later.refl _⟩
    · -- 14: slot 61 := Op.load 26 t6 guarded (12, 'true')
      refine fun a w hC hs => .inl ⟨?_, ?_⟩
      · exact (by unfold Region.wanted; dsimp only; rw [yielded_bool (d := 59) rfl (hs.dep 12 _ rfl rfl)]; rfl)
      have e6 : a.tmps.getD 6 undef = .pointer (some ⟨w0.heap.size + 2, 0, none⟩) := hs.free 6 rfl
      obtain ⟨⟨q0, q1, q2, q3, q4⟩, ⟨o0, o1, o2, o3, o4⟩, p0, p1, p2, p3, p4, p5, p6⟩ := HK.out w hC
      refine ValWp.pure (v := .agg #[.int .i64 ak, .int .i64 ae, .int .i64 an, .int .i64 am, .string (mkS at_), .slice aA alen acap, .int .i64 asg]) (fun K' hK' => ?_) ⟨rfl, hC, Later.refl _⟩
      simp only [ValWp, execOp, Act.eval, e6]
      go_simp
      all_goals exact hK'
    · -- 15: slot 62 := Op.call { value (Operand.func 14), args := #[t60, t61], argTypes := #[3, 26] } guarded (12, 'true')
      refine fun a w hC hs => .inl ⟨?_, ?_⟩
      · exact (by unfold Region.wanted; dsimp only; rw [yielded_bool (d := 59) rfl (hs.dep 12 _ rfl rfl)]; rfl)
      have e60 : a.tmps.getD 60 undef = .int .i64 j := hs.dep 13 _ rfl rfl
      have e61 : a.tmps.getD 61 undef = .agg #[.int .i64 ak, .int .i64 ae, .int .i64 an, .int .i64 am, .string (mkS at_), .slice aA alen acap, .int .i64 asg] := hs.dep 14 _ rfl rfl
      refine ValWp.call #[.int .i64 j, .agg #[.int .i64 ak, .int .i64 ae, .int .i64 an, .int .i64 am, .string (mkS at_), .slice aA alen acap, .int .i64 asg]] rfl rfl Tryd.func14 rfl rfl (by simp only [List.map_toArray, List.map_cons, List.map_nil, Act.eval, e60, e61]) ?_
      refine (PK.out.2.2.2.2.1 w).mono ?_
      rintro r w' ⟨rfl, hb⟩
      exact ⟨_, rfl, rfl, Later.trans hC hb, hb⟩
    · -- 16: slot 63 := Op.move t3 guarded (12, 'true')
      refine fun a w hC hs => .inl ⟨?_, ?_⟩
      · exact (by unfold Region.wanted; dsimp only; rw [yielded_bool (d := 59) rfl (hs.dep 12 _ rfl rfl)]; rfl)
      have e3 : a.tmps.getD 3 undef = .int .i64 j := hs.free 3 rfl
      exact ⟨e3, hC, Later.refl _⟩
    · -- 17: slot 64 := Op.load 26 t6 guarded (12, 'true')
      refine fun a w hC hs => .inl ⟨?_, ?_⟩
      · exact (by unfold Region.wanted; dsimp only; rw [yielded_bool (d := 59) rfl (hs.dep 12 _ rfl rfl)]; rfl)
      have e6 : a.tmps.getD 6 undef = .pointer (some ⟨w0.heap.size + 2, 0, none⟩) := hs.free 6 rfl
      obtain ⟨⟨q0, q1, q2, q3, q4⟩, ⟨o0, o1, o2, o3, o4⟩, p0, p1, p2, p3, p4, p5, p6⟩ := HK.out w hC
      refine ValWp.pure (v := .agg #[.int .i64 ak, .int .i64 ae, .int .i64 an, .int .i64 am, .string (mkS at_), .slice aA alen acap, .int .i64 asg]) (fun K' hK' => ?_) ⟨rfl, hC, Later.refl _⟩
      simp only [ValWp, execOp, Act.eval, e6]
      go_simp
      all_goals exact hK'
    · -- 18: slot 65 := Op.call { value (Operand.func 15), args := #[t63, t64], argTypes := #[3, 26] } guarded (12, 'true')
      refine fun a w hC hs => .inl ⟨?_, ?_⟩
      · exact (by unfold Region.wanted; dsimp only; rw [yielded_bool (d := 59) rfl (hs.dep 12 _ rfl rfl)]; rfl)
      have e63 : a.tmps.getD 63 undef = .int .i64 j := hs.dep 16 _ rfl rfl
      have e64 : a.tmps.getD 64 undef = .agg #[.int .i64 ak, .int .i64 ae, .int .i64 an, .int .i64 am, .string (mkS at_), .slice aA alen acap, .int .i64 asg] := hs.dep 17 _ rfl rfl
      refine ValWp.call #[.int .i64 j, .agg #[.int .i64 ak, .int .i64 ae, .int .i64 an, .int .i64 am, .string (mkS at_), .slice aA alen acap, .int .i64 asg]] rfl rfl Tryd.func15 rfl rfl (by simp only [List.map_toArray, List.map_cons, List.map_nil, Act.eval, e63, e64]) ?_
      refine (PK.out.2.2.2.2.2.1 w).mono ?_
      rintro r w' ⟨rfl, hb⟩
      exact ⟨_, rfl, rfl, Later.trans hC hb, hb⟩
    · -- 19: slot 66 := Op.binOp BinOp.eql 4 t62 t65 4 guarded (12, 'true')
      refine fun a w hC hs => .inl ⟨?_, ?_⟩
      · exact (by unfold Region.wanted; dsimp only; rw [yielded_bool (d := 59) rfl (hs.dep 12 _ rfl rfl)]; rfl)
      have e62 : a.tmps.getD 62 undef = .bool FB := hs.dep 15 _ rfl rfl
      have e65 : a.tmps.getD 65 undef = .bool FB := hs.dep 18 _ rfl rfl
      refine ValWp.pure (v := .bool true) (fun K' hK' => ?_) ⟨rfl, hC, Later.refl _⟩
      simp only [ValWp, execOp, Act.eval, e62, e65]
      go_simp
      all_goals exact hK'
    · -- 20: slot 67 := Op.pick t59 t66 (const (Value.bool false))
      refine fun a w hC hs => .inl ⟨?_, ?_⟩
      · rfl
      have e59 : a.tmps.getD 59 undef = .bool true := hs.dep 12 _ rfl rfl
      have e66 : a.tmps.getD 66 undef = .bool true := hs.dep 19 _ rfl rfl
      refine ValWp.pure (v := .bool true) (fun K' hK' => ?_) ⟨rfl, hC, Later.refl _⟩
      simp only [ValWp, execOp, Act.eval, e59, e66]
      go_simp
      all_goals exact hK'
    · -- 21: slot 68 := Op.move t67
      refine fun a w hC hs => .inl ⟨?_, ?_⟩
      · rfl
      have e67 : a.tmps.getD 67 undef = .bool true := hs.dep 20 _ rfl rfl
      exact ⟨e67, hC, Later.refl _⟩
    · -- 22: slot 69 := Op.load 24 t4 guarded (21, 'true')
      refine fun a w hC hs => .inl ⟨?_, ?_⟩
      · exact (by unfold Region.wanted; dsimp only; rw [yielded_bool (d := 68) rfl (hs.dep 21 _ rfl rfl)]; rfl)
      have e4 : a.tmps.getD 4 undef = .pointer (some ⟨w0.heap.size, 0, none⟩) := hs.free 4 rfl
      obtain ⟨⟨q0, q1, q2, q3, q4⟩, ⟨o0, o1, o2, o3, o4⟩, p0, p1, p2, p3, p4, p5, p6⟩ := HK.out w hC
      refine ValWp.pure (v := .agg #[.int .i64 k, .int .i64 n, .int .i64 m, .string (mkS t), .slice A len cap]) (fun K' hK' => ?_) ⟨rfl, hC, Later.refl _⟩
      simp only [ValWp, execOp, Act.eval, e4]
      go_simp
      all_goals exact hK'
    · -- 23: slot 70 := Op.load 24 t5 guarded (21, 'true')
      refine fun a w hC hs => .inl ⟨?_, ?_⟩
      · exact (by unfold Region.wanted; dsimp only; rw [yielded_bool (d := 68) rfl (hs.dep 21 _ rfl rfl)]; rfl)
      have e5 : a.tmps.getD 5 undef = .pointer (some ⟨w0.heap.size + 1, 0, none⟩) := hs.free 5 rfl
      obtain ⟨⟨q0, q1, q2, q3, q4⟩, ⟨o0, o1, o2, o3, o4⟩, p0, p1, p2, p3, p4, p5, p6⟩ := HK.out w hC
      refine ValWp.pure (v := .agg #[.int .i64 k', .int .i64 n', .int .i64 m', .string (mkS t'), .slice A' len' cap']) (fun K' hK' => ?_) ⟨rfl, hC, Later.refl _⟩
      simp only [ValWp, execOp, Act.eval, e5]
      go_simp
      all_goals exact hK'
    · -- 24: slot 71 := Op.call { value (Operand.func 16), args := #[t69, t70], argTypes := #[24, 24] } guarded (21, 'true')
      refine fun a w hC hs => .inl ⟨?_, ?_⟩
      · exact (by unfold Region.wanted; dsimp only; rw [yielded_bool (d := 68) rfl (hs.dep 21 _ rfl rfl)]; rfl)
      have e69 : a.tmps.getD 69 undef = .agg #[.int .i64 k, .int .i64 n, .int .i64 m, .string (mkS t), .slice A len cap] := hs.dep 22 _ rfl rfl
      have e70 : a.tmps.getD 70 undef = .agg #[.int .i64 k', .int .i64 n', .int .i64 m', .string (mkS t'), .slice A' len' cap'] := hs.dep 23 _ rfl rfl
      refine ValWp.call #[.agg #[.int .i64 k, .int .i64 n, .int .i64 m, .string (mkS t), .slice A len cap], .agg #[.int .i64 k', .int .i64 n', .int .i64 m', .string (mkS t'), .slice A' len' cap']] rfl rfl Tryd.func16 rfl rfl (by simp only [List.map_toArray, List.map_cons, List.map_nil, Act.eval, e69, e70]) ?_
      refine (PK.out.2.2.2.2.2.2.1 w (Later.trans HB1.out hC)).mono ?_
      rintro r w' ⟨rfl, hb⟩
      exact ⟨_, rfl, rfl, Later.trans hC hb, hb⟩
    · -- 25: slot 72 := Op.load 24 t4 guarded (21, 'true')
      refine fun a w hC hs => .inl ⟨?_, ?_⟩
      · exact (by unfold Region.wanted; dsimp only; rw [yielded_bool (d := 68) rfl (hs.dep 21 _ rfl rfl)]; rfl)
      have e4 : a.tmps.getD 4 undef = .pointer (some ⟨w0.heap.size, 0, none⟩) := hs.free 4 rfl
      obtain ⟨⟨q0, q1, q2, q3, q4⟩, ⟨o0, o1, o2, o3, o4⟩, p0, p1, p2, p3, p4, p5, p6⟩ := HK.out w hC
      refine ValWp.pure (v := .agg #[.int .i64 k, .int .i64 n, .int .i64 m, .string (mkS t), .slice A len cap]) (fun K' hK' => ?_) ⟨rfl, hC, Later.refl _⟩
      simp only [ValWp, execOp, Act.eval, e4]
      go_simp
      all_goals exact hK'
    · -- 26: slot 73 := Op.load 24 t5 guarded (21, 'true')
      refine fun a w hC hs => .inl ⟨?_, ?_⟩
      · exact (by unfold Region.wanted; dsimp only; rw [yielded_bool (d := 68) rfl (hs.dep 21 _ rfl rfl)]; rfl)
      have e5 : a.tmps.getD 5 undef = .pointer (some ⟨w0.heap.size + 1, 0, none⟩) := hs.free 5 rfl
      obtain ⟨⟨q0, q1, q2, q3, q4⟩, ⟨o0, o1, o2, o3, o4⟩, p0, p1, p2, p3, p4, p5, p6⟩ := HK.out w hC
      refine ValWp.pure (v := .agg #[.int .i64 k', .int .i64 n', .int .i64 m', .string (mkS t'), .slice A' len' cap']) (fun K' hK' => ?_) ⟨rfl, hC, Later.refl _⟩
      simp only [ValWp, execOp, Act.eval, e5]
      go_simp
      all_goals exact hK'
    · -- 27: slot 74 := Op.call { value (Operand.func 17), args := #[t72, t73], argTypes := #[24, 24] } guarded (21, 'true')
      refine fun a w hC hs => .inl ⟨?_, ?_⟩
      · exact (by unfold Region.wanted; dsimp only; rw [yielded_bool (d := 68) rfl (hs.dep 21 _ rfl rfl)]; rfl)
      have e72 : a.tmps.getD 72 undef = .agg #[.int .i64 k, .int .i64 n, .int .i64 m, .string (mkS t), .slice A len cap] := hs.dep 25 _ rfl rfl
      have e73 : a.tmps.getD 73 undef = .agg #[.int .i64 k', .int .i64 n', .int .i64 m', .string (mkS t'), .slice A' len' cap'] := hs.dep 26 _ rfl rfl
      refine ValWp.call #[.agg #[.int .i64 k, .int .i64 n, .int .i64 m, .string (mkS t), .slice A len cap], .agg #[.int .i64 k', .int .i64 n', .int .i64 m', .string (mkS t'), .slice A' len' cap']] rfl rfl Tryd.func17 rfl rfl (by simp only [List.map_toArray, List.map_cons, List.map_nil, Act.eval, e72, e73]) ?_
      refine (PK.out.2.2.2.2.2.2.2.1 w (Later.trans HB1.out hC)).mono ?_
      rintro r w' ⟨rfl, hb⟩
      exact ⟨_, rfl, rfl, Later.trans hC hb, hb⟩
    · -- 28: slot 75 := Op.binOp BinOp.eql 4 t71 t74 4 guarded (21, 'true')
      refine fun a w hC hs => .inl ⟨?_, ?_⟩
      · exact (by unfold Region.wanted; dsimp only; rw [yielded_bool (d := 68) rfl (hs.dep 21 _ rfl rfl)]; rfl)
      have e71 : a.tmps.getD 71 undef = .bool SB := hs.dep 24 _ rfl rfl
      have e74 : a.tmps.getD 74 undef = .bool SB := hs.dep 27 _ rfl rfl
      refine ValWp.pure (v := .bool true) (fun K' hK' => ?_) ⟨rfl, hC, Later.refl _⟩
      simp only [ValWp, execOp, Act.eval, e71, e74]
      go_simp
      all_goals exact hK'
    · -- 29: slot 76 := Op.pick t68 t75 (const (Value.bool false))
      refine fun a w hC hs => .inl ⟨?_, ?_⟩
      · rfl
      have e68 : a.tmps.getD 68 undef = .bool true := hs.dep 21 _ rfl rfl
      have e75 : a.tmps.getD 75 undef = .bool true := hs.dep 28 _ rfl rfl
      refine ValWp.pure (v := .bool true) (fun K' hK' => ?_) ⟨rfl, hC, Later.refl _⟩
      simp only [ValWp, execOp, Act.eval, e68, e75]
      go_simp
      all_goals exact hK'
    · -- 30: slot 77 := Op.move t76
      refine fun a w hC hs => .inl ⟨?_, ?_⟩
      · rfl
      have e76 : a.tmps.getD 76 undef = .bool true := hs.dep 29 _ rfl rfl
      exact ⟨e76, hC, Later.refl _⟩
    · -- 31: slot 78 := Op.load 24 t4 guarded (30, 'true')
      refine fun a w hC hs => .inl ⟨?_, ?_⟩
      · exact (by unfold Region.wanted; dsimp only; rw [yielded_bool (d := 77) rfl (hs.dep 30 _ rfl rfl)]; rfl)
      have e4 : a.tmps.getD 4 undef = .pointer (some ⟨w0.heap.size, 0, none⟩) := hs.free 4 rfl
      obtain ⟨⟨q0, q1, q2, q3, q4⟩, ⟨o0, o1, o2, o3, o4⟩, p0, p1, p2, p3, p4, p5, p6⟩ := HK.out w hC
      refine ValWp.pure (v := .agg #[.int .i64 k, .int .i64 n, .int .i64 m, .string (mkS t), .slice A len cap]) (fun K' hK' => ?_) ⟨rfl, hC, Later.refl _⟩
      simp only [ValWp, execOp, Act.eval, e4]
      go_simp
      all_goals exact hK'
    · -- 32: slot 79 := Op.call { value (Operand.func 18), args := #[t78], argTypes := #[24] } guarded (30, 'true')
      refine fun a w hC hs => .inl ⟨?_, ?_⟩
      · exact (by unfold Region.wanted; dsimp only; rw [yielded_bool (d := 77) rfl (hs.dep 30 _ rfl rfl)]; rfl)
      have e78 : a.tmps.getD 78 undef = .agg #[.int .i64 k, .int .i64 n, .int .i64 m, .string (mkS t), .slice A len cap] := hs.dep 31 _ rfl rfl
      refine ValWp.call #[.agg #[.int .i64 k, .int .i64 n, .int .i64 m, .string (mkS t), .slice A len cap]] rfl rfl Tryd.func18 rfl rfl (by simp only [List.map_toArray, List.map_cons, List.map_nil, Act.eval, e78]) ?_
      refine (PK.out.2.2.2.2.2.2.2.2.1 w (Later.trans HB1.out hC)).mono ?_
      rintro r w' ⟨v', rfl, hM⟩
      obtain ⟨A9, c9, rfl, _, h9⟩ := hM.slice
      exact ⟨_, rfl, ⟨A9, c9, rfl, h9⟩, Later.trans hC hM.bel, hM.bel⟩
    · -- 33: slot 80 := Op.convert 33 9 t79 guarded (30, 'true')
      refine fun a w hC hs => .inl ⟨?_, ?_⟩
      · exact (by unfold Region.wanted; dsimp only; rw [yielded_bool (d := 77) rfl (hs.dep 30 _ rfl rfl)]; rfl)
      obtain ⟨A79, c79, e79, h79⟩ := hs.dep 32 _ rfl rfl
      change a.tmps.getD 79 undef = _ at e79
      have hcv := run_str_of (P := Tryd.prog) h79 33 9 5 Tryd.underlying33 Tryd.underlying5 Tryd.underlying9 c79
      refine ValWp.pure (v := .string (mkS AL)) (fun K' hK' => ?_) ⟨rfl, hC, Later.refl _⟩
      simp only [ValWp, execOp, Act.eval, e79]
      go_simp
      all_goals exact hK'
    · -- 34: slot 81 := Op.load 24 t4 guarded (30, 'true')
      refine fun a w hC hs => .inl ⟨?_, ?_⟩
      · exact (by unfold Region.wanted; dsimp only; rw [yielded_bool (d := 77) rfl (hs.dep 30 _ rfl rfl)]; rfl)
      have e4 : a.tmps.getD 4 undef = .pointer (some ⟨w0.heap.size, 0, none⟩) := hs.free 4 rfl
      obtain ⟨⟨q0, q1, q2, q3, q4⟩, ⟨o0, o1, o2, o3, o4⟩, p0, p1, p2, p3, p4, p5, p6⟩ := HK.out w hC
      refine ValWp.pure (v := .agg #[.int .i64 k, .int .i64 n, .int .i64 m, .string (mkS t), .slice A len cap]) (fun K' hK' => ?_) ⟨rfl, hC, Later.refl _⟩
      simp only [ValWp, execOp, Act.eval, e4]
      go_simp
      all_goals exact hK'
    · -- 35: slot 82 := Op.call { value (Operand.func 19), args := #[t81], argTypes := #[24] } guarded (30, 'true')
      refine fun a w hC hs => .inl ⟨?_, ?_⟩
      · exact (by unfold Region.wanted; dsimp only; rw [yielded_bool (d := 77) rfl (hs.dep 30 _ rfl rfl)]; rfl)
      have e81 : a.tmps.getD 81 undef = .agg #[.int .i64 k, .int .i64 n, .int .i64 m, .string (mkS t), .slice A len cap] := hs.dep 34 _ rfl rfl
      refine ValWp.call #[.agg #[.int .i64 k, .int .i64 n, .int .i64 m, .string (mkS t), .slice A len cap]] rfl rfl Tryd.func19 rfl rfl (by simp only [List.map_toArray, List.map_cons, List.map_nil, Act.eval, e81]) ?_
      refine (PK.out.2.2.2.2.2.2.2.2.2.1 w (Later.trans HB1.out hC)).mono ?_
      rintro r w' ⟨rfl, hb⟩
      exact ⟨_, rfl, rfl, Later.trans hC hb, hb⟩
    · -- 36: slot 83 := Op.binOp BinOp.eql 9 t80 t82 9 guarded (30, 'true')
      refine fun a w hC hs => .inl ⟨?_, ?_⟩
      · exact (by unfold Region.wanted; dsimp only; rw [yielded_bool (d := 77) rfl (hs.dep 30 _ rfl rfl)]; rfl)
      have e80 : a.tmps.getD 80 undef = .string (mkS AL) := hs.dep 33 _ rfl rfl
      have e82 : a.tmps.getD 82 undef = .string (mkS AL) := hs.dep 35 _ rfl rfl
      refine ValWp.pure (v := .bool true) (fun K' hK' => ?_) ⟨rfl, hC, Later.refl _⟩
      simp only [ValWp, execOp, Act.eval, e80, e82]
      go_simp
      all_goals exact hK'
    · -- 37: slot 84 := Op.pick t77 t83 (const (Value.bool false))
      refine fun a w hC hs => .inl ⟨?_, ?_⟩
      · rfl
      have e77 : a.tmps.getD 77 undef = .bool true := hs.dep 30 _ rfl rfl
      have e83 : a.tmps.getD 83 undef = .bool true := hs.dep 36 _ rfl rfl
      refine ValWp.pure (v := .bool true) (fun K' hK' => ?_) ⟨rfl, hC, Later.refl _⟩
      simp only [ValWp, execOp, Act.eval, e77, e83]
      go_simp
      all_goals exact hK'
    · -- 38: slot 85 := Op.move t84
      refine fun a w hC hs => .inl ⟨?_, ?_⟩
      · rfl
      have e84 : a.tmps.getD 84 undef = .bool true := hs.dep 37 _ rfl rfl
      exact ⟨e84, hC, Later.refl _⟩
    · -- 39: slot 86 := Op.load 26 t6 guarded (38, 'true')
      refine fun a w hC hs => .inl ⟨?_, ?_⟩
      · exact (by unfold Region.wanted; dsimp only; rw [yielded_bool (d := 85) rfl (hs.dep 38 _ rfl rfl)]; rfl)
      have e6 : a.tmps.getD 6 undef = .pointer (some ⟨w0.heap.size + 2, 0, none⟩) := hs.free 6 rfl
      obtain ⟨⟨q0, q1, q2, q3, q4⟩, ⟨o0, o1, o2, o3, o4⟩, p0, p1, p2, p3, p4, p5, p6⟩ := HK.out w hC
      refine ValWp.pure (v := .agg #[.int .i64 ak, .int .i64 ae, .int .i64 an, .int .i64 am, .string (mkS at_), .slice aA alen acap, .int .i64 asg]) (fun K' hK' => ?_) ⟨rfl, hC, Later.refl _⟩
      simp only [ValWp, execOp, Act.eval, e6]
      go_simp
      all_goals exact hK'
    · -- 40: slot 87 := Op.call { value (Operand.func 20), args := #[t86], argTypes := #[26] } guarded (38, 'true')
      refine fun a w hC hs => .inl ⟨?_, ?_⟩
      · exact (by unfold Region.wanted; dsimp only; rw [yielded_bool (d := 85) rfl (hs.dep 38 _ rfl rfl)]; rfl)
      have e86 : a.tmps.getD 86 undef = .agg #[.int .i64 ak, .int .i64 ae, .int .i64 an, .int .i64 am, .string (mkS at_), .slice aA alen acap, .int .i64 asg] := hs.dep 39 _ rfl rfl
      refine ValWp.call #[.agg #[.int .i64 ak, .int .i64 ae, .int .i64 an, .int .i64 am, .string (mkS at_), .slice aA alen acap, .int .i64 asg]] rfl rfl Tryd.func20 rfl rfl (by simp only [List.map_toArray, List.map_cons, List.map_nil, Act.eval, e86]) ?_
      refine (PK.out.2.2.2.2.2.2.2.2.2.2.1 w (Later.trans HB1.out hC)).mono ?_
      rintro r w' ⟨v', rfl, hM⟩
      obtain ⟨A9, c9, rfl, _, h9⟩ := hM.slice
      exact ⟨_, rfl, ⟨A9, c9, rfl, h9⟩, Later.trans hC hM.bel, hM.bel⟩
    · -- 41: slot 88 := Op.convert 33 9 t87 guarded (38, 'true')
      refine fun a w hC hs => .inl ⟨?_, ?_⟩
      · exact (by unfold Region.wanted; dsimp only; rw [yielded_bool (d := 85) rfl (hs.dep 38 _ rfl rfl)]; rfl)
      obtain ⟨A87, c87, e87, h87⟩ := hs.dep 40 _ rfl rfl
      change a.tmps.getD 87 undef = _ at e87
      have hcv := run_str_of (P := Tryd.prog) h87 33 9 5 Tryd.underlying33 Tryd.underlying5 Tryd.underlying9 c87
      refine ValWp.pure (v := .string (mkS TL)) (fun K' hK' => ?_) ⟨rfl, hC, Later.refl _⟩
      simp only [ValWp, execOp, Act.eval, e87]
      go_simp
      all_goals exact hK'
    · -- 42: slot 89 := Op.load 26 t6 guarded (38, 'true')
      refine fun a w hC hs => .inl ⟨?_, ?_⟩
      · exact (by unfold Region.wanted; dsimp only; rw [yielded_bool (d := 85) rfl (hs.dep 38 _ rfl rfl)]; rfl)
      have e6 : a.tmps.getD 6 undef = .pointer (some ⟨w0.heap.size + 2, 0, none⟩) := hs.free 6 rfl
      obtain ⟨⟨q0, q1, q2, q3, q4⟩, ⟨o0, o1, o2, o3, o4⟩, p0, p1, p2, p3, p4, p5, p6⟩ := HK.out w hC
      refine ValWp.pure (v := .agg #[.int .i64 ak, .int .i64 ae, .int .i64 an, .int .i64 am, .string (mkS at_), .slice aA alen acap, .int .i64 asg]) (fun K' hK' => ?_) ⟨rfl, hC, Later.refl _⟩
      simp only [ValWp, execOp, Act.eval, e6]
      go_simp
      all_goals exact hK'
    · -- 43: slot 90 := Op.call { value (Operand.func 21), args := #[t89], argTypes := #[26] } guarded (38, 'true')
      refine fun a w hC hs => .inl ⟨?_, ?_⟩
      · exact (by unfold Region.wanted; dsimp only; rw [yielded_bool (d := 85) rfl (hs.dep 38 _ rfl rfl)]; rfl)
      have e89 : a.tmps.getD 89 undef = .agg #[.int .i64 ak, .int .i64 ae, .int .i64 an, .int .i64 am, .string (mkS at_), .slice aA alen acap, .int .i64 asg] := hs.dep 42 _ rfl rfl
      refine ValWp.call #[.agg #[.int .i64 ak, .int .i64 ae, .int .i64 an, .int .i64 am, .string (mkS at_), .slice aA alen acap, .int .i64 asg]] rfl rfl Tryd.func21 rfl rfl (by simp only [List.map_toArray, List.map_cons, List.map_nil, Act.eval, e89]) ?_
      refine (PK.out.2.2.2.2.2.2.2.2.2.2.2 w (Later.trans HB1.out hC)).mono ?_
      rintro r w' ⟨rfl, hb⟩
      exact ⟨_, rfl, rfl, Later.trans hC hb, hb⟩
    · -- 44: slot 91 := Op.binOp BinOp.eql 9 t88 t90 9 guarded (38, 'true')
      refine fun a w hC hs => .inl ⟨?_, ?_⟩
      · exact (by unfold Region.wanted; dsimp only; rw [yielded_bool (d := 85) rfl (hs.dep 38 _ rfl rfl)]; rfl)
      have e88 : a.tmps.getD 88 undef = .string (mkS TL) := hs.dep 41 _ rfl rfl
      have e90 : a.tmps.getD 90 undef = .string (mkS TL) := hs.dep 43 _ rfl rfl
      refine ValWp.pure (v := .bool true) (fun K' hK' => ?_) ⟨rfl, hC, Later.refl _⟩
      simp only [ValWp, execOp, Act.eval, e88, e90]
      go_simp
      all_goals exact hK'
    · -- 45: slot 92 := Op.pick t85 t91 (const (Value.bool false))
      refine fun a w hC hs => .inl ⟨?_, ?_⟩
      · rfl
      have e85 : a.tmps.getD 85 undef = .bool true := hs.dep 38 _ rfl rfl
      have e91 : a.tmps.getD 91 undef = .bool true := hs.dep 44 _ rfl rfl
      refine ValWp.pure (v := .bool true) (fun K' hK' => ?_) ⟨rfl, hC, Later.refl _⟩
      simp only [ValWp, execOp, Act.eval, e85, e91]
      go_simp
      all_goals exact hK'
    · -- 46: slot 8 := Op.assign t92
      refine fun a w hC hs => .inl ⟨?_, ?_⟩
      · rfl
      have e92 : a.tmps.getD 92 undef = .bool true := hs.dep 45 _ rfl rfl
      exact ⟨e92, hC, Later.refl _⟩
  · intro a X hC hd hs hf hr9
    have e8 : a.tmps.getD 8 undef = .bool true := hr9 46 _ rfl
    have hd' : a.defers = [] := hd
    clear hd hs hf hr9
    go_wp2
    refine bodyPost_ret (results_tmp rfl _ _ _) hd' ?_
    exact ⟨by rw [e8], Later.trans HB1.out hC⟩
theorem sv_of (l : List ByteArray) : l.map Value.string = (l.map fun s => s.data.toList).map sv := by
  rw [List.map_map]; rfl
theorem all (w : World) (hN : Names w) (k n m : Int) (t : List UInt8) (A : Option Addr) (len cap : Nat) (l : List (List UInt8)) (k' n' m' : Int) (t' : List UInt8) (A' : Option Addr) (len' cap' : Nat) (l' : List (List UInt8)) (ak ae an am : Int) (at_ : List UInt8) (aA : Option Addr) (alen acap : Nat) (al : List (List UInt8)) (asg j : Int) (hr : Rd w w.heap.size A len (l.map sv)) (hr' : Rd w w.heap.size A' len' (l'.map sv)) (har : Rd w w.heap.size aA alen (al.map sv)) (hcap : len ≤ 2 ^ 63 - 1) (hcap' : len' ≤ 2 ^ 63 - 1) (hacap : alen ≤ 2 ^ 63 - 1)
    (hnb : -9223372036854775808 ≤ n ∧ n ≤ 9223372036854775807) (hmb : -9223372036854775808 ≤ m ∧ m ≤ 9223372036854775807) (hanb : -9223372036854775808 ≤ an ∧ an ≤ 9223372036854775807) (hamb : -9223372036854775808 ≤ am ∧ am ≤ 9223372036854775807) :
    Calls Tryd.prog 3 #[reqV k n m t A len cap, reqV k' n' m' t' A' len' cap', ansV ak ae an am at_ aA alen acap asg, .int .i64 j] w fun r w' => r = .returned (.bool true) ∧ Below w.heap.size w w' := by
  by_cases h1 : fewB len l = true
  case neg => exact e1 w hN k n m t A len cap l k' n' m' t' A' len' cap' l' ak ae an am at_ aA alen acap al asg j hr hr' har hcap hcap' hacap _ _ (by simpa using h1) rfl rfl
  by_cases h2 : fewB len' l' = true
  case neg => exact e2 w hN k n m t A len cap l k' n' m' t' A' len' cap' l' ak ae an am at_ aA alen acap al asg j hr hr' har hcap hcap' hacap _ h1 (by simpa using h2) rfl
  by_cases h3 : fewB alen al = true
  case neg => exact e3 w hN k n m t A len cap l k' n' m' t' A' len' cap' l' ak ae an am at_ aA alen acap al asg j hr hr' har hcap hcap' hacap h1 h2 (by simpa using h3)
  by_cases h4 : 500 < t.length
  · exact e4 w hN k n m t A len cap l k' n' m' t' A' len' cap' l' ak ae an am at_ aA alen acap al asg j hr hr' har hcap hcap' hacap h1 h2 h3 h4
  by_cases h5 : 500 < at_.length
  · exact e5 w hN k n m t A len cap l k' n' m' t' A' len' cap' l' ak ae an am at_ aA alen acap al asg j hr hr' har hcap hcap' hacap h1 h2 h3 h4 h5
  exact main w hN k n m t A len cap l k' n' m' t' A' len' cap' l' ak ae an am at_ aA alen acap al asg j hr hr' har hcap hcap' hacap h1 h2 h3 h4 h5 hnb hmb hanb hamb
theorem walk (w : World) (hN : Names w) (k : Int) (_hk : (Lit.int .i64 k).wf = true) (n : Int) (hn : (Lit.int .i64 n).wf = true) (m : Int) (hm : (Lit.int .i64 m).wf = true) (t : ByteArray) (_ht : t.size ≤ maxLen) (A : Option Addr) (len cap : Nat) (l : List ByteArray) (hl : Rd w w.heap.size A len (l.map Value.string) ∧ (∀ s ∈ l, s.size ≤ maxLen) ∧ len ≤ cap ∧ cap ≤ maxLen) (k' : Int) (_hk' : (Lit.int .i64 k').wf = true) (n' : Int) (_hn' : (Lit.int .i64 n').wf = true) (m' : Int) (_hm' : (Lit.int .i64 m').wf = true) (t' : ByteArray) (_ht' : t'.size ≤ maxLen) (A' : Option Addr) (len' cap' : Nat) (l' : List ByteArray) (hl' : Rd w w.heap.size A' len' (l'.map Value.string) ∧ (∀ s ∈ l', s.size ≤ maxLen) ∧ len' ≤ cap' ∧ cap' ≤ maxLen) (ak : Int) (_hak : (Lit.int .i64 ak).wf = true) (ae : Int) (_hae : (Lit.int .i64 ae).wf = true) (an : Int) (han : (Lit.int .i64 an).wf = true) (am : Int) (ham : (Lit.int .i64 am).wf = true) (at_ : ByteArray) (_hat : at_.size ≤ maxLen)
    (aA : Option Addr) (alen acap : Nat) (al : List ByteArray) (hal : Rd w w.heap.size aA alen (al.map Value.string) ∧ (∀ s ∈ al, s.size ≤ maxLen) ∧ alen ≤ acap ∧ acap ≤ maxLen) (asg : Int) (_has : (Lit.int .i64 asg).wf = true) (j : Int) (_hj : (Lit.int .i64 j).wf = true) :
    Calls Tryd.prog 3 #[.agg #[.int .i64 k, .int .i64 n, .int .i64 m, .string t, .slice A len cap], .agg #[.int .i64 k', .int .i64 n', .int .i64 m', .string t', .slice A' len' cap'], .agg #[.int .i64 ak, .int .i64 ae, .int .i64 an, .int .i64 am, .string at_, .slice aA alen acap, .int .i64 asg], .int .i64 j] w fun r w' => r = .returned (.bool true) ∧ Below w.heap.size w w' := by
  obtain ⟨hl1, _, hl2, hl3⟩ := hl
  obtain ⟨hk1, _, hk2, hk3⟩ := hl'
  obtain ⟨ha1, _, ha2, ha3⟩ := hal
  rw [sv_of] at hl1 hk1 ha1
  unfold maxLen at hl3 hk3 ha3
  have h := all w hN k n m t.data.toList A len cap _ k' n' m' t'.data.toList A' len' cap' _ ak ae an am at_.data.toList aA alen acap _ asg j hl1 hk1 ha1 (by omega) (by omega) (by omega) (bounds_i64 hn) (bounds_i64 hm) (bounds_i64 han) (bounds_i64 ham)
  unfold reqV ansV at h
  rwa [mkS_of, mkS_of, mkS_of] at h
end eventTells
end Go.Proofs.YtbgojfgapbcanaaDoor
