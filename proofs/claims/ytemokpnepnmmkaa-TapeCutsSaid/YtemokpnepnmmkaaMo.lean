/- The document's Text, row: what each one tells. -/
import Derived.Test.YtemokpnepnmmkaaMn
import Derived.Test.YtemokpnepnmmkaaMc
import Derived.Test.YtemokpnepnmmkaaMb
import Derived.Test.YtemokpnepnmmkaaMe
namespace Go.Proofs.Ytemokpnepnmmkaa
open Go.RowKit
theorem refZigU_v (x : Int) (w : World) (h1 : -9223372036854775808 ≤ x) (h2 : x ≤ 9223372036854775807) :
    Calls Try.prog 29 #[.int .i64 x] w fun e w' => e = .returned (.int .u64 ((zigN x : Nat) : Int)) ∧ w = w' := by
  rw [← zigN_of]; exact refZig_v x w h1 h2
theorem refText_v (t : List UInt8) (w : World) (ht : t.length ≤ 1000000000) :
    Calls Try.prog 25 #[.string (mkS t)] w fun e w' => e = .returned (.string (mkS (textB t))) ∧ Later w w' := by
  have hs := mkS_size t
  obtain ⟨n, hn⟩ : ∃ n, n = t.length := ⟨_, rfl⟩
  rw [← hn] at hs ht
  have hw : IntKind.u64.wrap (n : Int) = (n : Int) := by rw [IntKind.wrap_u64]; omega
  have hb : mkS (numL n) ++ mkS t = mkS (textB t) := by rw [mkS_add, hn]; rfl
  have h10 := numL_ten (show n < 18446744073709551616 by omega)
  have hs2 := mkS_size (numL n)
  have hs3 : (mkS (numL n)).size ≤ 10 := by omega
  have HN := Lib.hid hn
  clear hn hs2 h10
  go_enter Try.func25, Try.ntmps25
  go_wp2_with (go_at_call 28; (with_reducible refine (refNum_v n _ ?hx).mono ?_); (case hx => omega); rintro e w1 ⟨rfl, hb1⟩; have HB1 := Lib.hid hb1; clear hb1)
  go_ret
  exact ⟨by rw [← hb]; rfl, HB1.out⟩
theorem textsB_snoc (l : List (List UInt8)) (k : Nat) (h : k < l.length) : textsB (l.take (k + 1)) = textsB (l.take k) ++ textB l[k] := flat_snoc textB l k h
set_option maxRecDepth 100000 in
theorem refRow_v (A : Option Addr) (n cap B : Nat) (l : List (List UInt8)) (w : World) (hr : Rd w B A n (l.map sv)) (hB : B ≤ w.heap.size) (hn : n ≤ 1000000000) (hx : (textsB l).length ≤ 1000000000) :
    Calls Try.prog 30 #[.slice A n cap] w fun e w' => e = .returned (.string (mkS (numL l.length ++ textsB l))) ∧ Later w w' := by
  have hl := Lib.hid hr.len_map
  have hw : IntKind.u64.wrap (n : Int) = (n : Int) := by rw [IntKind.wrap_u64]; omega
  have h10 := Lib.hid (numL_ten (show n < 18446744073709551616 by omega))
  have HR := Lib.hid hr
  have HX := Lib.hid hx
  clear hr hx
  go_enter Try.func30, Try.ntmps30
  go_wp2_with (go_at_call 28; (with_reducible refine (refNum_v n _ ?hx).mono ?_); (case hx => omega); rintro e w1 ⟨rfl, hb1⟩; have HB1 := Lib.hid (show Later w w1 from hb1); clear hb1)
  go_loopw [3, 4] (fun s i wr => ∃ k : Nat, k ≤ n ∧ i = .int .i64 (k : Int) ∧ s = .string (mkS (numL n ++ textsB (l.take k))) ∧ Later w wr) (fun _ i _ => n - (intOf i).toNat)
  case atStart => exact ⟨0, by omega, rfl, by simp [textsB], HB1.out⟩
  case round =>
    obtain ⟨k, hk, rfl, rfl, hb⟩ := hrel
    have HB := Lib.hid hb
    by_cases hlt : k < n
    · obtain ⟨ad, hl1, rfl, _, hc⟩ := (HR.out.below (Below.mono hb hB)).at_map (k := k) hlt
      obtain ⟨t, ht⟩ : ∃ t, t = l[k] := ⟨_, rfl⟩
      rw [← ht] at hc
      have hc1 : wr.cell? (ad.add k) = some (.string (mkS t)) := hc
      have hbound : (textsB (l.take k)).length + (textB t).length ≤ 1000000000 := by
        have h1 := flat_at_len textB l k hl1
        rw [← ht] at h1
        exact Nat.le_trans h1 HX.out
      have htl : t.length ≤ 1000000000 := by
        have : t.length ≤ (textB t).length := by unfold textB; rw [List.length_append]; omega
        omega
      obtain ⟨a, ha⟩ : ∃ a, a = numL n ++ textsB (l.take k) := ⟨_, rfl⟩
      obtain ⟨b, hbb⟩ : ∃ b, b = textB t := ⟨_, rfl⟩
      have htx := fun W => refText_v t W htl
      rw [← hbb] at htx hbound
      rw [← ha]
      have hal : a.length ≤ 1000000010 := by rw [ha, List.length_append]; have := h10.out; omega
      have s1 := mkS_size a
      have s2 := mkS_size b
      have hsum : (mkS a).size + (mkS b).size ≤ 3000000000 := by omega
      have hsa : (mkS a).size ≤ 2000000000 := by omega
      have hsb : (mkS b).size ≤ 1000000000 := by omega
      have hadd := mkS_add a b
      have hstep : a ++ b = numL n ++ textsB (l.take (k + 1)) := by rw [ha, hbb, ht, textsB_snoc l k hl1, List.append_assoc]
      have HS := Lib.hid hstep
      have HTX := Lib.hid htx
      have HADD := Lib.hid hadd
      clear hc ht ha hbb htx hstep hal s1 s2 hadd hbound htl hb
      go_wp2_with (go_at_call 25; (with_reducible refine (HTX.out wr).mono ?_); rintro e w2 ⟨rfl, hb2⟩; have HB2 := Lib.hid (Later.trans HB.out hb2); clear hb2)
      go_roundw
      case rel => exact ⟨k + 1, by omega, by go_num, by rw [HADD.out, HS.out], HB2.out⟩
      case measure => simp [intOf]; omega
    · have e : l.take k = l := by rw [List.take_of_length_le]; have := hl.out; omega
      rw [e]
      have HL := Lib.hid hl.out
      clear e hb
      go_wp2
      go_ret
      exact ⟨by rw [HL.out]; rfl, HB.out⟩
end Go.Proofs.Ytemokpnepnmmkaa
/- The document's Ask, Tell: the bytes as a text. -/
namespace Go.Proofs.Ytemokpnepnmmkaa
open Go.RowKit
set_option maxRecDepth 100000 in
set_option maxHeartbeats 1000000 in
theorem refTell_v (k e n m : Int) (t : List UInt8) (A : Option Addr) (len cap : Nat) (l : List (List UInt8)) (s : Int) (w0 : World) (hr : Rd w0 w0.heap.size A len (l.map sv)) (hx : (textsB l).length ≤ 1000000000) (ht : t.length ≤ 100000000)
    (hn1 : -9223372036854775808 ≤ n) (hn2 : n ≤ 9223372036854775807) (hm1 : -9223372036854775808 ≤ m) (hm2 : m ≤ 9223372036854775807) :
    Calls Try.prog 16 #[ansV k e n m t A len cap s] w0 fun r w' => r = .returned (.string (mkS (tellB k e n m t l s))) ∧ Later w0 w' := by
  have hl := hr.len_map
  subst hl
  have hchk := fun W => refFits_v k k e n m t A l.length cap s W
  have hbox := Lib.hid (Later.alloc w0 (.cells (aC k e n m t A l.length cap s) 34))
  have hone := fun w1 hb => acellsK w0 k e n m t A l.length cap s (W := w1) hb
  unfold ansV at hchk ⊢
  by_cases hb : fitsB k k e s l.length = true
  · have hk := of_decide_eq_true hb
    obtain ⟨kN, rfl⟩ : ∃ kN : Nat, k = (kN : Int) := ⟨k.toNat, by omega⟩
    obtain ⟨eN, rfl⟩ : ∃ eN : Nat, e = (eN : Int) := ⟨e.toNat, by omega⟩
    obtain ⟨sN, rfl⟩ : ∃ sN : Nat, s = (sN : Int) := ⟨s.toNat, by omega⟩
    obtain ⟨za, ha⟩ : ∃ a, a = zigN n := ⟨_, rfl⟩
    obtain ⟨zb, hbb⟩ : ∃ b, b = zigN m := ⟨_, rfl⟩
    have a64 : za < 18446744073709551616 := by rw [ha]; exact zigN_lt hn1 hn2
    have b64 : zb < 18446744073709551616 := by rw [hbb]; exact zigN_lt hm1 hm2
    have g1 := numL_ten (show kN < 18446744073709551616 by omega)
    have g2 := numL_ten a64
    have g3 := numL_ten b64
    have g4 : (textB t).length ≤ 100000010 := by rcases textB_len t with h | h <;> omega
    have g5 : (numL l.length ++ textsB l).length ≤ 1000000010 := by rw [List.length_append]; have := numL_ten (show l.length < 18446744073709551616 by omega); omega
    have g6 := numL_ten (show eN < 18446744073709551616 by omega)
    have g7 := numL_ten (show sN < 18446744073709551616 by omega)
    obtain ⟨N1, hN1⟩ : ∃ x, x = mkS (numL kN) := ⟨_, rfl⟩
    have zN1 : N1.size ≤ 10 := by rw [hN1, mkS_size]; omega
    obtain ⟨N2, hN2⟩ : ∃ x, x = mkS (numL za) := ⟨_, rfl⟩
    have zN2 : N2.size ≤ 10 := by rw [hN2, mkS_size]; omega
    obtain ⟨N3, hN3⟩ : ∃ x, x = mkS (numL zb) := ⟨_, rfl⟩
    have zN3 : N3.size ≤ 10 := by rw [hN3, mkS_size]; omega
    obtain ⟨T, hT⟩ : ∃ x, x = mkS (textB t) := ⟨_, rfl⟩
    have zT : T.size ≤ 100000010 := by rw [hT, mkS_size]; omega
    obtain ⟨R, hR⟩ : ∃ x, x = mkS (numL l.length ++ textsB l) := ⟨_, rfl⟩
    have zR : R.size ≤ 1000000010 := by rw [hR, mkS_size]; omega
    obtain ⟨N5, hN5⟩ : ∃ x, x = mkS (numL eN) := ⟨_, rfl⟩
    have zN5 : N5.size ≤ 10 := by rw [hN5, mkS_size]; omega
    obtain ⟨N6, hN6⟩ : ∃ x, x = mkS (numL sN) := ⟨_, rfl⟩
    have zN6 : N6.size ≤ 10 := by rw [hN6, mkS_size]; omega
    obtain ⟨P0, hP0⟩ : ∃ x, N1 ++ N5 = x := ⟨_, rfl⟩
    have zP0 : P0.size ≤ 20 := by rw [← hP0, ByteArray.size_append]; omega
    have yP0 : ¬ 9223372036854775807 < N1.size + N5.size := by omega
    obtain ⟨P1, hP1⟩ : ∃ x, P0 ++ N2 = x := ⟨_, rfl⟩
    have zP1 : P1.size ≤ 30 := by rw [← hP1, ByteArray.size_append]; omega
    have yP1 : ¬ 9223372036854775807 < P0.size + N2.size := by omega
    obtain ⟨P2, hP2⟩ : ∃ x, P1 ++ N3 = x := ⟨_, rfl⟩
    have zP2 : P2.size ≤ 40 := by rw [← hP2, ByteArray.size_append]; omega
    have yP2 : ¬ 9223372036854775807 < P1.size + N3.size := by omega
    obtain ⟨P3, hP3⟩ : ∃ x, P2 ++ T = x := ⟨_, rfl⟩
    have zP3 : P3.size ≤ 100000060 := by rw [← hP3, ByteArray.size_append]; omega
    have yP3 : ¬ 9223372036854775807 < P2.size + T.size := by omega
    obtain ⟨P4, hP4⟩ : ∃ x, P3 ++ R = x := ⟨_, rfl⟩
    have zP4 : P4.size ≤ 1100000080 := by rw [← hP4, ByteArray.size_append]; omega
    have yP4 : ¬ 9223372036854775807 < P3.size + R.size := by omega
    obtain ⟨P5, hP5⟩ : ∃ x, P4 ++ N6 = x := ⟨_, rfl⟩
    have zP5 : P5.size ≤ 1100000100 := by rw [← hP5, ByteArray.size_append]; omega
    have yP5 : ¬ 9223372036854775807 < P4.size + N6.size := by omega
    have hfin : mkS (tellB (kN : Int) (eN : Int) n m t l (sN : Int)) = P5 := by
      unfold tellB
      rw [if_pos hb, ← hP5, ← hP4, ← hP3, ← hP2, ← hP1, ← hP0]
      rw [hN1, hN2, hN3, hT, hR, hN5, hN6]
      rw [mkS_add, mkS_add, mkS_add, mkS_add, mkS_add, mkS_add]
      congr 1
      rw [ha, hbb]
      simp [tellL]
    have cr := fun W (h : Later w0 W) => refRow_v A l.length cap W.heap.size l W (rd_later hr h) (Nat.le_refl _) (by omega) hx
    have ct := fun W => refText_v t W (by omega)
    have cn1 := fun W => refNum_v kN W (by omega)
    have cn2 := fun W => refNum_v za W a64
    have cn3 := fun W => refNum_v zb W b64
    have zn := fun W => refZigU_v n W hn1 hn2
    have zm := fun W => refZigU_v m W hm1 hm2
    rw [← hR] at cr
    rw [← hT] at ct
    rw [← hN1] at cn1
    rw [← hN2] at cn2
    rw [← hN3] at cn3
    rw [← ha] at zn
    rw [← hbb] at zm
    have cn5 := fun W => refNum_v eN W (by omega)
    have cn6 := fun W => refNum_v sN W (by omega)
    rw [← hN5] at cn5
    rw [← hN6] at cn6
    have CN5 := Lib.hid cn5
    have CN6 := Lib.hid cn6
    have hwe : IntKind.u64.wrap (eN : Int) = (eN : Int) := by rw [IntKind.wrap_u64]; omega
    have hws : IntKind.u64.wrap (sN : Int) = (sN : Int) := by rw [IntKind.wrap_u64]; omega
    have hwk : IntKind.u64.wrap (kN : Int) = (kN : Int) := by rw [IntKind.wrap_u64]; omega
    have CR := Lib.hid cr
    have CT := Lib.hid ct
    have CN1 := Lib.hid cn1
    have CN2 := Lib.hid cn2
    have CN3 := Lib.hid cn3
    have ZN := Lib.hid zn
    have ZM := Lib.hid zm
    have HFIN := Lib.hid hfin
    have HO := Lib.hid hone
    rw [hb] at hchk
    have HCH := Lib.hid hchk
    clear cr ct cn1 cn2 cn3 zn zm hfin hone hchk hr hx g1 g2 g3 g4 g5 ha hbb hN1 hN2 hN3 hT hR a64 b64 hk cn5 cn6 g6 g7 hN5 hN6
    go_enter Try.func16, Try.ntmps16
    go_wp2_with (go_at_call 14; (with_reducible refine (HCH.out _).mono ?_); rintro r w1 ⟨rfl, hb1⟩; have HBX := Lib.hid (show Later _ w1 from hb1); have HB1 := Lib.hid (Later.trans hbox.out hb1); clear hb1)
    have hk0 := fun W (h : Later w1 W) => HO.out W (Later.trans HBX.out h)
    have HK := Lib.hid hk0
    clear hk0
    refine wp_region_owes (by kernel_rfl) (fun W => Later w1 W) (Later) (Later.refl) [Sp.val (.pointer (some ⟨w0.heap.size, 0, none⟩)), Sp.val (.int .i64 (kN : Int)), Sp.val (.int .u64 (kN : Int)), Sp.val (.string N1), Sp.val (.pointer (some ⟨w0.heap.size, 1, none⟩)), Sp.val (.int .i64 (eN : Int)), Sp.val (.int .u64 (eN : Int)), Sp.val (.string N5), Sp.val (.string P0), Sp.val (.pointer (some ⟨w0.heap.size, 2, none⟩)), Sp.val (.int .i64 n), Sp.val (.int .u64 (za : Int)), Sp.val (.string N2), Sp.val (.string P1), Sp.val (.pointer (some ⟨w0.heap.size, 3, none⟩)), Sp.val (.int .i64 m), Sp.val (.int .u64 (zb : Int)), Sp.val (.string N3), Sp.val (.string P2), Sp.val (.pointer (some ⟨w0.heap.size, 4, none⟩)), Sp.val (.string (mkS t)), Sp.val (.string T), Sp.val (.string P3), Sp.val (.pointer (some ⟨w0.heap.size, 5, none⟩)), Sp.val (.slice A l.length cap), Sp.val (.string R), Sp.val (.string P4), Sp.val (.pointer (some ⟨w0.heap.size, 6, none⟩)), Sp.val (.int .i64 (sN : Int)), Sp.val (.int .u64 (sN : Int)), Sp.val (.string N6), Sp.val (.string P5), Sp.val (.string P5)] (by kernel_rfl) (Later.drew w1) ?_ ?_
    · refine ⟨?_, ?_, ?_, ?_, ?_, ?_, ?_, ?_, ?_, ?_, ?_, ?_, ?_, ?_, ?_, ?_, ?_, ?_, ?_, ?_, ?_, ?_, ?_, ?_, ?_, ?_, ?_, ?_, ?_, ?_, ?_, ?_, ?_, trivial⟩
      · -- 0: slot 10 := Op.fieldAddr 26 t1 0
        refine fun a w hC hs => .inl ⟨?_, ?_⟩
        · rfl
        have e1 : a.tmps.getD 1 undef = .pointer (some ⟨w0.heap.size, 0, none⟩) := hs.free 1 rfl
        refine ValWp.pure (v := .pointer (some ⟨w0.heap.size, 0, none⟩)) (fun K' hK' => ?_) ⟨rfl, hC, Later.refl _⟩
        simp only [ValWp, execOp, Act.eval, e1]
        go_simp
        all_goals exact hK'
      · -- 1: slot 11 := Op.load 3 t10
        refine fun a w hC hs => .inl ⟨?_, ?_⟩
        · rfl
        have e10 : a.tmps.getD 10 undef = .pointer (some ⟨w0.heap.size, 0, none⟩) := hs.dep 0 _ rfl rfl
        obtain ⟨q0, q1, q2, q3, q4, q5, q6⟩ := HK.out w hC
        refine ValWp.pure (v := .int .i64 (kN : Int)) (fun K' hK' => ?_) ⟨rfl, hC, Later.refl _⟩
        simp only [ValWp, execOp, Act.eval, e10]
        go_simp
        all_goals exact hK'
      · -- 2: slot 12 := Op.convert 3 56 t11
        refine fun a w hC hs => .inl ⟨?_, ?_⟩
        · rfl
        have e11 : a.tmps.getD 11 undef = .int .i64 (kN : Int) := hs.dep 1 _ rfl rfl
        refine ValWp.pure (v := .int .u64 (kN : Int)) (fun K' hK' => ?_) ⟨rfl, hC, Later.refl _⟩
        simp only [ValWp, execOp, Act.eval, e11]
        go_simp
        all_goals exact hK'
      · -- 3: slot 13 := Op.call { value (Operand.func 35), args := #[t12], argTypes := #[56] }
        refine fun a w hC hs => .inl ⟨?_, ?_⟩
        · rfl
        have e12 : a.tmps.getD 12 undef = .int .u64 (kN : Int) := hs.dep 2 _ rfl rfl
        refine ValWp.call #[.int .u64 (kN : Int)] rfl rfl Try.func28 rfl rfl (by simp only [List.map_toArray, List.map_cons, List.map_nil, Act.eval, e12]) ?_
        refine (CN1.out w).mono ?_
        rintro r w' ⟨rfl, hb⟩
        exact ⟨_, rfl, rfl, Later.trans hC hb, hb⟩
      · -- 4: slot 14 := Op.fieldAddr 26 t1 1
        refine fun a w hC hs => .inl ⟨?_, ?_⟩
        · rfl
        have e1 : a.tmps.getD 1 undef = .pointer (some ⟨w0.heap.size, 0, none⟩) := hs.free 1 rfl
        refine ValWp.pure (v := .pointer (some ⟨w0.heap.size, 1, none⟩)) (fun K' hK' => ?_) ⟨rfl, hC, Later.refl _⟩
        simp only [ValWp, execOp, Act.eval, e1]
        go_simp
        all_goals exact hK'
      · -- 5: slot 15 := Op.load 3 t14
        refine fun a w hC hs => .inl ⟨?_, ?_⟩
        · rfl
        have e14 : a.tmps.getD 14 undef = .pointer (some ⟨w0.heap.size, 1, none⟩) := hs.dep 4 _ rfl rfl
        obtain ⟨q0, q1, q2, q3, q4, q5, q6⟩ := HK.out w hC
        refine ValWp.pure (v := .int .i64 (eN : Int)) (fun K' hK' => ?_) ⟨rfl, hC, Later.refl _⟩
        simp only [ValWp, execOp, Act.eval, e14]
        go_simp
        all_goals exact hK'
      · -- 6: slot 16 := Op.convert 3 56 t15
        refine fun a w hC hs => .inl ⟨?_, ?_⟩
        · rfl
        have e15 : a.tmps.getD 15 undef = .int .i64 (eN : Int) := hs.dep 5 _ rfl rfl
        refine ValWp.pure (v := .int .u64 (eN : Int)) (fun K' hK' => ?_) ⟨rfl, hC, Later.refl _⟩
        simp only [ValWp, execOp, Act.eval, e15]
        go_simp
        all_goals exact hK'
      · -- 7: slot 17 := Op.call { value (Operand.func 35), args := #[t16], argTypes := #[56] }
        refine fun a w hC hs => .inl ⟨?_, ?_⟩
        · rfl
        have e16 : a.tmps.getD 16 undef = .int .u64 (eN : Int) := hs.dep 6 _ rfl rfl
        refine ValWp.call #[.int .u64 (eN : Int)] rfl rfl Try.func28 rfl rfl (by simp only [List.map_toArray, List.map_cons, List.map_nil, Act.eval, e16]) ?_
        refine (CN5.out w).mono ?_
        rintro r w' ⟨rfl, hb⟩
        exact ⟨_, rfl, rfl, Later.trans hC hb, hb⟩
      · -- 8: slot 18 := Op.binOp BinOp.add 9 t13 t17 9
        refine fun a w hC hs => .inl ⟨?_, ?_⟩
        · rfl
        have e13 : a.tmps.getD 13 undef = .string N1 := hs.dep 3 _ rfl rfl
        have e17 : a.tmps.getD 17 undef = .string N5 := hs.dep 7 _ rfl rfl
        refine ValWp.pure (v := .string P0) (fun K' hK' => ?_) ⟨rfl, hC, Later.refl _⟩
        simp only [ValWp, execOp, Act.eval, e13, e17]
        go_simp
        all_goals exact hK'
      · -- 9: slot 19 := Op.fieldAddr 26 t1 2
        refine fun a w hC hs => .inl ⟨?_, ?_⟩
        · rfl
        have e1 : a.tmps.getD 1 undef = .pointer (some ⟨w0.heap.size, 0, none⟩) := hs.free 1 rfl
        refine ValWp.pure (v := .pointer (some ⟨w0.heap.size, 2, none⟩)) (fun K' hK' => ?_) ⟨rfl, hC, Later.refl _⟩
        simp only [ValWp, execOp, Act.eval, e1]
        go_simp
        all_goals exact hK'
      · -- 10: slot 20 := Op.load 2 t19
        refine fun a w hC hs => .inl ⟨?_, ?_⟩
        · rfl
        have e19 : a.tmps.getD 19 undef = .pointer (some ⟨w0.heap.size, 2, none⟩) := hs.dep 9 _ rfl rfl
        obtain ⟨q0, q1, q2, q3, q4, q5, q6⟩ := HK.out w hC
        refine ValWp.pure (v := .int .i64 n) (fun K' hK' => ?_) ⟨rfl, hC, Later.refl _⟩
        simp only [ValWp, execOp, Act.eval, e19]
        go_simp
        all_goals exact hK'
      · -- 11: slot 21 := Op.call { value (Operand.func 36), args := #[t20], argTypes := #[2] }
        refine fun a w hC hs => .inl ⟨?_, ?_⟩
        · rfl
        have e20 : a.tmps.getD 20 undef = .int .i64 n := hs.dep 10 _ rfl rfl
        refine ValWp.call #[.int .i64 n] rfl rfl Try.func29 rfl rfl (by simp only [List.map_toArray, List.map_cons, List.map_nil, Act.eval, e20]) ?_
        refine (ZN.out w).mono ?_
        rintro r w' ⟨rfl, rfl⟩
        exact ⟨_, rfl, rfl, hC, Later.refl _⟩
      · -- 12: slot 22 := Op.call { value (Operand.func 35), args := #[t21], argTypes := #[56] }
        refine fun a w hC hs => .inl ⟨?_, ?_⟩
        · rfl
        have e21 : a.tmps.getD 21 undef = .int .u64 (za : Int) := hs.dep 11 _ rfl rfl
        refine ValWp.call #[.int .u64 (za : Int)] rfl rfl Try.func28 rfl rfl (by simp only [List.map_toArray, List.map_cons, List.map_nil, Act.eval, e21]) ?_
        refine (CN2.out w).mono ?_
        rintro r w' ⟨rfl, hb⟩
        exact ⟨_, rfl, rfl, Later.trans hC hb, hb⟩
      · -- 13: slot 23 := Op.binOp BinOp.add 9 t18 t22 9
        refine fun a w hC hs => .inl ⟨?_, ?_⟩
        · rfl
        have e18 : a.tmps.getD 18 undef = .string P0 := hs.dep 8 _ rfl rfl
        have e22 : a.tmps.getD 22 undef = .string N2 := hs.dep 12 _ rfl rfl
        refine ValWp.pure (v := .string P1) (fun K' hK' => ?_) ⟨rfl, hC, Later.refl _⟩
        simp only [ValWp, execOp, Act.eval, e18, e22]
        go_simp
        all_goals exact hK'
      · -- 14: slot 24 := Op.fieldAddr 26 t1 3
        refine fun a w hC hs => .inl ⟨?_, ?_⟩
        · rfl
        have e1 : a.tmps.getD 1 undef = .pointer (some ⟨w0.heap.size, 0, none⟩) := hs.free 1 rfl
        refine ValWp.pure (v := .pointer (some ⟨w0.heap.size, 3, none⟩)) (fun K' hK' => ?_) ⟨rfl, hC, Later.refl _⟩
        simp only [ValWp, execOp, Act.eval, e1]
        go_simp
        all_goals exact hK'
      · -- 15: slot 25 := Op.load 2 t24
        refine fun a w hC hs => .inl ⟨?_, ?_⟩
        · rfl
        have e24 : a.tmps.getD 24 undef = .pointer (some ⟨w0.heap.size, 3, none⟩) := hs.dep 14 _ rfl rfl
        obtain ⟨q0, q1, q2, q3, q4, q5, q6⟩ := HK.out w hC
        refine ValWp.pure (v := .int .i64 m) (fun K' hK' => ?_) ⟨rfl, hC, Later.refl _⟩
        simp only [ValWp, execOp, Act.eval, e24]
        go_simp
        all_goals exact hK'
      · -- 16: slot 26 := Op.call { value (Operand.func 36), args := #[t25], argTypes := #[2] }
        refine fun a w hC hs => .inl ⟨?_, ?_⟩
        · rfl
        have e25 : a.tmps.getD 25 undef = .int .i64 m := hs.dep 15 _ rfl rfl
        refine ValWp.call #[.int .i64 m] rfl rfl Try.func29 rfl rfl (by simp only [List.map_toArray, List.map_cons, List.map_nil, Act.eval, e25]) ?_
        refine (ZM.out w).mono ?_
        rintro r w' ⟨rfl, rfl⟩
        exact ⟨_, rfl, rfl, hC, Later.refl _⟩
      · -- 17: slot 27 := Op.call { value (Operand.func 35), args := #[t26], argTypes := #[56] }
        refine fun a w hC hs => .inl ⟨?_, ?_⟩
        · rfl
        have e26 : a.tmps.getD 26 undef = .int .u64 (zb : Int) := hs.dep 16 _ rfl rfl
        refine ValWp.call #[.int .u64 (zb : Int)] rfl rfl Try.func28 rfl rfl (by simp only [List.map_toArray, List.map_cons, List.map_nil, Act.eval, e26]) ?_
        refine (CN3.out w).mono ?_
        rintro r w' ⟨rfl, hb⟩
        exact ⟨_, rfl, rfl, Later.trans hC hb, hb⟩
      · -- 18: slot 28 := Op.binOp BinOp.add 9 t23 t27 9
        refine fun a w hC hs => .inl ⟨?_, ?_⟩
        · rfl
        have e23 : a.tmps.getD 23 undef = .string P1 := hs.dep 13 _ rfl rfl
        have e27 : a.tmps.getD 27 undef = .string N3 := hs.dep 17 _ rfl rfl
        refine ValWp.pure (v := .string P2) (fun K' hK' => ?_) ⟨rfl, hC, Later.refl _⟩
        simp only [ValWp, execOp, Act.eval, e23, e27]
        go_simp
        all_goals exact hK'
      · -- 19: slot 29 := Op.fieldAddr 26 t1 4
        refine fun a w hC hs => .inl ⟨?_, ?_⟩
        · rfl
        have e1 : a.tmps.getD 1 undef = .pointer (some ⟨w0.heap.size, 0, none⟩) := hs.free 1 rfl
        refine ValWp.pure (v := .pointer (some ⟨w0.heap.size, 4, none⟩)) (fun K' hK' => ?_) ⟨rfl, hC, Later.refl _⟩
        simp only [ValWp, execOp, Act.eval, e1]
        go_simp
        all_goals exact hK'
      · -- 20: slot 30 := Op.load 9 t29
        refine fun a w hC hs => .inl ⟨?_, ?_⟩
        · rfl
        have e29 : a.tmps.getD 29 undef = .pointer (some ⟨w0.heap.size, 4, none⟩) := hs.dep 19 _ rfl rfl
        obtain ⟨q0, q1, q2, q3, q4, q5, q6⟩ := HK.out w hC
        refine ValWp.pure (v := .string (mkS t)) (fun K' hK' => ?_) ⟨rfl, hC, Later.refl _⟩
        simp only [ValWp, execOp, Act.eval, e29]
        go_simp
        all_goals exact hK'
      · -- 21: slot 31 := Op.call { value (Operand.func 37), args := #[t30], argTypes := #[9] }
        refine fun a w hC hs => .inl ⟨?_, ?_⟩
        · rfl
        have e30 : a.tmps.getD 30 undef = .string (mkS t) := hs.dep 20 _ rfl rfl
        refine ValWp.call #[.string (mkS t)] rfl rfl Try.func25 rfl rfl (by simp only [List.map_toArray, List.map_cons, List.map_nil, Act.eval, e30]) ?_
        refine (CT.out w).mono ?_
        rintro r w' ⟨rfl, hb⟩
        exact ⟨_, rfl, rfl, Later.trans hC hb, hb⟩
      · -- 22: slot 32 := Op.binOp BinOp.add 9 t28 t31 9
        refine fun a w hC hs => .inl ⟨?_, ?_⟩
        · rfl
        have e28 : a.tmps.getD 28 undef = .string P2 := hs.dep 18 _ rfl rfl
        have e31 : a.tmps.getD 31 undef = .string T := hs.dep 21 _ rfl rfl
        refine ValWp.pure (v := .string P3) (fun K' hK' => ?_) ⟨rfl, hC, Later.refl _⟩
        simp only [ValWp, execOp, Act.eval, e28, e31]
        go_simp
        all_goals exact hK'
      · -- 23: slot 33 := Op.fieldAddr 26 t1 5
        refine fun a w hC hs => .inl ⟨?_, ?_⟩
        · rfl
        have e1 : a.tmps.getD 1 undef = .pointer (some ⟨w0.heap.size, 0, none⟩) := hs.free 1 rfl
        refine ValWp.pure (v := .pointer (some ⟨w0.heap.size, 5, none⟩)) (fun K' hK' => ?_) ⟨rfl, hC, Later.refl _⟩
        simp only [ValWp, execOp, Act.eval, e1]
        go_simp
        all_goals exact hK'
      · -- 24: slot 34 := Op.load 22 t33
        refine fun a w hC hs => .inl ⟨?_, ?_⟩
        · rfl
        have e33 : a.tmps.getD 33 undef = .pointer (some ⟨w0.heap.size, 5, none⟩) := hs.dep 23 _ rfl rfl
        obtain ⟨q0, q1, q2, q3, q4, q5, q6⟩ := HK.out w hC
        refine ValWp.pure (v := .slice A l.length cap) (fun K' hK' => ?_) ⟨rfl, hC, Later.refl _⟩
        simp only [ValWp, execOp, Act.eval, e33]
        go_simp
        all_goals exact hK'
      · -- 25: slot 35 := Op.call { value (Operand.func 38), args := #[t34], argTypes := #[22] }
        refine fun a w hC hs => .inl ⟨?_, ?_⟩
        · rfl
        have e34 : a.tmps.getD 34 undef = .slice A l.length cap := hs.dep 24 _ rfl rfl
        refine ValWp.call #[.slice A l.length cap] rfl rfl Try.func30 rfl rfl (by simp only [List.map_toArray, List.map_cons, List.map_nil, Act.eval, e34]) ?_
        refine (CR.out w (Later.trans HB1.out hC)).mono ?_
        rintro r w' ⟨rfl, hb⟩
        exact ⟨_, rfl, rfl, Later.trans hC hb, hb⟩
      · -- 26: slot 36 := Op.binOp BinOp.add 9 t32 t35 9
        refine fun a w hC hs => .inl ⟨?_, ?_⟩
        · rfl
        have e32 : a.tmps.getD 32 undef = .string P3 := hs.dep 22 _ rfl rfl
        have e35 : a.tmps.getD 35 undef = .string R := hs.dep 25 _ rfl rfl
        refine ValWp.pure (v := .string P4) (fun K' hK' => ?_) ⟨rfl, hC, Later.refl _⟩
        simp only [ValWp, execOp, Act.eval, e32, e35]
        go_simp
        all_goals exact hK'
      · -- 27: slot 37 := Op.fieldAddr 26 t1 6
        refine fun a w hC hs => .inl ⟨?_, ?_⟩
        · rfl
        have e1 : a.tmps.getD 1 undef = .pointer (some ⟨w0.heap.size, 0, none⟩) := hs.free 1 rfl
        refine ValWp.pure (v := .pointer (some ⟨w0.heap.size, 6, none⟩)) (fun K' hK' => ?_) ⟨rfl, hC, Later.refl _⟩
        simp only [ValWp, execOp, Act.eval, e1]
        go_simp
        all_goals exact hK'
      · -- 28: slot 38 := Op.load 3 t37
        refine fun a w hC hs => .inl ⟨?_, ?_⟩
        · rfl
        have e37 : a.tmps.getD 37 undef = .pointer (some ⟨w0.heap.size, 6, none⟩) := hs.dep 27 _ rfl rfl
        obtain ⟨q0, q1, q2, q3, q4, q5, q6⟩ := HK.out w hC
        refine ValWp.pure (v := .int .i64 (sN : Int)) (fun K' hK' => ?_) ⟨rfl, hC, Later.refl _⟩
        simp only [ValWp, execOp, Act.eval, e37]
        go_simp
        all_goals exact hK'
      · -- 29: slot 39 := Op.convert 3 56 t38
        refine fun a w hC hs => .inl ⟨?_, ?_⟩
        · rfl
        have e38 : a.tmps.getD 38 undef = .int .i64 (sN : Int) := hs.dep 28 _ rfl rfl
        refine ValWp.pure (v := .int .u64 (sN : Int)) (fun K' hK' => ?_) ⟨rfl, hC, Later.refl _⟩
        simp only [ValWp, execOp, Act.eval, e38]
        go_simp
        all_goals exact hK'
      · -- 30: slot 40 := Op.call { value (Operand.func 35), args := #[t39], argTypes := #[56] }
        refine fun a w hC hs => .inl ⟨?_, ?_⟩
        · rfl
        have e39 : a.tmps.getD 39 undef = .int .u64 (sN : Int) := hs.dep 29 _ rfl rfl
        refine ValWp.call #[.int .u64 (sN : Int)] rfl rfl Try.func28 rfl rfl (by simp only [List.map_toArray, List.map_cons, List.map_nil, Act.eval, e39]) ?_
        refine (CN6.out w).mono ?_
        rintro r w' ⟨rfl, hb⟩
        exact ⟨_, rfl, rfl, Later.trans hC hb, hb⟩
      · -- 31: slot 41 := Op.binOp BinOp.add 9 t36 t40 9
        refine fun a w hC hs => .inl ⟨?_, ?_⟩
        · rfl
        have e36 : a.tmps.getD 36 undef = .string P4 := hs.dep 26 _ rfl rfl
        have e40 : a.tmps.getD 40 undef = .string N6 := hs.dep 30 _ rfl rfl
        refine ValWp.pure (v := .string P5) (fun K' hK' => ?_) ⟨rfl, hC, Later.refl _⟩
        simp only [ValWp, execOp, Act.eval, e36, e40]
        go_simp
        all_goals exact hK'
      · -- 32: slot 2 := Op.assign t41
        refine fun a w hC hs => .inl ⟨?_, ?_⟩
        · rfl
        have e41 : a.tmps.getD 41 undef = .string P5 := hs.dep 31 _ rfl rfl
        exact ⟨e41, hC, Later.refl _⟩
    · intro a X hC hd hs hf hr
      have e2 : a.tmps.getD 2 undef = .string P5 := hr 32 _ rfl
      have hd' : a.defers = [] := hd
      clear hd hs hf hr
      go_wp2
      refine bodyPost_ret (results_tmp rfl _ _ _) hd' ?_
      exact ⟨by rw [e2, HFIN.out], Later.trans HB1.out hC⟩
  · have hbf : fitsB k k e s l.length = false := by simpa using hb
    have hz : mkS (tellB k e n m t l s) = ⟨#[]⟩ := by unfold tellB; rw [if_neg hb]; rfl
    rw [hz]
    rw [hbf] at hchk
    clear hz hb hr hx hone
    go_enter Try.func16, Try.ntmps16
    go_wp2_with (go_at_call 14; (with_reducible refine (hchk _).mono ?_); rintro r w1 ⟨rfl, hb1⟩; have HB1 := Lib.hid (Later.trans hbox.out hb1); clear hb1)
    go_ret
    exact ⟨rfl, HB1.out⟩
end Go.Proofs.Ytemokpnepnmmkaa
