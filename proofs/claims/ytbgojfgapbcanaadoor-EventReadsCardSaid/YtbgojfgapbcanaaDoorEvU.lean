/- event's Tell: an answer as bytes. -/
import Derived.Test.YtbgojfgapbcanaaDoorEvT
namespace Go.Proofs.YtbgojfgapbcanaaDoor
open Go.RowKit
theorem nats4 {a b c d : Nat} (ha : a < 18446744073709551616) (hb : b < 18446744073709551616) (hc : c < 18446744073709551616) (hd : d < 18446744073709551616) : ∀ x ∈ [a, b, c, d], x < 18446744073709551616 := by simp; omega
def tellB (k e : Int) (n m : Int) (t : List UInt8) (l : List (List UInt8)) (s : Int) : List UInt8 := if fitsB k k e s l.length then tellL k.toNat e.toNat n m t l s.toNat else []
set_option maxRecDepth 100000 in
set_option maxHeartbeats 1000000 in
theorem tell_v (k e n m : Int) (t : List UInt8) (A : Option Addr) (len cap : Nat) (l : List (List UInt8)) (s : Int) (w : World) (hr : Rd w w.heap.size A len (l.map sv)) (hx : (textsB l).length ≤ 1000000000000) (ht : t.length ≤ 1000000000)
    (hn1 : -9223372036854775808 ≤ n) (hn2 : n ≤ 9223372036854775807) (hm1 : -9223372036854775808 ≤ m) (hm2 : m ≤ 9223372036854775807) :
    Calls Tryd.prog 20 #[ansV k e n m t A len cap s] w fun r w' => ∃ v', r = .returned v' ∧ Made w w' v' (tellB k e n m t l s) := by
  obtain ⟨i0, hi, hz0, hz1, hz2⟩ := info_parts info_u8
  have hl := Lib.hid hr.len_map
  have HR := Lib.hid hr
  have HX := Lib.hid hx
  have hright := fun W => fits_v k k e n m t A len cap s W
  have hbox := Lib.hid (Later.alloc w (.cells (ansC k e n m t A len cap s) 26))
  have hone := fun w1 hb => one_cells w (ansC k e n m t A len cap s) 26 (w1 := w1) hb
  unfold ansV at hright ⊢
  unfold ansC at hbox hone
  have HRT := Lib.hid hright
  have HO := Lib.hid hone
  clear hr hx hright hone
  by_cases hb : fitsB k k e s len = true
  · have hk := of_decide_eq_true hb
    obtain ⟨kN, rfl⟩ : ∃ kN : Nat, k = (kN : Int) := ⟨k.toNat, by omega⟩
    obtain ⟨eN, rfl⟩ : ∃ eN : Nat, e = (eN : Int) := ⟨e.toNat, by omega⟩
    obtain ⟨sN, rfl⟩ : ∃ sN : Nat, s = (sN : Int) := ⟨s.toNat, by omega⟩
    have hask : tellB kN eN n m t l sN = (((putL [kN, eN, zigN n, zigN m] ++ textsB [t]) ++ (numL l.length ++ textsB l)) ++ putL [sN]) := by
      unfold tellB
      rw [hl.out, if_pos hb, textsB_one]
      simp [tellL, putL, hl.out]
    obtain ⟨RW, hRW⟩ : ∃ RW, RW = numL l.length ++ textsB l := ⟨_, rfl⟩
    have hrow := fun W (hW : Later w W) => row_v A len cap l W (rd_later HR.out hW) (by omega) HX.out
    rw [← hRW] at hrow hask
    have HRL := Lib.hid (show RW.length ≤ 1000000000010 by rw [hRW, List.length_append, hl.out]; have := HX.out; have := numL_ten (show len < 18446744073709551616 by omega); omega)
    have HRW := Lib.hid hrow
    have HA := Lib.hid hask
    clear hrow hRW
    obtain ⟨a, ha⟩ : ∃ a, a = zigN n := ⟨_, rfl⟩
    obtain ⟨b, hbb⟩ : ∃ b, b = zigN m := ⟨_, rfl⟩
    have zn := fun W => zigU_v n W hn1 hn2
    have zm := fun W => zigU_v m W hm1 hm2
    have h64 := nats4 (show kN < 18446744073709551616 by omega) (show eN < 18446744073709551616 by omega) (zigN_lt hn1 hn2) (zigN_lt hm1 hm2)
    rw [← ha, ← hbb] at HA h64
    rw [← ha] at zn
    rw [← hbb] at zm
    have hput : (putL [kN, eN, a, b]).length ≤ 40 := by have := putL_len _ h64; simpa using this
    have HPL := Lib.hid hput
    have H64 := Lib.hid h64
    have ZN := Lib.hid zn
    have ZM := Lib.hid zm
    have hwk : IntKind.u64.wrap (kN : Int) = (kN : Int) := by rw [IntKind.wrap_u64]; omega
    have hwe : IntKind.u64.wrap (eN : Int) = (eN : Int) := by rw [IntKind.wrap_u64]; omega
    have hws : IntKind.u64.wrap (sN : Int) = (sN : Int) := by rw [IntKind.wrap_u64]; omega
    have HS64 := Lib.hid (show ∀ x ∈ [sN], x < 18446744073709551616 by simp; omega)
    have hlit2 := Lib.hid (fun W => Rd.lit W 56 ([sN].map nv))
    have HSL := Lib.hid (show (putL [sN]).length ≤ 10 by rw [putL_one]; exact numL_ten (by omega))
    have hcap4 : len ≤ 4096 := by omega
    have hlit := Lib.hid (fun W => Rd.lit W 56 ([kN, eN, a, b].map nv))
    have HT1 := Lib.hid (show (textsB [t]).length ≤ 10000000000 by rw [textsB_one]; rcases textB_len t with h | h <;> omega)
    clear hask ha hbb h64 hk zn zm hput
    go_enter Tryd.func20, Tryd.ntmps20
    go_wp2_with (go_at_call 14; (with_reducible refine (HRT.out _).mono ?_); rintro r w1 ⟨rfl, hb1⟩; rw [hb]; have HB1 := Lib.hid (Later.trans hbox.out hb1); have hoc := HO.out w1 (by simpa using hb1); clear hb1)
    obtain ⟨c0, hz⟩ := hoc
    have q0 := c0 0; have q1 := c0 1; have q2 := c0 2; have q3 := c0 3; have q4 := c0 4; have q5 := c0 5; have q6 := c0 6
    simp only [lit7_0, lit7_1, lit7_2, lit7_3, lit7_4, lit7_5, lit7_6] at q0 q1 q2 q3 q4 q5 q6
    clear c0
    have hk0 : ∀ W, Later w1 W → Hid (Later w1 W) ∧ W.cell? ⟨w.heap.size, 0, none⟩ = some (.int .i64 (kN : Int)) ∧ W.cell? ⟨w.heap.size, 1, none⟩ = some (.int .i64 (eN : Int)) ∧ W.cell? ⟨w.heap.size, 2, none⟩ = some (.int .i64 n) ∧ W.cell? ⟨w.heap.size, 3, none⟩ = some (.int .i64 m) ∧ W.cell? ⟨w.heap.size, 4, none⟩ = some (.string (mkS t)) ∧ W.cell? ⟨w.heap.size, 5, none⟩ = some (.slice A len cap) ∧ W.cell? ⟨w.heap.size, 6, none⟩ = some (.int .i64 (sN : Int)) :=
      fun W hW => ⟨hW, cell_keeps hW q0, cell_keeps hW q1, cell_keeps hW q2, cell_keeps hW q3, cell_keeps hW q4, cell_keeps hW q5, cell_keeps hW q6⟩
    have HK := Lib.hid hk0
    have hzw1 := HB1.out.size
    clear hk0
    go_region_held (fun W => Hid (Later w1 W) ∧ W.cell? ⟨w.heap.size, 0, none⟩ = some (.int .i64 (kN : Int)) ∧ W.cell? ⟨w.heap.size, 1, none⟩ = some (.int .i64 (eN : Int)) ∧ W.cell? ⟨w.heap.size, 2, none⟩ = some (.int .i64 n) ∧ W.cell? ⟨w.heap.size, 3, none⟩ = some (.int .i64 m) ∧ W.cell? ⟨w.heap.size, 4, none⟩ = some (.string (mkS t)) ∧ W.cell? ⟨w.heap.size, 5, none⟩ = some (.slice A len cap) ∧ W.cell? ⟨w.heap.size, 6, none⟩ = some (.int .i64 (sN : Int))) (first | assumption | exact HK.out _ (Later.drew _) | exact HK.out _ (Later.trans (Later.alloc _ _) (Later.drew _)) | exact HK.out _ HL6.out) (first
      | (go_at_call 32; (first | (with_reducible refine (ZN.out _).mono ?_) | (with_reducible refine (ZM.out _).mono ?_)); rintro r w' ⟨rfl, rfl⟩)
      | (go_at_call 31; (with_reducible refine (putU_v _ 4 4 _ [kN, eN, a, b] _ (hlit.out w1) ?hB ?hN H64.out).mono ?_); (case hB => simp); (case hN => omega); rintro r w6 ⟨v6, rfl, hm6⟩; have HL6 := Lib.hid (Later.trans (Later.trans (Later.alloc w1 _) (Later.drew _)) hm6.bel); have M6 := Lib.hid (Made.cut (w := w1) (Later.trans (Later.alloc w1 _) (Later.drew _)) hm6); clear hm6))
    all_goals
      obtain ⟨_, _, _, _, _, p4, p5, p6⟩ := HK.out _ HL6.out
      have hs6 := M6.out.bel.size
      have hlt := Lib.hid (Rd.lit w6 9 ([t].map sv))
      go_wp2_with (first
        | (go_at_call 33; (with_reducible refine (textsU_v _ 1 1 _ [t] _ hlt.out ?hB ?hN2 ?hX2).mono ?_); (case hB => simp); (case hN2 => omega); (case hX2 => have := HT1.out; omega); rintro r w7 ⟨v7, rfl, hm7⟩; obtain ⟨A7, c7, rfl, hc7, hr7⟩ := hm7.slice; have L7 := Lib.hid (Later.trans (Later.alloc w6 _) hm7.bel); have M7 := Lib.hid (M6.out.below L7.out); have R7 := Lib.hid hr7; clear hm7 hr7)
        | (at_builtin; refine wpList_appN w7 rfl (.tmp 23) (.tmp 27) _ rfl w1.heap.size 5 i0 (.int .u8 0) 1 Tryd.underlying33 hi hz0 hz1 hz2 rfl v6 _ rfl M7.out.own w7.heap.size A7 _ c7 _ rfl R7.out (bv_one _) ?hby ?hle M7.out.bel.size ?_; (case hby => have := HPL.out; have := HT1.out; simp only [List.length_map]; omega); (case hle => have := HPL.out; have := HT1.out; simp only [List.length_map]; omega); intro v8 w8 hg8; have M8 := Lib.hid (M7.out.grew hg8); have p5' := cell_keeps M8.out.bel q5; have L8 := Lib.hid (Later.trans HB1.out M8.out.bel); clear M7 hg8)
        | (go_at_call 34; (with_reducible refine (HRW.out w8 L8.out).mono ?_); rintro r w9 ⟨v9, rfl, hm9⟩; obtain ⟨A9, c9, rfl, hc9, hr9⟩ := hm9.slice; have M9 := Lib.hid (M8.out.below hm9.bel); have R9 := Lib.hid hr9; clear hm9 hr9)
        | (at_builtin; refine wpList_appN w9 rfl (.tmp 29) (.tmp 32) _ rfl w1.heap.size 5 i0 (.int .u8 0) 1 Tryd.underlying33 hi hz0 hz1 hz2 rfl v8 _ rfl M9.out.own w9.heap.size A9 _ c9 _ rfl R9.out (bv_one _) ?hby4 ?hle4 M9.out.bel.size ?_; (case hby4 => have := HPL.out; have := HT1.out; have := HRL.out; simp only [List.length_map, List.length_append]; omega); (case hle4 => have := HPL.out; have := HT1.out; have := HRL.out; simp only [List.length_map, List.length_append]; omega); intro v10 w10 hg10; have M10 := Lib.hid (M9.out.grew hg10); have p6' := cell_keeps M10.out.bel q6; clear M9 hg10)
        | (go_at_call 31; (with_reducible refine (putU_v _ 1 1 _ [sN] _ (hlit2.out w10) ?hB9 ?hN9 HS64.out).mono ?_); (case hB9 => simp); (case hN9 => omega); rintro r w11 ⟨v11, rfl, hm11⟩; obtain ⟨A11, c11, rfl, hc11, hr11⟩ := hm11.slice; have M11 := Lib.hid (M10.out.below (Later.trans (Later.alloc w10 _) hm11.bel)); have R11 := Lib.hid hr11; clear hm11 hr11)
        | (at_builtin; refine wpList_appN w11 rfl (.tmp 34) (.tmp 39) _ rfl w1.heap.size 5 i0 (.int .u8 0) 1 Tryd.underlying33 hi hz0 hz1 hz2 rfl v10 _ rfl M11.out.own w11.heap.size A11 _ c11 _ rfl R11.out (bv_one _) ?hby5 ?hle5 M11.out.bel.size ?_; (case hby5 => have := HPL.out; have := HT1.out; have := HRL.out; have := HSL.out; simp only [List.length_map, List.length_append]; omega); (case hle5 => have := HPL.out; have := HT1.out; have := HRL.out; have := HSL.out; simp only [List.length_map, List.length_append]; omega); intro v12 w12 hg12))
      go_ret
      exact ⟨v12, rfl, by rw [HA.out]; exact Made.cut HB1.out (M11.out.grew hg12)⟩
  · have hbf : fitsB k k e s len = false := by simpa using hb
    have hask : tellB k e n m t l s = [] := by unfold tellB; rw [hl.out, hbf]; rfl
    rw [hask]
    clear hask hb
    go_enter Tryd.func20, Tryd.ntmps20
    go_wp2_with (go_at_call 14; (with_reducible refine (HRT.out _).mono ?_); rintro r w1 ⟨rfl, hb1⟩; rw [hbf]; have HB1 := Lib.hid (Later.trans hbox.out hb1); clear hb1)
    go_ret
    exact ⟨_, rfl, HB1.out, World.ownsRow_nil _ _ _ _⟩
end Go.Proofs.YtbgojfgapbcanaaDoor
