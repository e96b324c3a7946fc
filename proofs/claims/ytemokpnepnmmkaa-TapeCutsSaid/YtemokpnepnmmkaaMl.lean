/- event's row: how many texts, and these, as bytes. -/
import Derived.Test.YtemokpnepnmmkaaMk
import Derived.Test.YtemokpnepnmmkaaMb
import Derived.Test.YtemokpnepnmmkaaMe
import Derived.Deep.RegionHeld
namespace Go.Proofs.Ytemokpnepnmmkaa
open Go.RowKit
/-- v is made by the call: new memory, that reads as L; nothing that was there has turned. -/
structure Made (w w' : World) (v : Value) (L : List UInt8) : Prop where
  bel : Below w.heap.size w w'
  own : w'.ownsRow w.heap.size 5 1 v (L.map bv).length (L.map bv)
theorem rd_later {w w' : World} {A : Option Addr} {n : Nat} {xs : List Value} (h : Rd w w.heap.size A n xs) (hl : Later w w') : Rd w' w'.heap.size A n xs := (h.below hl).more hl.size
theorem own_lower {w : World} {base b' n : Nat} {e : TypeId} {v : Value} {xs : List Value} (h : w.ownsRow base e 1 v n xs) (hb : b' ≤ base) : w.ownsRow b' e 1 v n xs := by
  refine ⟨h.1, ?_⟩
  rcases h.2 with h1 | ⟨g, cap, cur, h1, h2, h3⟩
  · exact .inl h1
  · exact .inr ⟨g, cap, cur, h1, Nat.le_trans hb h2, h3⟩
theorem Made.of_grew {w w1 w' : World} {v : Value} {L : List UInt8} {c : Nat} (hb : Below w.heap.size w w1) (h : Grew w1 w' w1.heap.size 5 (.slice none 0 c) v (L.map bv)) : Made w w' v L :=
  ⟨hb.trans (h.belowNil.mono hb.size), own_lower h.own hb.size⟩
theorem Made.below {w w' w'' : World} {v : Value} {L : List UInt8} (h : Made w w' v L) (hb : Below w'.heap.size w' w'') : Made w w'' v L :=
  ⟨h.1.trans (hb.mono h.1.size), own_below h.2 hb⟩
theorem Made.grew {w w' w'' : World} {v v' : Value} {L M : List UInt8} (h : Made w w' v L) (hg : Grew w' w'' w.heap.size 5 v v' (L.map bv ++ M.map bv)) : Made w w'' v' (L ++ M) := by
  refine ⟨h.1.trans (hg.below h.2 h.1.size), ?_⟩
  have := hg.own
  rw [← List.map_append] at this
  exact this
theorem Made.cut {w w1 w' : World} {v : Value} {L : List UInt8} (hb : Below w.heap.size w w1) (h : Made w1 w' v L) : Made w w' v L :=
  ⟨hb.trans (h.1.mono hb.size), own_lower h.2 hb.size⟩
/-- As a slice. -/
theorem Made.slice {w w' : World} {v : Value} {L : List UInt8} (h : Made w w' v L) : ∃ A c, v = .slice A L.length c ∧ L.length ≤ c ∧ Rd w' w'.heap.size A L.length (L.map bv) := by
  obtain ⟨A, c, h1, h2, h3, _⟩ := own_map h.own
  exact ⟨A, c, h1, h2, h3⟩
theorem Made.cap {w w' : World} {A : Option Addr} {n c : Nat} {L : List UInt8} (h : Made w w' (.slice A n c) L) : c ≤ maxLen := by
  rcases h.own.2 with ⟨h1, _⟩ | ⟨g, cap, cur, hv, _, _, _, h6, _⟩
  · injection h1 with _ _ h3; subst h3; unfold maxLen; omega
  · injection hv with _ _ h3; rw [h3]; exact h6
theorem textsL_B (l : List (List UInt8)) : textsL (l.map mkS) = textsB l := by
  unfold textsL textsB
  rw [List.flatMap_map]
  congr 1
theorem map_sv (l : List (List UInt8)) : l.map sv = (l.map mkS).map Value.string := by rw [List.map_map]; rfl
theorem textsU_v (A : Option Addr) (n cap B : Nat) (l : List (List UInt8)) (w : World) (hr : Rd w B A n (l.map sv)) (hB : B ≤ w.heap.size) (hn : n ≤ 140737488351232) (hx : (textsB l).length ≤ 100000000000000) :
    Calls Try.prog 42 #[.slice A n cap] w fun e w' => ∃ v', e = .returned v' ∧ Made w w' v' (textsB l) := by
  refine (texts_v A n cap B (l.map mkS) w (by rw [← map_sv]; exact hr) hB hn (by rw [textsL_B]; exact hx)).mono ?_
  rintro e w' ⟨v', rfl, hg⟩
  rw [textsL_B] at hg
  exact ⟨v', rfl, Made.of_grew (Below.refl _ _) hg⟩
theorem putU_v (A : Option Addr) (n cap B : Nat) (l : List Nat) (w : World) (hr : Rd w B A n (l.map nv)) (hB : B ≤ w.heap.size) (hn : n ≤ 1000000000000) (hx : ∀ x ∈ l, x < 18446744073709551616) :
    Calls Try.prog 40 #[.slice A n cap] w fun e w' => ∃ v', e = .returned v' ∧ Made w w' v' (putL l) := by
  refine (put_v A n cap B l w hr hB hn hx).mono ?_
  rintro e w' ⟨v', rfl, hg⟩
  exact ⟨v', rfl, Made.of_grew (Below.refl _ _) hg⟩
theorem putL_one (x : Nat) : putL [x] = numL x := by simp [putL]
set_option maxRecDepth 100000 in
theorem row_v (A : Option Addr) (n cap : Nat) (l : List (List UInt8)) (w : World) (hr : Rd w w.heap.size A n (l.map sv)) (hn : n ≤ 1000000000000) (hx : (textsB l).length ≤ 1000000000000) :
    Calls Try.prog 43 #[.slice A n cap, .func (.func 42) #[] #[]] w fun e w' => ∃ v', e = .returned v' ∧ Made w w' v' (numL l.length ++ textsB l) := by
  obtain ⟨i0, hi, hz0, hz1, hz2⟩ := info_parts info_u8
  have hl := Lib.hid hr.len_map
  have hw : IntKind.u64.wrap (n : Int) = (n : Int) := by rw [IntKind.wrap_u64]; omega
  have h64 := Lib.hid (show ∀ x ∈ [n], x < 18446744073709551616 by simp; omega)
  have h10 := Lib.hid (numL_ten (show n < 18446744073709551616 by omega))
  have HR := Lib.hid hr
  have HX := Lib.hid hx
  have hb1 := Lib.hid (Later.alloc w (.cells #[.int .u64 (n : Int)] 62))
  have hlit := Lib.hid (Rd.lit w 62 ([n].map nv))
  clear hr hx
  go_enter Try.func43, Try.ntmps43
  go_wp2_with (first
    | (go_at_call 40; (with_reducible refine (putU_v _ 1 1 _ [n] _ hlit.out ?hB ?hN h64.out).mono ?_); (case hB => simp); (case hN => omega); rintro e w1 ⟨v1, rfl, hm1⟩; rw [putL_one] at hm1; have M1 := Lib.hid (Made.cut (w := w) hb1.out hm1); clear hm1)
    | (go_at_call 42; (with_reducible refine (textsU_v A n cap _ l w1 (HR.out.below M1.out.bel) M1.out.bel.size ?hN2 ?hX2).mono ?_); (case hN2 => omega); (case hX2 => have := HX.out; omega); rintro e w2 ⟨v2, rfl, hm2⟩; obtain ⟨A2, c2, rfl, hc2, hr2⟩ := hm2.slice; have M2 := Lib.hid (M1.out.below hm2.bel); have R2 := Lib.hid hr2; clear hm2 hr2)
    | (at_builtin; refine wpList_appN w2 rfl (.tmp 9) (.tmp 12) _ rfl w.heap.size 5 i0 (.int .u8 0) 1 Try.underlying28 hi hz0 hz1 hz2 rfl v1 _ rfl M2.out.own w2.heap.size A2 _ c2 _ rfl R2.out (bv_one _) ?hby ?hle M2.out.bel.size ?_; (case hby => have := HX.out; have := h10.out; simp; omega); (case hle => have := HX.out; have := h10.out; simp; omega); intro v3 w3 hg3))
  go_ret
  exact ⟨v3, rfl, by rw [hl.out]; exact M2.out.grew hg3⟩
end Go.Proofs.Ytemokpnepnmmkaa
/- event's Ask: a request as bytes. -/
namespace Go.Proofs.Ytemokpnepnmmkaa
open Go.RowKit
theorem zigN_of (x : Int) : zigOf x = ((zigN x : Nat) : Int) := by unfold zigOf zigN; split <;> omega
theorem zigU_v (x : Int) (w : World) (h1 : -9223372036854775808 ≤ x) (h2 : x ≤ 9223372036854775807) :
    Calls Try.prog 41 #[.int .i64 x] w fun e w' => e = .returned (.int .u64 ((zigN x : Nat) : Int)) ∧ w = w' := by
  rw [← zigN_of]; exact zig_v x w h1 h2
/-- A struct that was laid, in a later world. -/
theorem one_cells (w : World) (cs : Array Value) (T : TypeId) {w1 : World} (hb : Below (w.heap.size + 1) (w.alloc (.cells cs T)) w1) :
    (∀ i, w1.cell? ⟨w.heap.size, i, none⟩ = cs[i]?) ∧ w.heap.size < w1.heap.size := by
  have hz1 : (w.alloc (.cells cs T)).heap.size = w.heap.size + 1 := by simp
  refine ⟨fun i => ?_, by have := hb.size; omega⟩
  rw [hb.cell (p := ⟨w.heap.size, i, none⟩) (by show w.heap.size < _; omega)]
  exact cell_of_row _ _ i cs T (0, 0) (heap_alloc_new w _)
theorem nats3 {a b c : Nat} (ha : a < 18446744073709551616) (hb : b < 18446744073709551616) (hc : c < 18446744073709551616) : ∀ x ∈ [a, b, c], x < 18446744073709551616 := by simp; omega
def askB (k : Int) (n m : Int) (t : List UInt8) (l : List (List UInt8)) : List UInt8 := if rightB k l.length then askL k.toNat n m t l else []
theorem textB_len (t : List UInt8) : (textB t).length ≤ 10 + t.length ∨ 18446744073709551616 ≤ t.length := by
  by_cases h : t.length < 18446744073709551616
  · left; unfold textB; rw [List.length_append]; have := numL_ten h; omega
  · right; omega
theorem textsB_one (t : List UInt8) : textsB [t] = textB t := by simp [textsB]
end Go.Proofs.Ytemokpnepnmmkaa
/- event's Tell: an answer as bytes. -/
namespace Go.Proofs.Ytemokpnepnmmkaa
open Go.RowKit
theorem nats4 {a b c d : Nat} (ha : a < 18446744073709551616) (hb : b < 18446744073709551616) (hc : c < 18446744073709551616) (hd : d < 18446744073709551616) : ∀ x ∈ [a, b, c, d], x < 18446744073709551616 := by simp; omega
def tellB (k e : Int) (n m : Int) (t : List UInt8) (l : List (List UInt8)) (s : Int) : List UInt8 := if fitsB k k e s l.length then tellL k.toNat e.toNat n m t l s.toNat else []
set_option maxRecDepth 100000 in
set_option maxHeartbeats 1000000 in
theorem tell_v (k e n m : Int) (t : List UInt8) (A : Option Addr) (len cap : Nat) (l : List (List UInt8)) (s : Int) (w : World) (hr : Rd w w.heap.size A len (l.map sv)) (hx : (textsB l).length ≤ 1000000000000) (ht : t.length ≤ 1000000000)
    (hn1 : -9223372036854775808 ≤ n) (hn2 : n ≤ 9223372036854775807) (hm1 : -9223372036854775808 ≤ m) (hm2 : m ≤ 9223372036854775807) :
    Calls Try.prog 23 #[ansV k e n m t A len cap s] w fun r w' => ∃ v', r = .returned v' ∧ Made w w' v' (tellB k e n m t l s) := by
  obtain ⟨i0, hi, hz0, hz1, hz2⟩ := info_parts info_u8
  have hl := Lib.hid hr.len_map
  have HR := Lib.hid hr
  have HX := Lib.hid hx
  have hright := fun W => fits_v k k e n m t A len cap s W
  have hbox := Lib.hid (Later.alloc w (.cells (ansC k e n m t A len cap s) 34))
  have hone := fun w1 hb => one_cells w (ansC k e n m t A len cap s) 34 (w1 := w1) hb
  unfold ansV at hright ⊢
  unfold ansC at hbox hone
  have HRT := Lib.hid hright
  have HO := Lib.hid hone
  clear hr hx hright hone
  by_cases hb : fitsB k k e s len = true
  · have hk := of_decide_eq_true hb
    obtain ⟨kN, rfl⟩ : ∃ kN : Nat, k = (kN : Int) := ⟨k.toNat, by omega⟩
    obtain ⟨eN, rfl⟩ : ∃ eN : Nat, e = (eN : Int) := ⟨e.toNat, by omega⟩
    obtain ⟨sN, rfl⟩ : ∃ sN : Nat, s = (sN : Int) := ⟨s.toNat, by omega⟩
    have hask : tellB kN eN n m t l sN = (((putL [kN, eN, zigN n, zigN m] ++ textsB [t]) ++ (numL l.length ++ textsB l)) ++ putL [sN]) := by
      unfold tellB
      rw [hl.out, if_pos hb, textsB_one]
      simp [tellL, putL, hl.out]
    obtain ⟨RW, hRW⟩ : ∃ RW, RW = numL l.length ++ textsB l := ⟨_, rfl⟩
    have hrow := fun W (hW : Later w W) => row_v A len cap l W (rd_later HR.out hW) (by omega) HX.out
    rw [← hRW] at hrow hask
    have HRL := Lib.hid (show RW.length ≤ 1000000000010 by rw [hRW, List.length_append, hl.out]; have := HX.out; have := numL_ten (show len < 18446744073709551616 by omega); omega)
    have HRW := Lib.hid hrow
    have HA := Lib.hid hask
    clear hrow hRW
    obtain ⟨a, ha⟩ : ∃ a, a = zigN n := ⟨_, rfl⟩
    obtain ⟨b, hbb⟩ : ∃ b, b = zigN m := ⟨_, rfl⟩
    have zn := fun W => zigU_v n W hn1 hn2
    have zm := fun W => zigU_v m W hm1 hm2
    have h64 := nats4 (show kN < 18446744073709551616 by omega) (show eN < 18446744073709551616 by omega) (zigN_lt hn1 hn2) (zigN_lt hm1 hm2)
    rw [← ha, ← hbb] at HA h64
    rw [← ha] at zn
    rw [← hbb] at zm
    have hput : (putL [kN, eN, a, b]).length ≤ 40 := by have := putL_len _ h64; simpa using this
    have HPL := Lib.hid hput
    have H64 := Lib.hid h64
    have ZN := Lib.hid zn
    have ZM := Lib.hid zm
    have hwk : IntKind.u64.wrap (kN : Int) = (kN : Int) := by rw [IntKind.wrap_u64]; omega
    have hwe : IntKind.u64.wrap (eN : Int) = (eN : Int) := by rw [IntKind.wrap_u64]; omega
    have hws : IntKind.u64.wrap (sN : Int) = (sN : Int) := by rw [IntKind.wrap_u64]; omega
    have HS64 := Lib.hid (show ∀ x ∈ [sN], x < 18446744073709551616 by simp; omega)
    have hlit2 := Lib.hid (fun W => Rd.lit W 62 ([sN].map nv))
    have HSL := Lib.hid (show (putL [sN]).length ≤ 10 by rw [putL_one]; exact numL_ten (by omega))
    have hcap4 : len ≤ 4096 := by omega
    have hlit := Lib.hid (fun W => Rd.lit W 62 ([kN, eN, a, b].map nv))
    have HT1 := Lib.hid (show (textsB [t]).length ≤ 10000000000 by rw [textsB_one]; rcases textB_len t with h | h <;> omega)
    clear hask ha hbb h64 hk zn zm hput
    go_enter Try.func23, Try.ntmps23
    go_wp2_with (go_at_call 22; (with_reducible refine (HRT.out _).mono ?_); rintro r w1 ⟨rfl, hb1⟩; rw [hb]; have HB1 := Lib.hid (Later.trans hbox.out hb1); have hoc := HO.out w1 (by simpa using hb1); clear hb1)
    obtain ⟨c0, hz⟩ := hoc
    have q0 := c0 0; have q1 := c0 1; have q2 := c0 2; have q3 := c0 3; have q4 := c0 4; have q5 := c0 5; have q6 := c0 6
    simp only [lit7_0, lit7_1, lit7_2, lit7_3, lit7_4, lit7_5, lit7_6] at q0 q1 q2 q3 q4 q5 q6
    clear c0
    have hk0 : ∀ W, Later w1 W → Hid (Later w1 W) ∧ W.cell? ⟨w.heap.size, 0, none⟩ = some (.int .i64 (kN : Int)) ∧ W.cell? ⟨w.heap.size, 1, none⟩ = some (.int .i64 (eN : Int)) ∧ W.cell? ⟨w.heap.size, 2, none⟩ = some (.int .i64 n) ∧ W.cell? ⟨w.heap.size, 3, none⟩ = some (.int .i64 m) ∧ W.cell? ⟨w.heap.size, 4, none⟩ = some (.string (mkS t)) ∧ W.cell? ⟨w.heap.size, 5, none⟩ = some (.slice A len cap) ∧ W.cell? ⟨w.heap.size, 6, none⟩ = some (.int .i64 (sN : Int)) :=
      fun W hW => ⟨hW, cell_keeps hW q0, cell_keeps hW q1, cell_keeps hW q2, cell_keeps hW q3, cell_keeps hW q4, cell_keeps hW q5, cell_keeps hW q6⟩
    have HK := Lib.hid hk0
    have hzw1 := HB1.out.size
    clear hk0
    go_region_held (fun W => Hid (Later w1 W) ∧ W.cell? ⟨w.heap.size, 0, none⟩ = some (.int .i64 (kN : Int)) ∧ W.cell? ⟨w.heap.size, 1, none⟩ = some (.int .i64 (eN : Int)) ∧ W.cell? ⟨w.heap.size, 2, none⟩ = some (.int .i64 n) ∧ W.cell? ⟨w.heap.size, 3, none⟩ = some (.int .i64 m) ∧ W.cell? ⟨w.heap.size, 4, none⟩ = some (.string (mkS t)) ∧ W.cell? ⟨w.heap.size, 5, none⟩ = some (.slice A len cap) ∧ W.cell? ⟨w.heap.size, 6, none⟩ = some (.int .i64 (sN : Int))) (first | assumption | exact HK.out _ (Later.drew _) | exact HK.out _ (Later.trans (Later.alloc _ _) (Later.drew _)) | exact HK.out _ HL6.out) (first
      | (go_at_call 41; (first | (with_reducible refine (ZN.out _).mono ?_) | (with_reducible refine (ZM.out _).mono ?_)); rintro r w' ⟨rfl, rfl⟩)
      | (go_at_call 40; (with_reducible refine (putU_v _ 4 4 _ [kN, eN, a, b] _ (hlit.out w1) ?hB ?hN H64.out).mono ?_); (case hB => simp); (case hN => omega); rintro r w6 ⟨v6, rfl, hm6⟩; have HL6 := Lib.hid (Later.trans (Later.trans (Later.alloc w1 _) (Later.drew _)) hm6.bel); have M6 := Lib.hid (Made.cut (w := w1) (Later.trans (Later.alloc w1 _) (Later.drew _)) hm6); clear hm6))
    all_goals
      obtain ⟨_, _, _, _, _, p4, p5, p6⟩ := HK.out _ HL6.out
      have hs6 := M6.out.bel.size
      have hlt := Lib.hid (Rd.lit w6 9 ([t].map sv))
      go_wp2_with (first
        | (go_at_call 42; (with_reducible refine (textsU_v _ 1 1 _ [t] _ hlt.out ?hB ?hN2 ?hX2).mono ?_); (case hB => simp); (case hN2 => omega); (case hX2 => have := HT1.out; omega); rintro r w7 ⟨v7, rfl, hm7⟩; obtain ⟨A7, c7, rfl, hc7, hr7⟩ := hm7.slice; have L7 := Lib.hid (Later.trans (Later.alloc w6 _) hm7.bel); have M7 := Lib.hid (M6.out.below L7.out); have R7 := Lib.hid hr7; clear hm7 hr7)
        | (at_builtin; refine wpList_appN w7 rfl (.tmp 23) (.tmp 27) _ rfl w1.heap.size 5 i0 (.int .u8 0) 1 Try.underlying28 hi hz0 hz1 hz2 rfl v6 _ rfl M7.out.own w7.heap.size A7 _ c7 _ rfl R7.out (bv_one _) ?hby ?hle M7.out.bel.size ?_; (case hby => have := HPL.out; have := HT1.out; simp only [List.length_map]; omega); (case hle => have := HPL.out; have := HT1.out; simp only [List.length_map]; omega); intro v8 w8 hg8; have M8 := Lib.hid (M7.out.grew hg8); have p5' := cell_keeps M8.out.bel q5; have L8 := Lib.hid (Later.trans HB1.out M8.out.bel); clear M7 hg8)
        | (go_at_call 43; (with_reducible refine (HRW.out w8 L8.out).mono ?_); rintro r w9 ⟨v9, rfl, hm9⟩; obtain ⟨A9, c9, rfl, hc9, hr9⟩ := hm9.slice; have M9 := Lib.hid (M8.out.below hm9.bel); have R9 := Lib.hid hr9; clear hm9 hr9)
        | (at_builtin; refine wpList_appN w9 rfl (.tmp 29) (.tmp 32) _ rfl w1.heap.size 5 i0 (.int .u8 0) 1 Try.underlying28 hi hz0 hz1 hz2 rfl v8 _ rfl M9.out.own w9.heap.size A9 _ c9 _ rfl R9.out (bv_one _) ?hby4 ?hle4 M9.out.bel.size ?_; (case hby4 => have := HPL.out; have := HT1.out; have := HRL.out; simp only [List.length_map, List.length_append]; omega); (case hle4 => have := HPL.out; have := HT1.out; have := HRL.out; simp only [List.length_map, List.length_append]; omega); intro v10 w10 hg10; have M10 := Lib.hid (M9.out.grew hg10); have p6' := cell_keeps M10.out.bel q6; clear M9 hg10)
        | (go_at_call 40; (with_reducible refine (putU_v _ 1 1 _ [sN] _ (hlit2.out w10) ?hB9 ?hN9 HS64.out).mono ?_); (case hB9 => simp); (case hN9 => omega); rintro r w11 ⟨v11, rfl, hm11⟩; obtain ⟨A11, c11, rfl, hc11, hr11⟩ := hm11.slice; have M11 := Lib.hid (M10.out.below (Later.trans (Later.alloc w10 _) hm11.bel)); have R11 := Lib.hid hr11; clear hm11 hr11)
        | (at_builtin; refine wpList_appN w11 rfl (.tmp 34) (.tmp 39) _ rfl w1.heap.size 5 i0 (.int .u8 0) 1 Try.underlying28 hi hz0 hz1 hz2 rfl v10 _ rfl M11.out.own w11.heap.size A11 _ c11 _ rfl R11.out (bv_one _) ?hby5 ?hle5 M11.out.bel.size ?_; (case hby5 => have := HPL.out; have := HT1.out; have := HRL.out; have := HSL.out; simp only [List.length_map, List.length_append]; omega); (case hle5 => have := HPL.out; have := HT1.out; have := HRL.out; have := HSL.out; simp only [List.length_map, List.length_append]; omega); intro v12 w12 hg12))
      go_ret
      exact ⟨v12, rfl, by rw [HA.out]; exact Made.cut HB1.out (M11.out.grew hg12)⟩
  · have hbf : fitsB k k e s len = false := by simpa using hb
    have hask : tellB k e n m t l s = [] := by unfold tellB; rw [hl.out, hbf]; rfl
    rw [hask]
    clear hask hb
    go_enter Try.func23, Try.ntmps23
    go_wp2_with (go_at_call 22; (with_reducible refine (HRT.out _).mono ?_); rintro r w1 ⟨rfl, hb1⟩; rw [hbf]; have HB1 := Lib.hid (Later.trans hbox.out hb1); clear hb1)
    go_ret
    exact ⟨_, rfl, HB1.out, World.ownsRow_nil _ _ _ _⟩
end Go.Proofs.Ytemokpnepnmmkaa
