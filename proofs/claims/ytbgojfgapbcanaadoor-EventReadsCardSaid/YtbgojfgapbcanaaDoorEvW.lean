/- Chapter 4's example holds in any memory in which the table of names lies. -/
import Derived.Test.YtbgojfgapbcanaaDoorEvJ
import Derived.Test.YtbgojfgapbcanaaDoorEvN
namespace Go.Proofs.YtbgojfgapbcanaaDoor
open Go.RowKit
namespace evEx
def ask8 : List UInt8 := [8, 0, 0, 0, 0]
def tell1 : List UInt8 := [1, 0, 0, 0, 1, 120, 0, 2]
theorem n1 {x : Nat} (h : x < 128) : numL x = [UInt8.ofNat x] := numL_lt h
theorem zz : zigN 0 = 0 := by decide
theorem ask_eq : askL 8 0 0 [] [] = ask8 := by
  unfold askL textB textsB ask8
  rw [zz]
  simp [n1]
theorem tell_eq : tellL 1 0 0 0 [120] [] 2 = tell1 := by
  unfold tellL textB textsB tell1
  rw [zz]
  simp [n1]
theorem askB_eq : askB 8 0 0 [] [] = ask8 := by
  have : rightB 8 ([] : List (List UInt8)).length = true := by decide
  unfold askB; rw [if_pos this]; exact ask_eq
theorem tellB_eq : tellB 1 0 0 0 [120] [] 2 = tell1 := by
  have : fitsB 1 1 0 2 ([] : List (List UInt8)).length = true := by decide
  unfold tellB; rw [if_pos this]; exact tell_eq
theorem asked8 : askedM ask8 = ((8, 0, 0, [], []), 0) := by
  have h := asked_all (k := 8) (n := 0) (m := 0) (t := []) (l := []) (by omega) (by rw [zz]; omega) (by rw [zz]; omega) (by simp) (by simp) (by simp) []
  rw [List.append_nil, ask_eq] at h
  rw [h]; simp
theorem told1 : toldM tell1 = ((1, 0, 0, 0, [120], [], 2), 0) := by
  have h := told_all (k := 1) (e := 0) (n := 0) (m := 0) (t := [120]) (l := []) (s := 2) (by omega) (by omega) (by rw [zz]; omega) (by rw [zz]; omega) (by simp) (by simp) (by simp) (by omega) []
  rw [List.append_nil, tell_eq] at h
  rw [h]; simp
theorem ask (W : World) : Calls Tryd.prog 18 #[.agg #[.int .i64 8, .int .i64 0, .int .i64 0, .string ⟨#[]⟩, .slice none 0 0]] W fun e w' => ∃ A c, e = .returned (.slice A 5 c) ∧ Later W w' ∧ Rd w' w'.heap.size A 5 (ask8.map bv) := by
  refine (ask_v 8 0 0 [] none 0 0 [] W Rd.nil_ (by simp [textsB]) (by simp) (by omega) (by omega) (by omega) (by omega)).mono ?_
  rintro e w' ⟨v', rfl, hm⟩
  rw [askB_eq] at hm
  obtain ⟨A, c, rfl, _, h⟩ := hm.slice
  exact ⟨A, c, rfl, hm.bel, h⟩
theorem tell (W : World) : Calls Tryd.prog 20 #[.agg #[.int .i64 1, .int .i64 0, .int .i64 0, .int .i64 0, .string ⟨#[120]⟩, .slice none 0 0, .int .i64 2]] W fun e w' => ∃ A c, e = .returned (.slice A 8 c) ∧ Later W w' ∧ Rd w' w'.heap.size A 8 (tell1.map bv) := by
  refine (tell_v 1 0 0 0 [120] none 0 0 [] 2 W Rd.nil_ (by simp [textsB]) (by simp) (by omega) (by omega) (by omega) (by omega)).mono ?_
  rintro e w' ⟨v', rfl, hm⟩
  rw [tellB_eq] at hm
  obtain ⟨A, c, rfl, _, h⟩ := hm.slice
  exact ⟨A, c, rfl, hm.bel, h⟩
theorem asked (A : Option Addr) (c : Nat) (W : World) (h : Rd W W.heap.size A 5 (ask8.map bv)) : Calls Tryd.prog 22 #[.slice A 5 c] W fun e w' => ∃ A' c', e = .returned (.tuple #[.agg #[.int .i64 8, .int .i64 0, .int .i64 0, .string ⟨#[]⟩, .slice A' 0 c'], .int .i64 0]) ∧ Later W w' := by
  refine (asked_v A 5 c ask8 W h (by omega)).mono ?_
  rintro e w' ⟨k, n, m, t, l, A', c', f, rfl, he, _, _, hb, _⟩
  rw [asked8] at he
  obtain ⟨⟨rfl, rfl, rfl, rfl, rfl⟩, rfl⟩ : (8 = k ∧ 0 = n ∧ 0 = m ∧ [] = t ∧ [] = l) ∧ 0 = f := by simpa using he
  exact ⟨A', c', rfl, hb⟩
theorem told (A : Option Addr) (c : Nat) (W : World) (h : Rd W W.heap.size A 8 (tell1.map bv)) : Calls Tryd.prog 24 #[.slice A 8 c] W fun e w' => ∃ A' c', e = .returned (.tuple #[.agg #[.int .i64 1, .int .i64 0, .int .i64 0, .int .i64 0, .string ⟨#[120]⟩, .slice A' 0 c', .int .i64 2], .int .i64 0]) ∧ Later W w' := by
  refine (told_v A 8 c tell1 W h (by omega)).mono ?_
  rintro e w' ⟨k, e, n, m, t, l, s, A', c', f, rfl, he, _, _, hb, _⟩
  rw [told1] at he
  obtain ⟨⟨rfl, rfl, rfl, rfl, rfl, rfl, rfl⟩, rfl⟩ : (1 = k ∧ 0 = e ∧ 0 = n ∧ 0 = m ∧ [120] = t ∧ [] = l ∧ 2 = s) ∧ 0 = f := by simpa using he
  exact ⟨A', c', rfl, hb⟩
theorem same (A : Option Addr) (c : Nat) (W : World) : Calls Tryd.prog 16 #[.agg #[.int .i64 8, .int .i64 0, .int .i64 0, .string ⟨#[]⟩, .slice A 0 c], .agg #[.int .i64 8, .int .i64 0, .int .i64 0, .string ⟨#[]⟩, .slice none 0 0]] W fun e w' => e = .returned (.bool true) ∧ Later W w' := by
  refine (same_v 8 0 0 8 0 0 [] [] A none 0 c 0 0 [] [] W Rd.nil_ Rd.nil_ (by simp) (by simp)).mono ?_
  rintro e w' ⟨rfl, hb⟩
  exact ⟨rfl, hb⟩
theorem fits (A : Option Addr) (c : Nat) (W : World) : Calls Tryd.prog 14 #[.int .i64 1, .agg #[.int .i64 1, .int .i64 0, .int .i64 0, .int .i64 0, .string ⟨#[120]⟩, .slice A 0 c, .int .i64 2]] W fun e w' => e = .returned (.bool true) ∧ Later W w' := by
  refine (fits_v 1 1 0 0 0 [120] A 0 c 2 W).mono ?_
  rintro e w' ⟨rfl, hb⟩
  exact ⟨rfl, hb⟩
theorem right (A : Option Addr) (c : Nat) (W : World) : Calls Tryd.prog 12 #[.agg #[.int .i64 8, .int .i64 0, .int .i64 0, .string ⟨#[]⟩, .slice A 0 c]] W fun e w' => e = .returned (.bool true) ∧ Later W w' := by
  refine (right_v 8 0 0 [] A 0 c W).mono ?_
  rintro e w' ⟨rfl, hb⟩
  exact ⟨rfl, hb⟩
theorem name {w : World} (W : World) (h : Names w) (hl : Later w W) : Calls Tryd.prog 10 #[.int .i64 6] W fun e w' => e = .returned (.string ⟨#[115, 112, 97, 119, 110]⟩) ∧ W = w' := name_v 6 W (h.keep hl)
abbrev qc (A : Option Addr) (c : Nat) : Array Value := #[.int .i64 8, .int .i64 0, .int .i64 0, .string ⟨#[]⟩, .slice A 0 c]
abbrev ac (A : Option Addr) (c : Nat) : Array Value := #[.int .i64 1, .int .i64 0, .int .i64 0, .int .i64 0, .string ⟨#[120]⟩, .slice A 0 c, .int .i64 2]
/-- The cells of a struct that was laid, in a later world. -/
theorem qcells (w : World) (A : Option Addr) (c : Nat) {W : World} (hb : Later (w.alloc (.cells (qc A c) 24)) W) : (W.cell? ⟨w.heap.size, 0, none⟩ = some (.int .i64 8) ∧ W.cell? ⟨w.heap.size, 1, none⟩ = some (.int .i64 0) ∧ W.cell? ⟨w.heap.size, 2, none⟩ = some (.int .i64 0) ∧ W.cell? ⟨w.heap.size, 3, none⟩ = some (.string ⟨#[]⟩) ∧ W.cell? ⟨w.heap.size, 4, none⟩ = some (.slice A 0 c)) ∧ w.heap.size < W.heap.size := by
  obtain ⟨h, hz⟩ := one_cells w (qc A c) 24 (w1 := W) (by have := hb; unfold Later at this; rwa [World.size_alloc] at this)
  exact ⟨⟨h 0, h 1, h 2, h 3, h 4⟩, hz⟩
theorem acells (w : World) (A : Option Addr) (c : Nat) {W : World} (hb : Later (w.alloc (.cells (ac A c) 26)) W) : (W.cell? ⟨w.heap.size, 0, none⟩ = some (.int .i64 1) ∧ W.cell? ⟨w.heap.size, 1, none⟩ = some (.int .i64 0) ∧ W.cell? ⟨w.heap.size, 2, none⟩ = some (.int .i64 0) ∧ W.cell? ⟨w.heap.size, 3, none⟩ = some (.int .i64 0) ∧ W.cell? ⟨w.heap.size, 4, none⟩ = some (.string ⟨#[120]⟩) ∧ W.cell? ⟨w.heap.size, 5, none⟩ = some (.slice A 0 c) ∧ W.cell? ⟨w.heap.size, 6, none⟩ = some (.int .i64 2)) ∧ w.heap.size < W.heap.size := by
  obtain ⟨h, hz⟩ := one_cells w (ac A c) 26 (w1 := W) (by have := hb; unfold Later at this; rwa [World.size_alloc] at this)
  exact ⟨⟨h 0, h 1, h 2, h 3, h 4, h 5, h 6⟩, hz⟩
end evEx
set_option maxRecDepth 100000 in
set_option maxHeartbeats 1000000 in
theorem evAwake_v (w : World) (hN : Names w) : Calls Tryd.prog 8 #[] w fun e w' => e = .returned (.bool true) ∧ Later w w' := by
  have HN := Lib.hid hN
  have hst : (mkS evEx.ask8).toList = [8, 0, 0, 0, 0] := by rw [ByteArray.toList_eq]; exact mkS_list _
  clear hN
  go_enter Tryd.func8, Tryd.ntmps8
  go_wp2_with (first
    | (go_at_call 18; (with_reducible refine (evEx.ask w).mono ?_); rintro e w1 ⟨A1, c1, rfl, hl1, hr1⟩; have L1 := Lib.hid hl1; have R1 := Lib.hid hr1; clear hl1 hr1)
    | (go_at_call 22; (with_reducible refine (evEx.asked A1 c1 w1 R1.out).mono ?_); rintro e w2 ⟨A2, c2, rfl, hl2⟩; have L2 := Lib.hid hl2; have H2 := Lib.hid (Later.trans L1.out hl2); clear hl2)
    | (go_at_call 20; (with_reducible refine (evEx.tell _).mono ?_); rintro e w3 ⟨A3, c3, rfl, hl3, hr3⟩; have L3 := Lib.hid hl3; have R3 := Lib.hid hr3; clear hl3 hr3)
    | (go_at_call 24; (with_reducible refine (evEx.told A3 c3 w3 R3.out).mono ?_); rintro e w4 ⟨A4, c4, rfl, hl4⟩; have L4 := Lib.hid (Later.trans L3.out hl4); obtain ⟨⟨q0, q1, q2, q3, q4⟩, qz⟩ := evEx.qcells w2 A2 c2 L4.out; have H4 := Lib.hid (Later.trans H2.out (Later.trans (Later.alloc w2 _) L4.out)); have R4 := Lib.hid (rd_later (rd_later R1.out L2.out) (Later.trans (Later.trans (Later.alloc w2 _) L4.out) (Later.alloc w4 (.cells (evEx.ac A4 c4) 26)))); have hcv := run_str_of (P := Tryd.prog) R4.out 33 9 5 Tryd.underlying33 Tryd.underlying5 Tryd.underlying9 c1; clear hl4)
    | (go_at_call 16; (with_reducible refine (evEx.same A2 c2 _).mono ?_); rintro e w5 ⟨rfl, hl5⟩; have L5 := Lib.hid hl5; obtain ⟨⟨p0, p1, p2, p3, p4, p5, p6⟩, pz⟩ := evEx.acells w4 A4 c4 L5.out; have H45 := Lib.hid (Later.trans (Later.alloc w4 _) L5.out); have q0' := cell_keeps H45.out q0; have q1' := cell_keeps H45.out q1; have q2' := cell_keeps H45.out q2; have q3' := cell_keeps H45.out q3; have q4' := cell_keeps H45.out q4; have H5 := Lib.hid (Later.trans H4.out H45.out); have qz' := Nat.lt_of_lt_of_le qz (Nat.le_of_lt pz); clear hl5)
    | (go_at_call 10; (with_reducible refine (evEx.name w5 HN.out H5.out).mono ?_); rintro e w' ⟨rfl, rfl⟩)
    | (go_at_call 14; (with_reducible refine (evEx.fits A4 c4 w5).mono ?_); rintro e w6 ⟨rfl, hl6⟩; have q0'' := cell_keeps hl6 q0'; have q1'' := cell_keeps hl6 q1'; have q2'' := cell_keeps hl6 q2'; have q3'' := cell_keeps hl6 q3'; have q4'' := cell_keeps hl6 q4'; have H6 := Lib.hid (Later.trans H5.out hl6); clear hl6)
    | (go_at_call 12; (with_reducible refine (evEx.right A2 c2 w6).mono ?_); rintro e w7 ⟨rfl, hl7⟩; have H7 := Lib.hid (Later.trans H6.out hl7); clear hl7))
  go_ret
  exact ⟨rfl, H7.out⟩
end Go.Proofs.YtbgojfgapbcanaaDoor
