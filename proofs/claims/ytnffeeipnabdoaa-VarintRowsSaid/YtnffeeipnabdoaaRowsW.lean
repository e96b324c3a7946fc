/- The walk of VarintRows: whatever the texts and the number are, the call returns true. -/
import Derived.Test.YtnffeeipnabdoaaAwake
import Derived.Test.YtnffeeipnabdoaaArgs
import Derived.Deep.RegionHeld
import Derived.Deep.DrawnRows
namespace Go.Proofs.Ytnffeeipnabdoaa
namespace varintRows
open Go.RowKit
attribute [local go_sem ↓] Go.wp_at_zero Go.wp_at_succ
theorem texts_len : ∀ (l : List ByteArray), (∀ s ∈ l, s.size ≤ 300) → (textsL l).length ≤ 310 * l.length
  | [], _ => by simp [textsL]
  | s :: l, h => by
    have h1 := texts_len l fun x hx => h x (List.mem_cons_of_mem _ hx)
    have h2 := h s (List.mem_cons_self ..)
    have h3 := numL_ten (x := s.size) (by omega)
    have e : textsL (s :: l) = textL s ++ textsL l := by simp [textsL]
    rw [e, List.length_append, textL_len, List.length_cons]
    omega
theorem short (want : List UInt8) (x : Nat) (hx : x < 18446744073709551616) (h : want.length < x) : textR (numL x ++ want) 0 = ([], want, 10) := by
  have e : numR (numL x ++ want) 0 = (x, want, 0) := by simp [numR, takeM_numL hx]
  simp [textR, e, h]
set_option maxRecDepth 100000 in
set_option maxHeartbeats 1000000 in
theorem walk (w : World) (A0 : Option Addr) (n0 c0 : Nat) (l : List ByteArray) (hl : Rd w w.heap.size A0 n0 (l.map Value.string) ∧ (∀ s ∈ l, s.size ≤ maxLen) ∧ n0 ≤ c0 ∧ c0 ≤ maxLen)
    (m : Int) (hm : (Lit.int .u16 m).wf = true) :
    Calls Try.prog 8 #[.slice A0 n0 c0, .int .u16 m] w fun e w' => e = .returned (.bool true) ∧ Below w.heap.size w w' := by
  obtain ⟨h1, h2, h3, h4⟩ := hl
  have hmb := bounds_u16 hm
  unfold maxLen at h4 h2
  obtain ⟨mn, rfl⟩ : ∃ mn : Nat, m = (mn : Int) := ⟨m.toNat, by omega⟩
  have HL := Lib.hid h1
  have hll := Lib.hid h1.len_map
  have HX := Lib.hid h2
  clear h1 hm h2
  obtain ⟨i0, hi, hz0, hz1, hz2⟩ := info_parts info_u8
  by_cases hn0 : 20 < n0
  · go_enter Try.func8, Try.ntmps8
    go_wp2_with (go_at_call 9; (with_reducible refine (awake_v _).mono ?_); rintro e w1 ⟨rfl, hb1⟩)
    go_ret
    exact ⟨rfl, hb1⟩
  go_enter Try.func8, Try.ntmps8
  go_wp2_with (go_at_call 9; (with_reducible refine (awake_v _).mono ?_); rintro e w1 ⟨rfl, hb1⟩)
  have hsz1 := hb1.size
  go_loopw [6, 7] (fun v i wr => ∃ k : Nat, k ≤ n0 ∧ i = .int .i64 (k : Int) ∧ Hid (∀ s ∈ l.take k, s.size ≤ 300) ∧ Grew w1 wr w1.heap.size 5 (.slice none 0 0) v ((textsL (l.take k)).map bv)) (fun _ i _ => n0 - (intOf i).toNat)
  case atStart => exact ⟨0, by omega, rfl, (fun s hs => by simp at hs), Grew.nil _ _ _⟩
  case round =>
    obtain ⟨k, hk, rfl, hsm, hg⟩ := hrel
    have hbr := Lib.hid (hb1.trans (hg.belowNil.mono hsz1))
    have hszr := hg.grown.size
    by_cases hlt : k < n0
    · obtain ⟨ad, hkl, rfl, _, hc0⟩ := HL.out.at_map (k := k) hlt
      have hs63 := HX.out _ (List.getElem_mem hkl)
      have hsn : textsL (l.take (k + 1)) = textsL (l.take k) ++ textL l[k] := flat_snoc textL l k hkl
      have hmore : Hid (l[k].size ≤ 300 → ∀ s ∈ l.take (k + 1), s.size ≤ 300) := fun h300 s hs => by
        rw [List.take_succ_eq_append_getElem hkl, List.mem_append] at hs
        rcases hs with hs | hs
        · exact hsm.out s hs
        · simp at hs; rw [hs]; exact h300
      obtain ⟨s, hs⟩ : ∃ s, s = l[k] := ⟨_, rfl⟩
      rw [← hs] at hs63 hc0 hsn hmore
      have hc := cell_keeps hbr.out hc0
      have HC0 := Lib.hid hc0
      have HG := Lib.hid hg
      have HSN := Lib.hid hsn
      clear hs hsn hg hc0
      by_cases h300 : 300 < s.size
      · go_wp2
        go_ret
        exact ⟨rfl, hbr.out⟩
      · have hle : (textsL (l.take k)).length ≤ 6200 := by
          have := texts_len (l.take k) hsm.out
          have hk2 : (l.take k).length ≤ 20 := by simp; omega
          omega
        have hw : IntKind.u64.wrap (s.size : Int) = (s.size : Int) := by rw [IntKind.wrap_u64]; omega
        have h10 := numL_ten (x := s.size) (by omega)
        have hpe : putL [s.size] = numL s.size := by simp [putL]
        have HPE := Lib.hid hpe
        have H10 := Lib.hid h10
        clear hpe h10
        have hput := (put_v (some ⟨wr.heap.size, 0, none⟩) 1 1 _ [s.size] (wr.alloc (.cells #[.int .u64 (s.size : Int)] 26)) (Rd.lit wr 26 [.int .u64 (s.size : Int)]) (by simp) (by omega) (by simp; omega))
        rw [HPE.out] at hput
        have HPUT := Lib.hid hput
        clear hput
        go_wp2_with (first
          | (go_at_call 13; (with_reducible refine HPUT.out.mono ?_); rintro e w2 ⟨v2, rfl, hg2⟩; have hb2 := ((Below.refl wr.heap.size wr).alloc (Nat.le_refl _) (.cells #[.int .u64 (s.size : Int)] 26)).trans (hg2.belowNil.mono (by simp)); obtain ⟨A2, c2, rfl, h21, h22, h23⟩ := own_map hg2.own; have hg3 := HG.out.then_ hb2; have hc2 := cell_keeps (hb1.trans (hg3.belowNil.mono hsz1)) HC0.out; have hsz2 := hg3.grown.size; have HG3 := Lib.hid hg3; have H22 := Lib.hid h22; clear hg3 h22 h23 hg2 hb2)
          | (at_builtin; refine wpList_appN w2 rfl (.tmp 28) (.tmp 36) _ rfl w1.heap.size 5 i0 (.int .u8 0) 1 Try.underlying23 hi hz0 hz1 hz2 rfl u6 _ rfl HG3.out.own _ A2 _ c2 ((numL s.size).map bv) rfl H22.out (bv_one _) (by have := H10.out; rw [List.length_map]; omega) (by have := H10.out; rw [List.length_map]; omega) hsz2 ?_; intro v4 w4 hg4; rw [← List.map_append] at hg4; have hg5 := HG3.out.trans hg4; have hc4 := cell_keeps (hb1.trans (hg5.belowNil.mono hsz1)) HC0.out; have hsz4 := hg5.grown.size; have HG5 := Lib.hid hg5; clear hg5 hg4)
          | (at_builtin; refine wpList_appS w4 rfl (.tmp 38) (.tmp 42) _ _ rfl w1.heap.size 5 i0 Try.underlying23 Try.underlying9 hi hz0 hz1 hz2 v4 _ rfl HG5.out.own s rfl (by have := H10.out; rw [List.length_map, List.length_append]; omega) hsz4 ?_; intro v6 w6 hg6; rw [← List.map_append] at hg6; have hg7 := Lib.hid (HG5.out.trans hg6); clear hg6))
        go_roundw
        case rel => exact ⟨k + 1, by omega, by go_num, hmore.out (by omega), by rw [HSN.out, textL, ← List.append_assoc]; exact hg7.out⟩
        case measure => simp [intOf]; omega
    · have hkn : l.take k = l := by rw [List.take_of_length_le]; have := hll.out; omega
      rw [hkn] at hg hsm
      have hle : (textsL l).length ≤ 6200 := by
        have := texts_len l hsm.out
        have := hll.out
        omega
      obtain ⟨W, hW⟩ : ∃ W, W = textsL l := ⟨_, rfl⟩
      rw [← hW] at hg hle
      have HW := Lib.hid hW
      have hsz2 := hg.grown.size
      obtain ⟨A2, c2, rfl, h21, h22, h23⟩ := own_map hg.own
      have H22 := Lib.hid h22
      have HG := Lib.hid hg
      clear hkn hg hW h22 h23
      have hw : IntKind.u64.wrap (W.length : Int) = (W.length : Int) := by rw [IntKind.wrap_u64]; omega
      obtain ⟨x, hx⟩ : ∃ x, x = mn + W.length + 1 := ⟨_, rfl⟩
      have hx1 : (mn : Int) + (W.length : Int) + 1 = (x : Int) := by omega
      have hx64 := Lib.hid (show x < 18446744073709551616 by omega)
      have h10 := Lib.hid (numL_ten hx64.out)
      obtain ⟨L, hL⟩ : ∃ L, L = numL x ++ W := ⟨_, rfl⟩
      have hsh := short W x hx64.out (by omega)
      rw [← hL] at hsh
      have HSH := Lib.hid hsh
      have HLL := Lib.hid hL
      have hLl : L.length ≤ 7000 := by rw [hL, List.length_append]; have := h10.out; omega
      clear hsh hL
      have hpe : putL [x] = numL x := by simp [putL]
      have hput := put_v (some ⟨wr.heap.size, 0, none⟩) 1 1 _ [x] (wr.alloc (.cells #[.int .u64 (x : Int)] 26)) (Rd.lit wr 26 [.int .u64 (x : Int)]) (by simp) (by omega) (by simpa using hx64.out)
      have hsa : (wr.alloc (.cells #[.int .u64 (x : Int)] 26)).heap.size = wr.heap.size + 1 := by simp
      rw [hpe, hsa] at hput
      have HPUT := Lib.hid hput
      have hbA := Lib.hid ((Below.refl wr.heap.size wr).alloc (Nat.le_refl _) (.cells #[.int .u64 (x : Int)] 26))
      clear hpe hput hx hsa
      go_wp2_with (first
        | (go_at_call 13; (with_reducible refine HPUT.out.mono ?_); rintro e w3 ⟨v3, rfl, hg3⟩; have hsz3 := hg3.grown.size; have hb3 := hbA.out.trans (hg3.belowNil.mono (by simp)); have HB3 := Lib.hid hb3; have HG3 := Lib.hid hg3; clear hg3 hb3)
        | (at_builtin; refine wpList_appN w3 rfl (.tmp 53) (.tmp 54) _ rfl (wr.heap.size + 1) 5 i0 (.int .u8 0) 1 Try.underlying23 hi hz0 hz1 hz2 rfl v3 _ rfl HG3.out.own _ A2 W.length c2 (W.map bv) rfl (H22.out.below HB3.out) (bv_one _) (by have := h10.out; rw [List.length_map]; omega) (by have := h10.out; rw [List.length_map]; omega) (by simpa using hsz3) ?_; intro v4 w4 hg4; rw [← List.map_append, ← HLL.out] at hg4; have hb4 := HB3.out.trans ((hg4.below HG3.out.own (by simpa using hsz3)).mono (by omega)); have HB4 := Lib.hid hb4; obtain ⟨A4, c4, rfl, h41, h42, h43⟩ := own_map hg4.own; have H42 := Lib.hid h42; clear hg4 hb4 h42 h43)
        | (go_at_call 17; (with_reducible refine (open_v _ _ _ _ L w4 H42.out (by omega)).mono ?_); rintro e w5 ⟨g, rfl, hr5, hb5, hgg⟩; have HR5 := Lib.hid hr5; have HB5 := Lib.hid (HB4.out.trans (hb5.mono HB4.out.size)); have hgr : wr.heap.size ≤ g := (by have := HB4.out.size; omega); clear hr5 hb5))
      have hcW : ∀ V : World, Below wr.heap.size wr V → (convert 23 9 (.slice A2 W.length c2)).run Try.prog V = .ok (.string (mkS W)) V := fun V hV =>
        run_str_of (P := Try.prog) (H22.out.below hV) 23 9 5 Try.underlying23 Try.underlying5 Try.underlying9 c2
      have hc1 := hcW w5.drew HB5.out.drew
      have htx : Calls Try.prog 26 #[.slice A0 n0 c0] w5.drew fun e w' => ∃ A c, e = .returned (.slice A W.length c) ∧ Below wr.heap.size wr w' ∧ Rdr w' w5.heap.size g L 0 ∧ (convert 23 9 (.slice A W.length c)).run Try.prog w' = .ok (.string (mkS W)) w' := by
        have hbw : Below w.heap.size w w5.drew := hbr.out.trans (HB5.out.drew.mono hbr.out.size)
        refine (texts_v A0 n0 c0 _ l w5.drew (HL.out.below hbw) hbw.size (by omega) (by rw [← HW.out]; omega)).mono ?_
        rintro e w6 ⟨v6, rfl, hg6⟩
        rw [← HW.out] at hg6
        obtain ⟨A6, c6, rfl, h61, h62, h63⟩ := own_map hg6.own
        have hr5 : Rdr w5.drew w5.heap.size g L 0 := HR5.out
        exact ⟨A6, c6, rfl, HB5.out.drew.trans (hg6.belowNil.mono HB5.out.size), hr5.below hg6.belowNil, run_str_of (P := Try.prog) h62 23 9 5 Try.underlying23 Try.underlying5 Try.underlying9 c6⟩
      have hte : (mkS []).toList = [] := mkS_toList []
      have HTX := Lib.hid htx
      have HCW := Lib.hid hcW
      clear htx hcW
      go_region_held (fun w' => (convert 23 9 (.slice A2 W.length c2)).run Try.prog w' = .ok (.string (mkS W)) w') (first | exact hc1 | exact hc6 | exact hc7 | assumption)
        (first
          | (go_at_call 26; (with_reducible refine HTX.out.mono ?_); rintro e w6 ⟨A6, c6, rfl, hb6, hr6, hcv6⟩; have hc6 := HCW.out w6 hb6; have HB6 := Lib.hid hb6; have HR6 := Lib.hid hr6; clear hb6 hr6)
          | (go_at_call 22; (with_reducible refine (text_v w6 _ g L 0 HR6.out).mono ?_); rw [HSH.out]; rintro e w7 ⟨rfl, hr7, hg7⟩; have hb7 := HB6.out.trans (below_of_grown hg7 HB6.out.size (fun k hk => by injection hk with hk; omega)); have hc7 := HCW.out w7 hb7; have HB7 := Lib.hid hb7; have HR7 := Lib.hid hr7; have HE7 : Hid (w7.cell? ⟨g, 1, none⟩ = some (.int .i64 10)) := (by obtain ⟨A, n, c, h1, _⟩ := hr7; exact (cell_row h1 1).1); clear hb7 hr7 hg7)
          | (go_at_call 24; (with_reducible refine (err_v w7 g 10 HE7.out).mono ?_); rintro e w' ⟨rfl, rfl⟩)
          | (go_at_call 23; (with_reducible refine (left_v w7 _ g W 10 HR7.out).mono ?_); rintro e w' ⟨rfl, rfl⟩))
      all_goals go_wp2
      all_goals go_ret
      all_goals exact ⟨rfl, hbr.out.trans (HB7.out.mono hbr.out.size)⟩
end varintRows
end Go.Proofs.Ytnffeeipnabdoaa
