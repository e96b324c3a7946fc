/- The walk of TapeLong: whatever the number and the row are, the call returns true. -/
import Derived.Test.YtemokpnepnmmkaaMx
namespace Go.Proofs.Ytemokpnepnmmkaa
namespace tapeLong
open Go.RowKit
set_option maxRecDepth 100000 in
theorem walkX (w : World) (lg : Int) (A1 : Option Addr) (n1 c1 : Nat) (hx : 300 < n1) :
    Calls Try.prog 7 #[.int .u8 lg, .slice A1 n1 c1] w fun e w' => e = .returned (.bool true) ∧ Below w.heap.size w w' := by
  go_enter Try.func7, Try.ntmps7
  go_wp2_with (go_at_call 8; (with_reducible refine (tapeAwake_v _).mono ?_); rintro e w1 ⟨rfl, hb1⟩; have HB1 := Lib.hid hb1; clear hb1)
  go_ret
  exact ⟨rfl, HB1.out⟩
theorem made_zero (n : Nat) : (madeCells (Value.int .u8 0).cells (n * 1)).toList = (List.replicate n (0 : UInt8)).map bv := by
  apply List.ext_getElem?
  intro j
  by_cases hj : j < n
  · simp [madeCells, hj, bv, Value.cells, Nat.mod_one]
  · simp [madeCells, hj]
/-- make([]byte, n), and the text of it. -/
theorem make_str (w : World) (n : Nat) (hn : n ≤ 5000) : ∃ w', (Instr.makeSlice 28 (.int .i64 (n : Int)) (.int .i64 (n : Int))).run Try.prog w = .ok (.slice (some ⟨w.heap.size, 0, none⟩) n n) w' ∧ Later w w' ∧ (convert 28 9 (.slice (some ⟨w.heap.size, 0, none⟩) n n)).run Try.prog w' = .ok (.string (mkS (List.replicate n 0))) w' := by
  obtain ⟨i0, hi, hz0, hz1, hz2⟩ := info_parts info_u8
  obtain ⟨w', h1, h2, h3⟩ := run_make_full (P := Try.prog) w w.heap.size 28 5 i0 (.int .u8 0) 1 Try.underlying28 hi hz0 hz1 .i64 .i64 n (by rw [hz2]; omega) (by unfold maxLen; omega) (Nat.le_refl _)
  rw [made_zero] at h2
  obtain ⟨A, c, e, _, hr, _⟩ := own_slice h2
  cases e
  exact ⟨w', h1, Below.grown (Below.refl _ w) h3 (Nat.le_refl _) (fun k e => by cases e), run_str_of hr 28 9 5 Try.underlying28 Try.underlying5 Try.underlying9 n⟩
set_option maxRecDepth 100000 in
set_option maxHeartbeats 2000000 in
theorem walkM (w : World) (lg r : Nat) (hlg : lg < 256) (hr : lg % 12 = r) (A1 : Option Addr) (n1 c1 : Nat) (bs : List UInt8) (h : Rd w w.heap.size A1 n1 (bs.map bv)) (hc : n1 ≤ c1) (hcm : c1 ≤ maxLen) (hx : n1 ≤ 300) :
    Calls Try.prog 7 #[.int .u8 (lg : Int), .slice A1 n1 c1] w fun e w' => e = .returned (.bool true) ∧ Below w.heap.size w w' := by
  have hw : IntKind.i64.wrap (lg : Int) = (lg : Int) := by rw [IntKind.wrap_i64]; omega
  have hmod : (lg : Int) % 12 = (r : Int) := by omega
  have hr12 : r < 12 := by omega
  obtain ⟨n, hn⟩ : ∃ n, n = 4090 + r := ⟨_, rfl⟩
  have hsum : (4090 : Int) + (r : Int) = (n : Int) := by omega
  have hnw : IntKind.i64.wrap (n : Int) = (n : Int) := by rw [IntKind.wrap_i64]; omega
  have hx3 : ¬ 300 < n1 := by omega
  have hnb : n ≤ 5000 := by omega
  have HR := Lib.hid (And.intro h (And.intro hc hcm))
  obtain ⟨Z, hZ⟩ : ∃ Z, Z = List.replicate n (0 : UInt8) := ⟨_, rfl⟩
  have hZl : Z.length = n := by rw [hZ, List.length_replicate]
  have hmk := fun w => make_str w n hnb
  rw [← hZ] at hmk
  have HMK := Lib.hid hmk
  have hbl := h.len
  clear hn hr12 hr hlg hZ hmk
  by_cases hlong : 4096 < n
  · have CN := Lib.hid (fun W => wnew_long Z W (by omega))
    clear h hc hcm hx hnb hZl hbl
    go_enter Try.func7, Try.ntmps7
    go_wp2_with (first
      | (go_at_call 8; (with_reducible refine (tapeAwake_v _).mono ?_); rintro e w1 ⟨rfl, hb1⟩; have HB1 := Lib.hid hb1; obtain ⟨w2, hmk2, hl2, hcv2⟩ := HMK.out w1; have L2 := Lib.hid (Later.trans hb1 hl2); clear hb1 hl2)
      | (go_at_call 10; (with_reducible refine (CN.out _).mono ?_); rintro e w3 ⟨rfl, rfl⟩))
    go_ret
    exact ⟨rfl, L2.out⟩
  obtain ⟨L, hL⟩ : ∃ L, L = frameL (markL ++ Z) := ⟨_, rfl⟩
  have hLl : L.length ≤ 140000 ∧ 0 < L.length := by
    have h1 := frameL_len (markL ++ Z)
    have h2 : (markL ++ Z).length = 14 + Z.length := by rw [List.length_append]; rfl
    have h3 := numL_ten (show (markL ++ Z).length < 18446744073709551616 by omega)
    rw [hL]; omega
  have hta := tape_all Z [] (by omega) (by simp)
  have hLt : tapeL Z [] = L := by rw [hL]; simp [tapeL, rowsT]
  rw [hLt] at hta
  have cn := fun W => wnew_v Z W (by omega)
  rw [← hL] at cn
  have cb := fun B g v W hw => wbytes_k (B := B) (g := g) (v := v) (L := L) W hw hLl.2 (by omega)
  have cr := fun A c W hr hc hcm => readT_k hta A L.length c W hr (by omega) hc hcm
  obtain ⟨m, hm⟩ : ∃ m, L.length = m := ⟨_, rfl⟩
  rw [hm] at cb cr
  have PK := Lib.hid (And.intro cn (And.intro cb cr))
  by_cases hmark : bs.take 14 = markL
  · have h14 := take_mark hmark
    rw [hbl] at h14
    have hi14 : (14 : Int) ≤ (n1 : Int) := by omega
    have hi14c : (14 : Int) ≤ (c1 : Int) := by omega
    have hcv := fun W (hW : Later w W) => run_str_of (P := Try.prog) (by have h1 := (rd_later h hW).take_ h14; rw [← List.map_take, hmark] at h1; exact h1) 28 9 5 Try.underlying28 Try.underlying5 Try.underlying9 c1
    have HCV := Lib.hid hcv
    have hml : (mkS markL).toList = [107, 105, 110, 101, 116, 111, 115, 99, 111, 112, 101, 32, 49, 10] := by rw [ByteArray.toList_eq]; exact mkS_list _
    clear h hc hcm hx hnb hZl hbl hmark hcv cn cb cr hta hLl hL hLt hm
    go_enter Try.func7, Try.ntmps7
    go_wp2_with (first
      | (go_at_call 8; (with_reducible refine (tapeAwake_v _).mono ?_); rintro e w1 ⟨rfl, hb1⟩; obtain ⟨w2, hmk2, hl2, hcv2⟩ := HMK.out w1; have L2 := Lib.hid (Later.trans hb1 hl2); clear hb1 hl2)
      | (go_at_call 10; (with_reducible refine (PK.out.1 _).mono ?_); rintro e w3 ⟨g, v, rfl, hw3, hl3⟩; have W3 := Lib.hid hw3; have L3 := Lib.hid (Later.trans L2.out hl3); clear hw3 hl3)
      | (go_at_call 12; (with_reducible refine (PK.out.2.1 _ _ _ w3 W3.out).mono ?_); rintro e w4 ⟨A4, c4, rfl, hm4, hl4, hr4, hc4, hx4⟩; have W4 := Lib.hid (W3.out.later hl4); have L4 := Lib.hid (Later.trans L3.out hl4); have R4 := Lib.hid (And.intro hr4 (And.intro hc4 hx4)); clear hm4 hl4 hr4 hc4 hx4)
      | (go_at_call 18; (with_reducible refine (PK.out.2.2 _ _ w4 R4.out.1 R4.out.2.1 R4.out.2.2).mono ?_); rintro e w5 ⟨A5, c5, rfl, hl5, hr5, hc5⟩; have HX5 := Lib.hid (tape_cells w5 (.string (mkS Z)) (.slice A5 0 c5)); have L5 := Lib.hid (Later.trans L4.out (Later.trans hl5 (Later.alloc w5 (.cells #[.string (mkS Z), .slice A5 0 c5] 41)))); have W5 := Lib.hid (W4.out.later (Later.trans hl5 (Later.alloc w5 (.cells #[.string (mkS Z), .slice A5 0 c5] 41)))); clear hl5 hr5 hc5)
      | (go_at_call 12; (with_reducible refine (PK.out.2.1 _ _ _ _ W5.out).mono ?_); rintro e w6 ⟨A6, c6, rfl, hm6, hl6, hr6, hc6, hx6⟩; obtain ⟨x0, x1⟩ := HX5.out w6 hl6; have L6 := Lib.hid (Later.trans L5.out hl6); have hcv6 := HCV.out w6 L6.out; clear hm6 hl6 hr6 hc6 hx6))
    go_ret
    exact ⟨rfl, L6.out⟩
  have hnh : headB bs = false := decide_eq_false fun h => hmark h.1
  have hbs : bs.length ≤ 300 := by omega
  have hta2 := tape_nohead bs (by omega) hnh
  obtain ⟨F, hF⟩ : ∃ F, F = frameL bs := ⟨_, rfl⟩
  have hFl : F.length ≤ 400 := by rw [hF, frameL_len]; have := numL_ten (show bs.length < 18446744073709551616 by omega); omega
  have cput : ∀ W, Later w W → Calls Try.prog 17 #[.slice (some ⟨W.heap.size, 0, none⟩) 1 1] (W.alloc (.cells #[.slice A1 n1 c1] 28)) fun e W' => ∃ A c, e = .returned (.slice A F.length c) ∧ Later W W' ∧ Rd W' W'.heap.size A F.length (F.map bv) ∧ F.length ≤ c ∧ c ≤ maxLen := fun W hW => by
    have hrl := RdL.one (c := c1) (rd_later h hW) (Nat.le_refl _) (by unfold maxLen; omega) 28
    have h1 := putF_v (some ⟨W.heap.size, 0, none⟩) 1 1 _ [bs] _ hrl (by simp) (by omega) (by simp; omega) (by simp; rw [← hF]; omega)
    rw [show ([bs] : List (List UInt8)).flatMap frameL = F by rw [hF]; simp] at h1
    refine h1.mono ?_
    rintro e W' ⟨v', rfl, hg⟩
    obtain ⟨A, c, rfl, k1, k2, k3, _⟩ := own_mapC hg.own
    exact ⟨A, c, rfl, Later.trans (Later.alloc W _) hg.belowNil, k3, k1, k2⟩
  rw [← hF] at hta2
  have cr2 : ∀ A c W, Rd W W.heap.size A F.length (F.map bv) → F.length ≤ c → c ≤ maxLen → Calls Try.prog 18 #[.slice A F.length c] W fun r w' => ∃ A' c', r = .returned (.tuple #[.agg #[.string ⟨#[]⟩, .slice A' 0 c'], .int .i64 0, .int .i64 11]) ∧ Later W w' ∧ RdA w' w'.heap.size A' 0 [] ∧ 0 ≤ c' := fun A c W hr hc hcm => readT_k hta2 A F.length c W hr (by omega) hc hcm
  obtain ⟨fl, hfl⟩ : ∃ fl, F.length = fl := ⟨_, rfl⟩
  rw [hfl] at cput cr2
  have CPUT := Lib.hid cput
  have CR2 := Lib.hid cr2
  by_cases h14 : 14 ≤ n1
  · have hi14 : (14 : Int) ≤ (n1 : Int) := by omega
    have hi14c : (14 : Int) ≤ (c1 : Int) := by omega
    have hcv := fun W (hW : Later w W) => run_str_of (P := Try.prog) (by have h1 := (rd_later h hW).take_ h14; rw [← List.map_take] at h1; exact h1) 28 9 5 Try.underlying28 Try.underlying5 Try.underlying9 c1
    have HCV := Lib.hid hcv
    have hml : ((mkS (bs.take 14)).toList == [107, 105, 110, 101, 116, 111, 115, 99, 111, 112, 101, 32, 49, 10]) = false := by
      have h1 := mkS_ne hmark
      rwa [show (mkS markL).toList = [107, 105, 110, 101, 116, 111, 115, 99, 111, 112, 101, 32, 49, 10] by rw [ByteArray.toList_eq]; exact mkS_list _] at h1
    clear h hc hcm hx hnb hZl hbl hmark hcv cn cb cr hta hLl hL hLt hm cput cr2 hta2 hnh hbs hF hFl hfl
    go_enter Try.func7, Try.ntmps7
    go_wp2_with (first
      | (go_at_call 8; (with_reducible refine (tapeAwake_v _).mono ?_); rintro e w1 ⟨rfl, hb1⟩; obtain ⟨w2, hmk2, hl2, hcv2⟩ := HMK.out w1; have L2 := Lib.hid (Later.trans hb1 hl2); clear hb1 hl2)
      | (go_at_call 10; (with_reducible refine (PK.out.1 _).mono ?_); rintro e w3 ⟨g, v, rfl, hw3, hl3⟩; have W3 := Lib.hid hw3; have L3 := Lib.hid (Later.trans L2.out hl3); clear hw3 hl3)
      | (go_at_call 12; (with_reducible refine (PK.out.2.1 _ _ _ w3 W3.out).mono ?_); rintro e w4 ⟨A4, c4, rfl, hm4, hl4, hr4, hc4, hx4⟩; have W4 := Lib.hid (W3.out.later hl4); have L4 := Lib.hid (Later.trans L3.out hl4); have R4 := Lib.hid (And.intro hr4 (And.intro hc4 hx4)); clear hm4 hl4 hr4 hc4 hx4)
      | (go_at_call 18; (with_reducible refine (PK.out.2.2 _ _ w4 R4.out.1 R4.out.2.1 R4.out.2.2).mono ?_); rintro e w5 ⟨A5, c5, rfl, hl5, hr5, hc5⟩; have HX5 := Lib.hid (tape_cells w5 (.string (mkS Z)) (.slice A5 0 c5)); have L5 := Lib.hid (Later.trans L4.out (Later.trans hl5 (Later.alloc w5 (.cells #[.string (mkS Z), .slice A5 0 c5] 41)))); have W5 := Lib.hid (W4.out.later (Later.trans hl5 (Later.alloc w5 (.cells #[.string (mkS Z), .slice A5 0 c5] 41)))); clear hl5 hr5 hc5)
      | (go_at_call 12; (with_reducible refine (PK.out.2.1 _ _ _ _ W5.out).mono ?_); rintro e w6 ⟨A6, c6, rfl, hm6, hl6, hr6, hc6, hx6⟩; obtain ⟨x0, x1⟩ := HX5.out w6 hl6; have L6 := Lib.hid (Later.trans L5.out hl6); have hcv6 := HCV.out w6 L6.out; clear hm6 hl6 hr6 hc6 hx6)
      | (go_at_call 17; (with_reducible refine (CPUT.out _ L6.out).mono ?_); rintro e w7 ⟨A7, c7, rfl, hl7, hr7, hc7, hx7⟩; have L7 := Lib.hid (Later.trans L6.out hl7); have R7 := Lib.hid (And.intro hr7 (And.intro hc7 hx7)); clear hl7 hr7 hc7 hx7)
      | (go_at_call 18; (with_reducible refine (CR2.out _ _ w7 R7.out.1 R7.out.2.1 R7.out.2.2).mono ?_); rintro e w8 ⟨A8, c8, rfl, hl8, hr8, hc8⟩; have L8 := Lib.hid (Later.trans L7.out (Later.trans hl8 (Later.alloc w8 (.cells #[.string ⟨#[]⟩, .slice A8 0 c8] 41)))); clear hl8 hr8 hc8))
    go_ret
    exact ⟨rfl, L8.out⟩
  · have hi14 : ¬ (14 : Int) ≤ (n1 : Int) := by omega
    clear h hc hcm hx hnb hZl hbl hmark cn cb cr hta hLl hL hLt hm cput cr2 hta2 hnh hbs hF hFl hfl
    go_enter Try.func7, Try.ntmps7
    go_wp2_with (first
      | (go_at_call 8; (with_reducible refine (tapeAwake_v _).mono ?_); rintro e w1 ⟨rfl, hb1⟩; obtain ⟨w2, hmk2, hl2, hcv2⟩ := HMK.out w1; have L2 := Lib.hid (Later.trans hb1 hl2); clear hb1 hl2)
      | (go_at_call 10; (with_reducible refine (PK.out.1 _).mono ?_); rintro e w3 ⟨g, v, rfl, hw3, hl3⟩; have W3 := Lib.hid hw3; have L3 := Lib.hid (Later.trans L2.out hl3); clear hw3 hl3)
      | (go_at_call 12; (with_reducible refine (PK.out.2.1 _ _ _ w3 W3.out).mono ?_); rintro e w4 ⟨A4, c4, rfl, hm4, hl4, hr4, hc4, hx4⟩; have W4 := Lib.hid (W3.out.later hl4); have L4 := Lib.hid (Later.trans L3.out hl4); have R4 := Lib.hid (And.intro hr4 (And.intro hc4 hx4)); clear hm4 hl4 hr4 hc4 hx4)
      | (go_at_call 18; (with_reducible refine (PK.out.2.2 _ _ w4 R4.out.1 R4.out.2.1 R4.out.2.2).mono ?_); rintro e w5 ⟨A5, c5, rfl, hl5, hr5, hc5⟩; have HX5 := Lib.hid (tape_cells w5 (.string (mkS Z)) (.slice A5 0 c5)); have L5 := Lib.hid (Later.trans L4.out (Later.trans hl5 (Later.alloc w5 (.cells #[.string (mkS Z), .slice A5 0 c5] 41)))); have W5 := Lib.hid (W4.out.later (Later.trans hl5 (Later.alloc w5 (.cells #[.string (mkS Z), .slice A5 0 c5] 41)))); clear hl5 hr5 hc5)
      | (go_at_call 12; (with_reducible refine (PK.out.2.1 _ _ _ _ W5.out).mono ?_); rintro e w6 ⟨A6, c6, rfl, hm6, hl6, hr6, hc6, hx6⟩; obtain ⟨x0, x1⟩ := HX5.out w6 hl6; have L6 := Lib.hid (Later.trans L5.out hl6); clear hm6 hl6 hr6 hc6 hx6)
      | (go_at_call 17; (with_reducible refine (CPUT.out _ L6.out).mono ?_); rintro e w7 ⟨A7, c7, rfl, hl7, hr7, hc7, hx7⟩; have L7 := Lib.hid (Later.trans L6.out hl7); have R7 := Lib.hid (And.intro hr7 (And.intro hc7 hx7)); clear hl7 hr7 hc7 hx7)
      | (go_at_call 18; (with_reducible refine (CR2.out _ _ w7 R7.out.1 R7.out.2.1 R7.out.2.2).mono ?_); rintro e w8 ⟨A8, c8, rfl, hl8, hr8, hc8⟩; have L8 := Lib.hid (Later.trans L7.out (Later.trans hl8 (Later.alloc w8 (.cells #[.string ⟨#[]⟩, .slice A8 0 c8] 41)))); clear hl8 hr8 hc8))
    go_ret
    exact ⟨rfl, L8.out⟩
theorem walk (w : World) (lg : Int) (hlg : (Lit.int .u8 lg).wf = true) (A1 : Option Addr) (n1 c1 : Nat) (bs : List UInt8) (h : Rd w w.heap.size A1 n1 (bs.map bv) ∧ n1 ≤ c1 ∧ c1 ≤ maxLen) :
    Calls Try.prog 7 #[.int .u8 lg, .slice A1 n1 c1] w fun e w' => e = .returned (.bool true) ∧ Below w.heap.size w w' := by
  obtain ⟨hc1, hc2⟩ := bounds_u8 hlg
  obtain ⟨l, rfl⟩ := Int.eq_ofNat_of_zero_le hc1
  by_cases hx : 300 < n1
  · exact walkX w _ A1 n1 c1 hx
  · exact walkM w l (l % 12) (by omega) rfl A1 n1 c1 bs h.1 h.2.1 h.2.2 (by omega)
end tapeLong
end Go.Proofs.Ytemokpnepnmmkaa
