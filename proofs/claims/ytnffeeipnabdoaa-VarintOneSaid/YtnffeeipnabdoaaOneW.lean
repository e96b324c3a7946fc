/- The walk of VarintOne: whatever the bytes are, the call returns true. -/
import Derived.Test.YtnffeeipnabdoaaAwake
import Derived.Test.YtnffeeipnabdoaaArgs
import Derived.Deep.RegionHeld
import Derived.Deep.DrawnRows
namespace Go.Proofs.Ytnffeeipnabdoaa
namespace varintOne
open Go.RowKit
attribute [local go_sem ↓] Go.wp_at_zero Go.wp_at_succ
theorem again (bs more : List UInt8) (x y : Nat) (h : takeM bs = (x, y, 0)) : 1 ≤ y ∧ y ≤ 10 ∧ y ≤ bs.length ∧ x < 18446744073709551616 ∧ takeM (bs.take y ++ more) = (x, y, 0) ∧ putL [x] = bs.take y := by
  have h1 := takeM_cases bs
  have h2 := numL_takeM (b := bs) (by rw [h])
  rw [h] at h1 h2
  rcases h1 with h1 | h1
  · have hy : y = heads bs + 1 := h1.2.1
    have hx : x < 18446744073709551616 := h1.2.2.2.2.2.1
    have h2' : numL x = bs.take y := h2
    have hl : (numL x).length = y := by rw [h2', List.length_take]; omega
    refine ⟨by omega, by omega, by omega, hx, ?_, ?_⟩
    · rw [← h2', takeM_numL hx, hl]
    · rw [← h2']; simp [putL]
  · simp at h1
set_option maxRecDepth 100000 in
set_option maxHeartbeats 1000000 in
theorem walk (w : World) (A0 : Option Addr) (n0 c0 : Nat) (bs : List UInt8) (hb : Rd w w.heap.size A0 n0 (bs.map bv) ∧ n0 ≤ c0 ∧ c0 ≤ maxLen)
    (A1 : Option Addr) (n1 c1 : Nat) (more : List UInt8) (hm : Rd w w.heap.size A1 n1 (more.map bv) ∧ n1 ≤ c1 ∧ c1 ≤ maxLen) :
    Calls Try.prog 7 #[.slice A0 n0 c0, .slice A1 n1 c1] w fun e w' => e = .returned (.bool true) ∧ Below w.heap.size w w' := by
  obtain ⟨h5, h6, h7⟩ := hb
  obtain ⟨h8, h9, h10⟩ := hm
  unfold maxLen at h7 h10
  have HB := Lib.hid h5
  have HM := Lib.hid h8
  have hbl := Lib.hid h5.len
  have hml := Lib.hid h8.len
  clear h5 h8
  by_cases hn0 : 100 < n0
  · go_enter Try.func7, Try.ntmps7
    go_wp2_with (go_at_call 9; (with_reducible refine (awake_v _).mono ?_); rintro e w1 ⟨rfl, hb1⟩)
    go_ret
    exact ⟨rfl, hb1⟩
  by_cases hn1 : 100 < n1
  · go_enter Try.func7, Try.ntmps7
    go_wp2_with (go_at_call 9; (with_reducible refine (awake_v _).mono ?_); rintro e w1 ⟨rfl, hb1⟩)
    go_ret
    exact ⟨rfl, hb1⟩
  obtain ⟨x, y, z, ht⟩ : ∃ x y z, takeM bs = (x, y, z) := ⟨_, _, _, rfl⟩
  by_cases hz : z = 0
  · subst hz
    obtain ⟨hy1, hy2, hy3, hx, hag, hpu⟩ := again bs more x y ht
    have hyn : y ≤ n0 := by have := hbl.out; omega
    have HT := Lib.hid ht
    have HX := Lib.hid hx
    have HAG := Lib.hid hag
    have HPU := Lib.hid hpu
    obtain ⟨i0, hi, hz0, hz1, hz2⟩ := info_parts info_u8
    have hcut := HB.out.take_ hyn
    rw [← List.map_take] at hcut
    have HCUT := Lib.hid hcut
    obtain ⟨L, hL⟩ : ∃ L, L = bs.take y ++ more := ⟨_, rfl⟩
    have hLl : L.length ≤ 200 := by have := hbl.out; have := hml.out; rw [hL]; simp; omega
    have hLs : (bs.take y).length + more.length ≤ 200 := by have := hbl.out; have := hml.out; simp; omega
    rw [← hL] at HAG
    have HLL := Lib.hid hL
    have HLS := Lib.hid hLs
    clear ht hx hag hpu hcut hy3 hL hLs
    go_enter Try.func7, Try.ntmps7
    go_wp2_with (first
      | (go_at_call 9; (with_reducible refine (awake_v _).mono ?_); rintro e w1 ⟨rfl, hb1⟩; have hsz1 := hb1.size; have HB1 := Lib.hid hb1; clear hb1)
      | (go_at_call 11; (with_reducible refine (take_v _ _ _ _ bs w1 (HB.out.below HB1.out) (by omega)).mono ?_); rintro e w' ⟨rfl, rfl⟩; rw [HT.out])
      | (at_builtin; refine wpList_appN w1 rfl (.tmp 38) (.tmp 41) _ rfl w1.heap.size 5 i0 (.int .u8 0) 1 Try.underlying23 hi hz0 hz1 hz2 rfl (.slice none 0 0) [] rfl (World.ownsRow_nil w1 _ _ 1) _ A0 y c0 ((bs.take y).map bv) rfl (HCUT.out.below HB1.out) (bv_one _) (by simp; omega) (by simp; omega) (Nat.le_refl _) ?_; intro v2 w2 hg2; rw [List.nil_append] at hg2; have hsz2 := hg2.grown.size; have HB2 := Lib.hid (HB1.out.trans (hg2.belowNil.mono hsz1)); have HG2 := Lib.hid hg2; clear hg2)
      | (at_builtin; refine wpList_appN w2 rfl (.tmp 43) (.tmp 44) _ rfl w1.heap.size 5 i0 (.int .u8 0) 1 Try.underlying23 hi hz0 hz1 hz2 rfl v2 _ rfl HG2.out.own _ A1 n1 c1 (more.map bv) rfl (HM.out.below HB2.out) (bv_one _) (by have := HLS.out; have := hml.out; rw [List.length_map]; omega) (by have := HLS.out; have := hml.out; rw [List.length_map]; omega) hsz2 ?_; intro v3 w3 hg3; rw [← List.map_append, ← HLL.out] at hg3; have HB3 := Lib.hid (HB2.out.trans ((hg3.below HG2.out.own hsz2).mono hsz1)); obtain ⟨A3, c3, rfl, h31, h32, h33⟩ := own_map hg3.own; have H32 := Lib.hid h32; have hsz3 := hg3.grown.size; clear h32 h33 hg3)
      | (go_at_call 11; (with_reducible refine (take_v _ _ _ _ L w3 H32.out (by omega)).mono ?_); rintro e w' ⟨rfl, rfl⟩; rw [HAG.out]))
    have hcA : ∀ W : World, Below w.heap.size w W → (convert 23 9 (.slice A0 y c0)).run Try.prog W = .ok (.string (mkS (bs.take y))) W := fun W hW =>
      run_str_of (P := Try.prog) (HCUT.out.below hW) 23 9 5 Try.underlying23 Try.underlying5 Try.underlying9 c0
    have hsw := HB3.out.size
    have hc1 := hcA w3.drew HB3.out.drew
    have hc2 := fun o => hcA (w3.alloc o).drew (HB3.out.alloc hsw o).drew
    have HCA := Lib.hid hcA
    have hput : ∀ (N : Nat), N = w3.heap.size → Calls Try.prog 13 #[.slice (some ⟨N, 0, none⟩) 1 1] (w3.alloc (.cells #[.int .u64 (x : Int)] 26)).drew fun e w' => ∃ A c, e = .returned (.slice A y c) ∧ Below w.heap.size w w' ∧ (convert 23 9 (.slice A y c)).run Try.prog w' = .ok (.string (mkS (bs.take y))) w' := by
      rintro N rfl
      refine (put_v _ _ _ _ [x] (w3.alloc (.cells #[.int .u64 (x : Int)] 26)).drew (Rd.lit w3 26 [.int .u64 (x : Int)]) (by simp) (by simp) (by simpa using HX.out)).mono ?_
      rintro e w5 ⟨v5, rfl, hg5⟩
      rw [HPU.out] at hg5
      obtain ⟨A5, c5, rfl, h51, h52, h53⟩ := own_map hg5.own
      have hly : (bs.take y).length = y := by have := hbl.out; simp; omega
      rw [hly] at h52 ⊢
      exact ⟨A5, c5, rfl, (HB3.out.alloc hsw _).drew.trans (hg5.belowNil.mono (by simp; omega)), run_str_of (P := Try.prog) h52 23 9 5 Try.underlying23 Try.underlying5 Try.underlying9 c5⟩
    have HPT := Lib.hid hput
    clear hcA hput
    have hy1' : (1 : Int) ≤ (y : Int) := by omega
    have hy2' : (y : Int) ≤ 10 := by omega
    have hb1 : (y : Int) ≤ (n0 : Int) := by omega
    have hb2 : (n0 : Int) ≤ (c0 : Int) := by omega
    have hb3 : (0 : Int) ≤ (y : Int) := by omega
    have hb4 : (y : Int) ≤ (c0 : Int) := by omega
    go_region_held (fun w' => (convert 23 9 (.slice A0 y c0)).run Try.prog w' = .ok (.string (mkS (bs.take y))) w') (first | exact hc1 | exact hc2 _ | exact hcv6)
      (first | (go_at_call 13; (with_reducible refine (HPT.out _ rfl).mono ?_); rintro e w5 ⟨A5, c5, rfl, hb5, hcv5⟩; have hcv6 := HCA.out w5 hb5; have HB5 := Lib.hid hb5; clear hb5))
    all_goals go_wp2
    all_goals go_ret
    all_goals exact ⟨rfl, HB5.out⟩
  · have HT := Lib.hid ht
    have hxy : x = 0 ∧ y = 0 := by
      have := takeM_cases bs; rw [ht] at this
      rcases this with h | h
      · exact absurd h.1 hz
      · exact ⟨h.2.1, h.2.2⟩
    obtain ⟨rfl, rfl⟩ := hxy
    have hz' : ((z : Int) != 0) = true := by simp; omega
    clear ht
    go_enter Try.func7, Try.ntmps7
    go_wp2_with (first
      | (go_at_call 9; (with_reducible refine (awake_v _).mono ?_); rintro e w1 ⟨rfl, hb1⟩; have hsz1 := hb1.size; have HB1 := Lib.hid hb1; clear hb1)
      | (go_at_call 11; (with_reducible refine (take_v _ _ _ _ bs w1 (HB.out.below HB1.out) (by omega)).mono ?_); rintro e w' ⟨rfl, rfl⟩; rw [HT.out]))
    go_ret
    exact ⟨rfl, HB1.out⟩
end varintOne
end Go.Proofs.Ytnffeeipnabdoaa
