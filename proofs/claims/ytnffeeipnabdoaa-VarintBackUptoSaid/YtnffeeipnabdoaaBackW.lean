/- The walk of VarintBack, where the texts have room: whatever the numbers, the texts and the cut are, the call returns true. -/
import Derived.Test.YtnffeeipnabdoaaAwake
import Derived.Test.YtnffeeipnabdoaaBackM
import Derived.Test.YtnffeeipnabdoaaUpto
import Derived.Deep.RegionWith
import Derived.Deep.RegionHeld3
import Derived.Deep.DrawnRows
namespace Go.Proofs.Ytnffeeipnabdoaa
namespace varintBack
open Go.RowKit
attribute [local go_sem ↓] Go.wp_at_zero Go.wp_at_succ
/-- What a reader that was cut keeps: it has stopped, or what is left of it is cut. -/
def Cut (w wr : World) (B g : Nat) (X : List UInt8) : Prop :=
  ∃ b e, Rdr wr B g b e ∧ Below w.heap.size w wr ∧ w.heap.size ≤ g ∧ (e = 10 ∨ (e = 0 ∧ ∃ m, m < X.length ∧ b = X.take m))
def Whole (w wr : World) (B g : Nat) (X : List UInt8) : Prop := Rdr wr B g X 0 ∧ Below w.heap.size w wr ∧ w.heap.size ≤ g
theorem only_below {w wr w' : World} {g : Nat} (hb : Below w.heap.size w wr) (hg : wr.grownBy w' (some g)) (hw : w.heap.size ≤ g) : Below w.heap.size w w' :=
  hb.grown hg hb.size fun k hk => by injection hk with hk; omega
theorem cut_num {w wr : World} {B g x : Nat} {R : List UInt8} (hx : x < 18446744073709551616) (hC : Cut w wr B g (numL x ++ R)) :
    Calls Try.prog 19 #[.pointer (some ⟨g, 0, none⟩)] wr fun r w' => (∃ y : Int, r = .returned (.int .u64 y)) ∧ Cut w w' B g R := by
  obtain ⟨b, e, hr, hb, hw, hc⟩ := hC
  refine (num_v wr B g b e hr).mono ?_
  rintro r w' ⟨rfl, hr', hg'⟩
  refine ⟨⟨_, rfl⟩, ?_⟩
  rcases hc with rfl | ⟨rfl, m, hm, rfl⟩
  · rw [num_stop] at hr'
    exact ⟨b, 10, hr', only_below hb hg' hw, hw, .inl rfl⟩
  · rcases num_cut hx R hm with ⟨b', h'⟩ | ⟨k, hk, h'⟩
    · rw [h'] at hr'
      exact ⟨b', 10, hr', only_below hb hg' hw, hw, .inl rfl⟩
    · rw [h'] at hr'
      exact ⟨_, 0, hr', only_below hb hg' hw, hw, .inr ⟨rfl, k, hk, rfl⟩⟩
theorem cut_text {w wr : World} {B g : Nat} {s : ByteArray} {R : List UInt8} (hx : s.size < 18446744073709551616) (hC : Cut w wr B g (textL s ++ R)) :
    Calls Try.prog 22 #[.pointer (some ⟨g, 0, none⟩)] wr fun r w' => (∃ y : ByteArray, r = .returned (.string y)) ∧ Cut w w' B g R := by
  obtain ⟨b, e, hr, hb, hw, hc⟩ := hC
  refine (text_v wr B g b e hr).mono ?_
  rintro r w' ⟨rfl, hr', hg'⟩
  refine ⟨⟨_, rfl⟩, ?_⟩
  rcases hc with rfl | ⟨rfl, m, hm, rfl⟩
  · rw [text_stop] at hr'
    exact ⟨b, 10, hr', only_below hb hg' hw, hw, .inl rfl⟩
  · rcases text_cut hx R hm with ⟨t, b', h'⟩ | ⟨t, k, hk, h'⟩
    · rw [h'] at hr'
      exact ⟨b', 10, hr', only_below hb hg' hw, hw, .inl rfl⟩
    · rw [h'] at hr'
      exact ⟨_, 0, hr', only_below hb hg' hw, hw, .inr ⟨rfl, k, hk, rfl⟩⟩
theorem whole_num {w wr : World} {B g x : Nat} {R : List UInt8} (hx : x < 18446744073709551616) (hC : Whole w wr B g (numL x ++ R)) :
    Calls Try.prog 19 #[.pointer (some ⟨g, 0, none⟩)] wr fun r w' => r = .returned (.int .u64 (x : Int)) ∧ Whole w w' B g R ∧ wr.grownBy w' (some g) := by
  obtain ⟨hr, hb, hw⟩ := hC
  have := num_v wr B g _ 0 hr
  rw [num_all hx] at this
  refine this.mono ?_
  rintro r w' ⟨rfl, hr', hg'⟩
  exact ⟨rfl, ⟨hr', only_below hb hg' hw, hw⟩, hg'⟩
theorem whole_text {w wr : World} {B g : Nat} {s : ByteArray} {R : List UInt8} (hx : s.size < 18446744073709551616) (hC : Whole w wr B g (textL s ++ R)) :
    Calls Try.prog 22 #[.pointer (some ⟨g, 0, none⟩)] wr fun r w' => r = .returned (.string s) ∧ Whole w w' B g R ∧ wr.grownBy w' (some g) := by
  obtain ⟨hr, hb, hw⟩ := hC
  have := text_v wr B g _ 0 hr
  rw [text_all hx, mkS_of] at this
  refine this.mono ?_
  rintro r w' ⟨rfl, hr', hg'⟩
  exact ⟨rfl, ⟨hr', only_below hb hg' hw, hw⟩, hg'⟩
theorem rd_only {wr w' : World} {B g n : Nat} {A : Option Addr} {xs : List Value} (h : Rd wr B A n xs) (hg : wr.grownBy w' (some g)) (hB : B ≤ g) : Rd w' B A n xs :=
  ⟨h.1, fun hn => by
    obtain ⟨ad, e, hb, hc⟩ := h.2 hn
    exact ⟨ad, e, hb, fun j u hu => hg.cell (hc j u hu) (fun he => by injection he with he; rw [block_add] at he; omega)⟩⟩
theorem cut_end {w wr : World} {B g : Nat} (hC : Cut w wr B g []) : wr.cell? ⟨g, 1, none⟩ = some (.int .i64 10) ∧ Below w.heap.size w wr := by
  obtain ⟨b, e, hr, hb, hw, hc⟩ := hC
  rcases hc with rfl | ⟨_, m, hm, _⟩
  · obtain ⟨A, n, c, h1, _⟩ := hr
    exact ⟨(cell_row h1 1).1, hb⟩
  · simp at hm
set_option maxRecDepth 100000 in
set_option maxHeartbeats 8000000 in
theorem walk (w : World) (A0 : Option Addr) (n0 c0 : Nat) (l : List Nat) (hl : Rd w w.heap.size A0 n0 (l.map nv) ∧ (∀ x ∈ l, x < 18446744073709551616) ∧ n0 ≤ c0 ∧ c0 ≤ maxLen)
    (A1 : Option Addr) (n1 c1 : Nat) (ts : List ByteArray) (ht : Rd w w.heap.size A1 n1 (ts.map Value.string) ∧ (∀ s ∈ ts, s.size ≤ maxLen) ∧ n1 ≤ c1 ∧ c1 ≤ maxLen ∧ (ts.map ByteArray.size).sum ≤ 1048576)
    (m : Int) (hm : (Lit.int .u16 m).wf = true) :
    Calls Try.prog 6 #[.slice A0 n0 c0, .slice A1 n1 c1, .int .u16 m] w fun e w' => e = .returned (.bool true) ∧ Below w.heap.size w w' := by
  obtain ⟨h1, h2, h3, h4⟩ := hl
  obtain ⟨h5, h6, h7, h8, h9⟩ := ht
  have hmb := bounds_u16 hm
  unfold maxLen at h4 h6 h8
  obtain ⟨mn, rfl⟩ : ∃ mn : Nat, m = (mn : Int) := ⟨m.toNat, by omega⟩
  have HL := Lib.hid h1
  have hll := Lib.hid h1.len_map
  have HX := Lib.hid h2
  have HT := Lib.hid h5
  have htl := Lib.hid h5.len_map
  have HY : Hid (∀ s ∈ ts, s.size < 18446744073709551616) := fun s hs => by have := h6 s hs; omega
  clear hm h1 h2 h5 h6
  obtain ⟨i0, hi, hz0, hz1, hz2⟩ := info_parts info_u8
  by_cases hn0 : 30 < n0
  · go_enter Try.func6, Try.ntmps6
    go_wp2_with (go_at_call 9; (with_reducible refine (awake_v _).mono ?_); rintro e w1 ⟨rfl, hb1⟩)
    go_ret
    exact ⟨rfl, hb1⟩
  by_cases hn1 : 20 < n1
  · go_enter Try.func6, Try.ntmps6
    go_wp2_with (go_at_call 9; (with_reducible refine (awake_v _).mono ?_); rintro e w1 ⟨rfl, hb1⟩)
    go_ret
    exact ⟨rfl, hb1⟩
  have hpl := putL_len l HX.out
  have htl2 := textsL_len ts HY.out
  have htl3 : (textsL ts).length ≤ 1048776 := by have := htl.out; omega
  have hpl3 : (putL l).length ≤ 300 := by have := hll.out; omega
  clear hpl htl2
  obtain ⟨T, hT⟩ : ∃ T, T = textsL ts := ⟨_, rfl⟩
  obtain ⟨Pn, hP⟩ : ∃ P, P = putL l := ⟨_, rfl⟩
  obtain ⟨L, hL⟩ : ∃ L, L = Pn ++ T := ⟨_, rfl⟩
  rw [← hT] at htl3
  rw [← hP] at hpl3
  have hLl : L.length = Pn.length + T.length := by rw [hL, List.length_append]
  have HTT := Lib.hid hT
  have HPP := Lib.hid hP
  have HLL := Lib.hid hL
  have HLEN := Lib.hid hLl
  have hL2 : L.length ≤ 1049076 := by omega
  clear hT hP hL hLl
  by_cases hbig : 4000 < L.length
  · go_enter Try.func6, Try.ntmps6
    go_wp2_with (first
      | (go_at_call 9; (with_reducible refine (awake_v _).mono ?_); rintro e w1 ⟨rfl, hb1⟩; have hsz1 := hb1.size; have HB1 := Lib.hid hb1; clear hb1)
      | (go_at_call 13; (with_reducible refine (put_v _ _ _ _ l w1 (HL.out.below HB1.out) hsz1 (by omega) HX.out).mono ?_); rintro e w2 ⟨v2, rfl, hg2⟩; rw [← HPP.out] at hg2; have hsz2 := hg2.grown.size; have HB2 := Lib.hid (HB1.out.trans (hg2.belowNil.mono hsz1)); have HG2 := Lib.hid hg2; clear hg2)
      | (go_at_call 26; (with_reducible refine (texts_v _ _ _ _ ts w2 (HT.out.below HB2.out) (by omega) (by omega) (by rw [← HTT.out]; omega)).mono ?_); rintro e w3 ⟨v3, rfl, hg3⟩; rw [← HTT.out] at hg3; have hsz3 := hg3.grown.size; have HB3 := Lib.hid (HB2.out.trans (hg3.belowNil.mono (by omega))); obtain ⟨A3, c3, rfl, h31, h32, h33⟩ := own_map hg3.own; have HG3 := Lib.hid (HG2.out.then_ hg3.belowNil); have H32 := Lib.hid h32; clear hg3 h32 h33)
      | (at_builtin; refine wpList_appN w3 rfl (.tmp 28) (.tmp 30) _ rfl w1.heap.size 5 i0 (.int .u8 0) 1 Try.underlying23 hi hz0 hz1 hz2 rfl v2 _ rfl HG3.out.own _ A3 T.length c3 (T.map bv) rfl H32.out (bv_one _) (by rw [List.length_map]; omega) (by rw [List.length_map]; omega) (by omega) ?_; intro v4 w4 hg4; rw [← List.map_append, ← HLL.out] at hg4; have hg5 := HG3.out.trans hg4; have hsz4 := hg5.grown.size; have HB4 := Lib.hid (HB1.out.trans (hg5.belowNil.mono hsz1)); obtain ⟨A4, c4, rfl, h41, h42, h43⟩ := own_map hg5.own; have H42 := Lib.hid h42; clear hg4 hg5 h42 h43))
    go_ret
    exact ⟨rfl, HB4.out⟩
  go_enter Try.func6, Try.ntmps6
  go_wp2_with (first
    | (go_at_call 9; (with_reducible refine (awake_v _).mono ?_); rintro e w1 ⟨rfl, hb1⟩; have hsz1 := hb1.size; have HB1 := Lib.hid hb1; clear hb1)
    | (go_at_call 13; (with_reducible refine (put_v _ _ _ _ l w1 (HL.out.below HB1.out) hsz1 (by omega) HX.out).mono ?_); rintro e w2 ⟨v2, rfl, hg2⟩; rw [← HPP.out] at hg2; have hsz2 := hg2.grown.size; have HB2 := Lib.hid (HB1.out.trans (hg2.belowNil.mono hsz1)); have HG2 := Lib.hid hg2; clear hg2)
    | (go_at_call 26; (with_reducible refine (texts_v _ _ _ _ ts w2 (HT.out.below HB2.out) (by omega) (by omega) (by rw [← HTT.out]; omega)).mono ?_); rintro e w3 ⟨v3, rfl, hg3⟩; rw [← HTT.out] at hg3; have hsz3 := hg3.grown.size; have HB3 := Lib.hid (HB2.out.trans (hg3.belowNil.mono (by omega))); obtain ⟨A3, c3, rfl, h31, h32, h33⟩ := own_map hg3.own; have HG3 := Lib.hid (HG2.out.then_ hg3.belowNil); have H32 := Lib.hid h32; clear hg3 h32 h33)
    | (at_builtin; refine wpList_appN w3 rfl (.tmp 28) (.tmp 30) _ rfl w1.heap.size 5 i0 (.int .u8 0) 1 Try.underlying23 hi hz0 hz1 hz2 rfl v2 _ rfl HG3.out.own _ A3 T.length c3 (T.map bv) rfl H32.out (bv_one _) (by rw [List.length_map]; omega) (by rw [List.length_map]; omega) (by omega) ?_; intro v4 w4 hg4; rw [← List.map_append, ← HLL.out] at hg4; have hg5 := HG3.out.trans hg4; have hsz4 := hg5.grown.size; have HB4 := Lib.hid (HB1.out.trans (hg5.belowNil.mono hsz1)); obtain ⟨A4, c4, rfl, h41, h42, h43⟩ := own_map hg5.own; have H42 := Lib.hid h42; clear hg4 hg5 h42 h43)
    | (go_at_call 17; (with_reducible refine (open_v A4 L.length c4 _ L w4 H42.out (by omega)).mono ?_); rintro e w5 ⟨g, rfl, hr5, hb5, hgg⟩; have HW5 : Hid (Whole w w5 w5.heap.size g L) := ⟨hr5, HB4.out.trans (hb5.mono HB4.out.size), (by have := HB4.out.size; omega)⟩; have hgw : w.heap.size ≤ g := (by have := HB4.out.size; omega); have H45 := Lib.hid (H42.out.below hb5); have hsz5 := hb5.size; clear hr5 hb5))
  go_loopw [10] (fun i wr => ∃ k : Nat, k ≤ n0 ∧ i = .int .i64 (k : Int) ∧ Whole w wr w5.heap.size g (putL (l.drop k) ++ T) ∧ Rd wr w4.heap.size A4 L.length (L.map bv)) (fun i _ => n0 - (intOf i).toNat)
  case atStart => exact ⟨0, by omega, rfl, by rw [List.drop_zero, ← HPP.out, ← HLL.out]; exact HW5.out, H45.out⟩
  case round =>
    obtain ⟨k, hk, rfl, hW, hRd⟩ := hrel
    by_cases hlt : k < n0
    · obtain ⟨ad, hkl, rfl, hab, hc⟩ := (HL.out.below hW.2.1).at_map (k := k) hlt
      have hx64 := HX.out _ (List.getElem_mem hkl)
      rw [putL_drop l k hkl, List.append_assoc] at hW
      obtain ⟨x, hx⟩ : ∃ x, x = l[k] := ⟨_, rfl⟩
      rw [← hx] at hc hx64 hW
      have hc1 : wr.cell? (ad.add k) = some (.int .u64 (x : Int)) := hc
      have hc2 : wr.drew.cell? (ad.add k) = some (.int .u64 (x : Int)) := hc
      have hWd : Whole w wr.drew w5.heap.size g (numL x ++ (putL (l.drop (k + 1)) ++ T)) := ⟨hW.1, hW.2.1.drew, hW.2.2⟩
      have hnum := Lib.hid (whole_num hx64 hWd)
      have HCW : Hid (w.cell? (ad.add k) = some (.int .u64 (x : Int))) := by
        rw [← hc1]; exact (hW.2.1.cell (by rw [block_add]; exact hab)).symm
      have HRD : Hid (Rd wr.drew w4.heap.size A4 L.length (L.map bv)) := hRd
      have hlt0 : (0 : Int) ≤ (k : Int) := by omega
      have hlt1 : (k : Int) < (n0 : Int) := by omega
      clear hW hWd hc hx hx64 hRd
      go_wp2_with fail
      go_region_held3 (fun w' => w'.cell? (ad.add k) = some (.int .u64 (x : Int))) (first | exact hc1 | exact hc2 | exact hc6)
        (first
          | (go_at_call 19; (with_reducible refine hnum.out.mono ?_); rintro e w6 ⟨rfl, hW6, hg6⟩; have hc6 := cell_keeps hW6.2.1 HCW.out; have HW6 := Lib.hid hW6; have HRD6 := Lib.hid (rd_only HRD.out hg6 hgg); clear hW6 hg6))
      all_goals go_wp2
      all_goals go_roundw
      case rel => exact ⟨k + 1, by omega, by go_num, HW6.out, HRD6.out⟩
      case measure => simp [intOf]; omega
    · have hkn : l.drop k = [] := by rw [List.drop_eq_nil_iff]; have := hll.out; omega
      have hT0 : putL (l.drop k) ++ T = textsL (ts.drop 0) := by rw [hkn, List.drop_zero, ← HTT.out]; rfl
      rw [hT0] at hW
      have HW := Lib.hid hW
      have HRD := Lib.hid hRd
      clear hkn hT0 hW hRd
      go_wp2
      go_loopw [11] (fun i wr => ∃ k : Nat, k ≤ n1 ∧ i = .int .i64 (k : Int) ∧ Whole w wr w5.heap.size g (textsL (ts.drop k)) ∧ Rd wr w4.heap.size A4 L.length (L.map bv)) (fun i _ => n1 - (intOf i).toNat)
      case atStart => exact ⟨0, by omega, rfl, HW.out, HRD.out⟩
      case round =>
        clear HW HRD
        obtain ⟨k, hk, rfl, hW, hRd⟩ := hrel
        by_cases hlt : k < n1
        · obtain ⟨ad, hkl, rfl, hab, hc⟩ := (HT.out.below hW.2.1).at_map (k := k) hlt
          have hx64 := HY.out _ (List.getElem_mem hkl)
          rw [textsL_drop ts k hkl] at hW
          obtain ⟨x, hx⟩ : ∃ x, x = ts[k] := ⟨_, rfl⟩
          rw [← hx] at hc hx64 hW
          have hc2 : wr.drew.cell? (ad.add k) = some (.string x) := hc
          have hWd : Whole w wr.drew w5.heap.size g (textL x ++ textsL (ts.drop (k + 1))) := ⟨hW.1, hW.2.1.drew, hW.2.2⟩
          have hnum := Lib.hid (whole_text hx64 hWd)
          have HCW : Hid (w.cell? (ad.add k) = some (.string x)) := by
            rw [← hc]; exact (hW.2.1.cell (by rw [block_add]; exact hab)).symm
          have HRD : Hid (Rd wr.drew w4.heap.size A4 L.length (L.map bv)) := hRd
          have hlt0 : (0 : Int) ≤ (k : Int) := by omega
          have hlt1 : (k : Int) < (n1 : Int) := by omega
          clear hW hWd hx hx64 hRd
          go_wp2_with fail
          go_region_held3 (fun w' => w'.cell? (ad.add k) = some (.string x)) (first | exact hc | exact hc2 | exact hc6)
            (first
              | (go_at_call 22; (with_reducible refine hnum.out.mono ?_); rintro e w6 ⟨rfl, hW6, hg6⟩; have hc6 := cell_keeps hW6.2.1 HCW.out; have HW6 := Lib.hid hW6; have HRD6 := Lib.hid (rd_only HRD.out hg6 hgg); clear hW6 hg6))
          all_goals go_wp2
          all_goals go_roundw
          case rel => exact ⟨k + 1, by omega, by go_num, HW6.out, HRD6.out⟩
          case measure => simp [intOf]; omega
        · have hkn : ts.drop k = [] := by rw [List.drop_eq_nil_iff]; have := htl.out; omega
          rw [hkn] at hW
          have hW' : Whole w wr w5.heap.size g [] := hW
          have hend := endR_v wr w5.heap.size g [] 0 hW'.1
          rw [show endOf [] 0 = 0 from rfl] at hend
          have HE := Lib.hid hend
          have HW := Lib.hid hW'
          have HRD := Lib.hid hRd
          clear hkn hW hRd hW' hend
          by_cases hL0 : L.length = 0
          · have hL0' : ((L.length : Int) == 0) = true := by rw [hL0]; rfl
            have HL0 := Lib.hid hL0
            clear hL0
            go_wp2_with (go_at_call 25; (with_reducible refine HE.out.mono ?_); rintro e w' ⟨rfl, rfl⟩)
            go_ret
            exact ⟨rfl, HW.out.2.1⟩
          · obtain ⟨m, hm⟩ : ∃ m, m = mn % L.length := ⟨_, rfl⟩
            have hml : m < L.length := by rw [hm]; exact Nat.mod_lt _ (by omega)
            have hrem : (mn : Int) % (L.length : Int) = (m : Int) := by rw [hm]; norm_cast
            have hL0' : ((L.length : Int) == 0) = false := by rw [beq_eq_false_iff_ne]; omega
            have hcut := HRD.out.take_ (k := m) (by omega)
            rw [← List.map_take] at hcut
            have HCT := Lib.hid hcut
            have hopen := open_v A4 m c4 _ (L.take m) wr hcut (by omega)
            have HO := Lib.hid hopen
            clear hcut hopen hm
            go_wp2_with (first
              | (go_at_call 25; (with_reducible refine HE.out.mono ?_); rintro e w' ⟨rfl, rfl⟩)
              | (go_at_call 17; (with_reducible refine HO.out.mono ?_); rintro e w7 ⟨g7, rfl, hr7, hb7, hgg7⟩; have HC7 : Hid (Cut w w7 w7.heap.size g7 (putL (l.drop 0) ++ T)) := ⟨_, 0, hr7, HW.out.2.1.trans (hb7.mono HW.out.2.1.size), (by have := HW.out.2.1.size; omega), .inr ⟨rfl, m, (by rw [List.drop_zero, ← HPP.out, ← HLL.out]; exact hml), (by rw [List.drop_zero, ← HPP.out, ← HLL.out])⟩⟩; clear hr7 hb7))
            go_loopw [13] (fun i wr => ∃ k : Nat, k ≤ n0 ∧ i = .int .i64 (k : Int) ∧ Cut w wr w7.heap.size g7 (putL (l.drop k) ++ T)) (fun i _ => n0 - (intOf i).toNat)
            case atStart => exact ⟨0, by omega, rfl, HC7.out⟩
            case round =>
              obtain ⟨k3, hk3, rfl, hC⟩ := hrel
              by_cases hlt : k3 < n0
              · have hkl : k3 < l.length := by have := hll.out; omega
                rw [putL_drop l k3 hkl, List.append_assoc] at hC
                have hnum := Lib.hid (cut_num (HX.out _ (List.getElem_mem hkl)) hC)
                clear hC
                go_wp2_with (go_at_call 19; (with_reducible refine hnum.out.mono ?_); rintro e w8 ⟨⟨y, rfl⟩, hC8⟩; have HC8 := Lib.hid hC8; clear hC8)
                go_roundw
                case rel => exact ⟨k3 + 1, by omega, by go_num, HC8.out⟩
                case measure => simp [intOf]; omega
              · have hkn : l.drop k3 = [] := by rw [List.drop_eq_nil_iff]; have := hll.out; omega
                have hT0 : putL (l.drop k3) ++ T = textsL (ts.drop 0) := by rw [hkn, List.drop_zero, ← HTT.out]; rfl
                rw [hT0] at hC
                have HC := Lib.hid hC
                clear hkn hT0 hC
                go_wp2
                go_loopw [14] (fun i wr => ∃ k : Nat, k ≤ n1 ∧ i = .int .i64 (k : Int) ∧ Cut w wr w7.heap.size g7 (textsL (ts.drop k))) (fun i _ => n1 - (intOf i).toNat)
                case atStart => exact ⟨0, by omega, rfl, HC.out⟩
                case round =>
                  obtain ⟨k4, hk4, rfl, hC⟩ := hrel
                  by_cases hlt : k4 < n1
                  · have hkl : k4 < ts.length := by have := htl.out; omega
                    rw [textsL_drop ts k4 hkl] at hC
                    have hnum := Lib.hid (cut_text (HY.out _ (List.getElem_mem hkl)) hC)
                    clear hC
                    go_wp2_with (go_at_call 22; (with_reducible refine hnum.out.mono ?_); rintro e w8 ⟨⟨y, rfl⟩, hC8⟩; have HC8 := Lib.hid hC8; clear hC8)
                    go_roundw
                    case rel => exact ⟨k4 + 1, by omega, by go_num, HC8.out⟩
                    case measure => simp [intOf]; omega
                  · have hkn : ts.drop k4 = [] := by rw [List.drop_eq_nil_iff]; have := htl.out; omega
                    rw [hkn] at hC
                    have hce := cut_end hC
                    have HE7 := Lib.hid hce.1
                    have HB7 := Lib.hid hce.2
                    clear hce hC hkn
                    go_wp2_with (go_at_call 24; (with_reducible refine (err_v _ _ 10 HE7.out).mono ?_); rintro e w' ⟨rfl, rfl⟩)
                    go_ret
                    exact ⟨rfl, HB7.out⟩
end varintBack
end Go.Proofs.Ytnffeeipnabdoaa
