/- The walk of FrameOwn: whatever the rows are, the call returns true. -/
import Derived.Test.YtokcgbfncinilaaFLw
import Derived.Test.YtokcgbfncinilaaRowArg
import Derived.Test.YtokcgbfncinilaaMatS
namespace Go.Proofs.Ytokcgbfncinilaa
namespace frameOwn
open Go.RowKit
attribute [local go_sem ↓] Go.wp_at_zero Go.wp_at_succ
/-- The row at i, and its slice in the slice of rows. -/
theorem at_row {W : World} {base n c i : Nat} {A : Option Addr} {rs : List Value} {ms : List (List UInt8)} (h : Mat W base (.slice A n c) rs ms) (hl : ms.length = n) (hi : i < n) :
    ∃ g Ar nr cr l, A = some ⟨g, 0, none⟩ ∧ base ≤ g ∧ rs[i]? = some (.slice Ar nr cr) ∧ W.cell? ⟨g, i, none⟩ = some (.slice Ar nr cr) ∧ W.frozen? ⟨g, i, none⟩ = false ∧ ms[i]? = some l ∧ l.length = nr ∧ Rd W W.heap.size Ar nr (l.map bv) ∧
      W.ownsRow base 5 1 (.slice Ar nr cr) nr (l.map bv) ∧ (0 < nr → ∃ g', Ar = some ⟨g', 0, none⟩) := by
  have hn : rs.length = n := by rw [h.len, hl]
  rcases h.own.2 with ⟨h0, h1⟩ | ⟨g, cap, cur, h0, hb, _, _⟩
  · omega
  · injection h0 with h1 h2 h3
    subst h1
    subst h3
    have ho := h.own
    rw [hn] at ho
    have hir : i < rs.length := by omega
    have hr : rs[i]? = some rs[i] := List.getElem?_eq_getElem hir
    have hrow := h.row i (by omega) _ hr
    obtain ⟨Ar, cr, e, h4, h5, _⟩ := own_map (f := bv) (xs := ms[i]'(by omega)) (by rw [List.length_map]; exact hrow)
    rw [e] at hr hrow
    refine ⟨g, Ar, _, cr, _, rfl, hb, hr, (ho.cellAt i (by omega)).trans hr, ho.frozenAt i, List.getElem?_eq_getElem (by omega), rfl, h5, hrow, fun h0 => ?_⟩
    rcases hrow.2 with ⟨h6, h7⟩ | ⟨g', cap', cur', h6, _⟩
    · omega
    · injection h6 with h6; exact ⟨g', h6⟩
theorem setByte' {W : World} {base : Nat} {v : Value} {rs : List Value} {ms : List (List UInt8)} (h : Mat W base v rs ms) {i k g n c : Nat} {l : List UInt8} (hl : ms[i]? = some l) (hr : rs[i]? = some (.slice (some ⟨g, 0, none⟩) n c)) (b : UInt8) {u : Value} (hu : u = bv b) :
    Mat (W.setCell ⟨g, k, none⟩ u) base v rs (ms.set i (l.set k b)) := by
  subst hu
  obtain ⟨hi, e⟩ := List.getElem?_eq_some_iff.1 hl
  subst e
  exact h.setByte hi hr b
theorem inc_byte (b : UInt8) : ∃ c : UInt8, Value.int .u8 (((b.toNat : Int) + 1) % 256) = bv c := by
  refine ⟨UInt8.ofNat ((b.toNat + 1) % 256), ?_⟩
  rw [bv]
  congr 1
  rw [show (UInt8.ofNat ((b.toNat + 1) % 256)).toNat = (b.toNat + 1) % 256 by simp]
  omega
/-- Behind the append to a row: what the store wants, and what it leaves. -/
theorem own_step {W W' W0 : World} {n c i g nr : Nat} {cr : Nat} {Ar : Option Addr} {v' : Value} {rs : List Value} {ms : List (List UInt8)} {l : List UInt8} (h : Mat W W0.heap.size (.slice (some ⟨g, 0, none⟩) n c) rs ms) (hl : ms.length = n) (hi : i < n)
    (hr : rs[i]? = some (.slice Ar nr cr)) (hm : ms[i]? = some l) (hn : l.length = nr) (hg : Grew W W' W0.heap.size 5 (.slice Ar nr cr) v' (l.map bv ++ [.int .u8 7])) :
    ∃ g' cap', v' = .slice (some ⟨g', 0, none⟩) (nr + 1) cap' ∧ W'.cell? ⟨g, i, none⟩ = some (.slice Ar nr cr) ∧ W'.frozen? ⟨g, i, none⟩ = false ∧
      (∃ rs' ms', Mat (W'.setCell ⟨g, i, none⟩ v') W0.heap.size (.slice (some ⟨g, 0, none⟩) n c) rs' ms' ∧ ms'.length = n ∧ ∀ j, i + 1 ≤ j → ms'[j]? = ms[j]?) ∧ (Below W0.heap.size W0 W → Below W0.heap.size W0 (W'.setCell ⟨g, i, none⟩ v')) := by
  obtain ⟨him, e⟩ := List.getElem?_eq_some_iff.1 hm
  have hro := h.row i him _ hr
  have hg' : Grew W W' W0.heap.size 5 (.slice Ar nr cr) v' ((l ++ [7]).map bv) := by rw [List.map_append]; exact hg
  obtain ⟨g', cap', rfl⟩ := ownsRow_succ (k := nr) (by have := hg'.own; simpa [hn] using this)
  have hV := h.keepV hro hg'
  have hrn : rs.length = n := by rw [h.len, hl]
  rw [hrn] at hV
  have hgb : W0.heap.size ≤ g := (hV.lt g rfl).1
  refine ⟨g', cap', rfl, (hV.cellAt i (by omega)).trans hr, hV.frozenAt i, ⟨_, _, h.setRow rfl him hr hg', by rw [List.length_set]; exact hl, fun j hj => by rw [List.getElem?_set_ne (by omega)]⟩, fun hb => ?_⟩
  refine (hb.grown hg.grown hb.size fun k hk => ?_).setCell (p := ⟨g, i, none⟩) hgb _
  exact (hro.lt k hk).1
set_option maxRecDepth 100000 in
set_option maxHeartbeats 4000000 in
theorem walk (w : World) (A0 : Option Addr) (n0 c0 : Nat) (ls : List (List UInt8)) (hl : RdL w w.heap.size A0 n0 ls ∧ n0 ≤ c0 ∧ c0 ≤ maxLen) :
    Calls Try.prog 5 #[.slice A0 n0 c0] w fun e w' => e = .returned (.bool true) ∧ Below w.heap.size w w' := by
  obtain ⟨h1, h2, h3⟩ := hl
  unfold maxLen at h3
  have HB := Lib.hid h1
  have hn := Lib.hid h1.1
  have hbig : n0 ≤ 9223372036854775807 := by omega
  clear h1 h3
  have HBIG := Lib.hid hbig
  clear hbig
  by_cases hfew : fewB n0 ls = false
  · go_enter Try.func5, Try.ntmps5
    go_wp2_with (first
      | (go_at_call 6; (with_reducible refine (frameAwake_v _).mono ?_); rintro e w1 ⟨rfl, hb1⟩; have HB1 := Lib.hid hb1; clear hb1)
      | (go_at_call 7; (with_reducible refine (few_v _ _ _ _ ls w1 (HB.out.keep HB1.out) HBIG.out).mono ?_); rintro e w2 ⟨rfl, rfl⟩; rw [hfew]))
    go_ret
    exact ⟨rfl, HB1.out⟩
  have hfew' : fewB n0 ls = true := by simpa using hfew
  obtain ⟨hn20, h600⟩ := few_rows hfew'
  have hLs := frames_small h600
  rw [hn.out] at hLs
  obtain ⟨L, hL⟩ : ∃ L, L = (ls.flatMap frameL).length := ⟨_, rfl⟩
  rw [← hL] at hLs
  have hL2 : L ≤ 12280 := by omega
  have H600 := Lib.hid h600
  have HL := Lib.hid hL
  have HLS := Lib.hid hLs
  obtain ⟨bt, hbt⟩ : ∃ bt, bt = mkS (ls.flatMap frameL) := ⟨_, rfl⟩
  have HBT := Lib.hid hbt
  clear hfew h600 hL hLs hbt
  go_enter Try.func5, Try.ntmps5
  go_wp2_with (first
    | (go_at_call 6; (with_reducible refine (frameAwake_v _).mono ?_); rintro e w1 ⟨rfl, hb1⟩; have HB1 := Lib.hid hb1; clear hb1)
    | (go_at_call 7; (with_reducible refine (few_v _ _ _ _ ls w1 (HB.out.keep HB1.out) HBIG.out).mono ?_); rintro e w2 ⟨rfl, rfl⟩; rw [hfew'])
    | (go_at_call 8; (with_reducible refine (putF_v _ _ _ _ ls w1 (HB.out.keep HB1.out) HB1.out.size (by omega) (fun r hr => by have := H600.out r hr; omega) (by have := HLS.out; have := HL.out; omega)).mono ?_); rintro e w2 ⟨v2, rfl, hg2⟩; have hs2 := hg2.grown.size; have HB2 := Lib.hid (HB1.out.trans (hg2.belowNil.mono HB1.out.size)); obtain ⟨A7, c7, rfl, h71, hc7m, h72, h73⟩ := own_mapC hg2.own; rw [← HL.out] at h71 h72 ⊢; have HC7 := Lib.hid hc7m; have H72 := Lib.hid h72; have hcv := str_later (c := c7) h72 (Nat.le_refl _); rw [← HBT.out] at hcv; have hcv2 := hcv w2 (Below.refl _ _); have HCV := Lib.hid hcv; clear hc7m hcv h72 h73 hg2)
    | (go_at_call 10; (with_reducible refine (scan_v A7 L c7 _ _ w2 H72.out (Nat.le_refl _) (by omega) h71 HC7.out).mono ?_); rintro e w3 ⟨v3, rs, rfl, hb3, hm3⟩; have hs3 := hb3.size; rw [show scanF L (ls.flatMap frameL) = (ls, L, 0) from (by have := scan_all ls L (fun r hr => by have := H600.out r hr; omega) (by rw [← HL.out]; exact Nat.le_refl _); rw [← HL.out] at this; exact this)] at hm3 ⊢; have HB3 := Lib.hid hb3; have HM3 := Lib.hid hm3; obtain ⟨A8, c8, rfl, h81, h82⟩ := hm3.rdL; rw [hn.out]; clear h82 hb3 hm3 hcv2))
  obtain ⟨i0, hi, hz0, hz1, hz2⟩ := info_parts info_u8
  rw [hn.out] at HM3 h81
  go_loopw [10] (fun x wr => ∃ (i : Nat) (rs : List Value) (ms : List (List UInt8)), i ≤ n0 ∧ x = .int .i64 (i : Int) ∧ Mat wr w2.heap.size (.slice A8 n0 c8) rs ms ∧ ms.length = n0 ∧ (∀ j, i ≤ j → ms[j]? = ls[j]?) ∧ Below w2.heap.size w2 wr) (fun x _ => n0 - (intOf x).toNat)
  case atStart => exact ⟨0, rs, ls, by omega, rfl, HM3.out, hn.out, fun _ _ => rfl, HB3.out⟩
  case round =>
    obtain ⟨i, rs', ms, hin, rfl, hmat, hml, hsame, hbr⟩ := hrel
    have HBR := Lib.hid hbr
    have hbrs := hbr.size
    have HSAME := Lib.hid hsame
    have HML := Lib.hid hml
    have HMAT := Lib.hid hmat
    clear hbr hsame hml hmat
    by_cases hlt : i < n0
    · obtain ⟨g8, Ar, nr, cr, li, rfl, hg8, hri, hc8, hf8, hli, hnr, hrd, hown, hform⟩ := at_row HMAT.out HML.out hlt
      obtain ⟨ad, Ax, nx, cx, rfl, hbx, hcx, hrx, hmx⟩ := (HB.out.keep (HB2.out.trans (HBR.out.mono HB2.out.size))).2 i (by have := hn.out; omega)
      have hmi : li = ls[i]'(by have := hn.out; omega) := by
        have := HSAME.out i (Nat.le_refl _)
        rw [hli, List.getElem?_eq_getElem (by have := hn.out; omega)] at this
        exact Option.some.inj this
      have h6 := H600.out _ (List.getElem_mem (show i < ls.length by have := hn.out; omega))
      obtain ⟨s, hs⟩ : ∃ s, s = mkS (ls[i]'(by have := hn.out; omega)) := ⟨_, rfl⟩
      have cv1 := str_later (c := cr) hrd (Nat.le_refl _)
      have cv2 := str_later (c := cx) hrx (by have := HB2.out.size; omega)
      rw [hmi] at cv1 hnr
      rw [hnr] at h6
      rw [← hs] at cv1 cv2
      have hi0 : (0 : Int) ≤ (i : Int) := by omega
      have hi1 : (i : Int) < (n0 : Int) := by omega
      have hbw := Lib.hid ((Below.refl wr.heap.size wr).drew)
      have HX1 := Lib.hid (cv1 _ hbw.out)
      have HX2 := Lib.hid (cv2 _ hbw.out)
      have HC1 : Hid (wr.drew.cell? ⟨g8, i, none⟩ = some (.slice Ar nr cr)) := Lib.hid hc8
      have HC2 := Lib.hid (cell_keeps hbw.out hcx)
      have HRI := Lib.hid hri
      have hmid : ∃ l, ms[i]? = some l ∧ l.length = nr := ⟨_, hli, by rw [hmi]; exact hnr⟩
      have HMID := Lib.hid hmid
      clear cv1 cv2 hrx hmx hs hmi hrd hown hform hri hnr hmid hli
      go_wp2
      go_region_held (fun w' => w'.cell? ⟨g8, i, none⟩ = some (.slice Ar nr cr) ∧ w'.cell? (ad.add i) = some (.slice Ax nx cx) ∧ (convert 26 9 (.slice Ar nr cr)).run Try.prog w' = .ok (.string s) w' ∧ (convert 26 9 (.slice Ax nx cx)).run Try.prog w' = .ok (.string s) w') (first | assumption | exact ⟨HC1.out, HC2.out, HX1.out, HX2.out⟩) (fail)
      all_goals go_wp2
      go_loopw [11] (fun x wq => ∃ (k : Nat) (mq : List (List UInt8)), k ≤ nr ∧ x = .int .i64 (k : Int) ∧ Mat wq w2.heap.size (.slice (some ⟨g8, 0, none⟩) n0 c8) rs' mq ∧ mq.length = n0 ∧ (∃ l, mq[i]? = some l ∧ l.length = nr) ∧ (∀ j, i + 1 ≤ j → mq[j]? = ls[j]?) ∧ Below w2.heap.size w2 wq) (fun x _ => nr - (intOf x).toNat)
      case atStart => exact ⟨0, ms, by omega, rfl, HMAT.out.same fun _ _ _ _ h => h, HML.out, HMID.out, fun j hj => HSAME.out j (by omega), HBR.out.drew⟩
      case round =>
        obtain ⟨k, mq, hk, rfl, hmat, hml, hmid, hsame, hbq⟩ := hrel
        obtain ⟨g9, Ar2, nr2, cr2, lq, e1, _, hri2, hc2, hf2, hlq, hnr2, hrd2, hown2, hform2⟩ := at_row hmat hml hlt
        injection e1 with e1
        injection e1 with e1
        subst e1
        have e2 := hri2.symm.trans HRI.out
        injection e2 with e2
        injection e2 with e2 e3 e4
        subst e2
        subst e3
        subst e4
        have HBQ := Lib.hid hbq
        have HMQ := Lib.hid hmat
        have HLQ := Lib.hid hml
        have HSQ := Lib.hid hsame
        have HLI := Lib.hid hlq
        have hi2 : i < mq.length := by omega
        have hbqs := hbq.size
        by_cases hkn : k < nr2
        · obtain ⟨g', rfl⟩ := hform2 (by omega)
          have hgb : w2.heap.size ≤ g' := (hown2.lt g' rfl).1
          obtain ⟨adb, hkl, e5, hbb, hcb⟩ := hrd2.byte hkn
          injection e5 with e5
          subst e5
          rw [add_lit0] at hcb
          have hfb := hown2.frozenAt k
          obtain ⟨b, hb⟩ : ∃ b, b = lq[k] := ⟨_, rfl⟩
          rw [← hb] at hcb
          obtain ⟨c, hcc⟩ := inc_byte b
          have hbl : b.toNat < 256 := b.toNat_lt
          obtain ⟨bn, hbn⟩ : ∃ bn, bn = b.toNat := ⟨_, rfl⟩
          have hcb' : wr.cell? ⟨g', k, none⟩ = some (.int .u8 (bn : Int)) := by rw [hcb, hbn]; rfl
          rw [← hbn] at hcc hbl
          have HCC := Lib.hid hcc
          have HNR := Lib.hid hnr2
          have hk0 : (0 : Int) ≤ (k : Int) := by omega
          have hk1 : (k : Int) < (nr2 : Int) := by omega
          clear hbq hmat hml hsame hmid hrd2 hown2 hcb hb hbn hcc hnr2 hkl hlq
          go_wp2
          refine ⟨⟨k + 1, _, by omega, by go_num, setByte' HMQ.out HLI.out HRI.out c HCC.out, by rw [List.length_set]; exact HLQ.out, ⟨_, List.getElem?_set_self hi2, by rw [List.length_set]; exact HNR.out⟩, fun j hj => by rw [List.getElem?_set_ne (by omega)]; exact HSQ.out j hj, HBQ.out.setCell (p := ⟨g', k, none⟩) hgb _⟩, ?_⟩
          simp [intOf]; omega
        · have hkn' : k = nr2 := by omega
          subst hkn'
          have HNR := Lib.hid hnr2
          have HOWN := Lib.hid hown2
          have h6' := h6
          clear hbq hmat hml hsame hmid hrd2 hown2 hform2 hnr2 hlq
          go_wp2_with (at_builtin; refine wpList_app1 _ _ rfl (.tmp 84) (.tmp 85) _ rfl w2.heap.size 5 i0 (.int .u8 0) 1 Try.underlying26 hi hz0 hz1 hz2 rfl rfl (.slice Ar2 k cr2) _ rfl (by rw [List.length_map, HNR.out]; exact HOWN.out) rfl (by rw [List.length_map, HNR.out]; omega) (by rw [List.length_map, HNR.out]; omega) hbqs ?_; intro v3 w4 hg4; obtain ⟨g5, cap5, rfl, hc5, hf5, hm5⟩ := own_step HMQ.out HLQ.out hlt HRI.out HLI.out HNR.out hg4; have HM5 := Lib.hid hm5.1; have HB5 := Lib.hid hm5.2; clear hm5 hg4)
          obtain ⟨rs5, ms5, hm6, hl6, hs6⟩ := HM5.out
          refine ⟨⟨i + 1, rs5, ms5, by omega, by go_num, hm6, hl6, fun j hj => (hs6 j hj).trans (HSQ.out j hj), HB5.out HBQ.out⟩, ?_⟩
          simp [intOf]; omega
    · have hij : i = n0 := by omega
      subst hij
      have hcv2 := HCV.out wr HBR.out
      go_wp2
      go_ret
      exact ⟨by simp, HB2.out.trans (HBR.out.mono HB2.out.size)⟩
end frameOwn
end Go.Proofs.Ytokcgbfncinilaa
