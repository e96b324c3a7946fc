/- The walk of VarintPuts: whatever the numbers and the bytes are, the call returns true. -/
import Derived.Test.YtnffeeipnabdoaaAwake
import Derived.Test.YtnffeeipnabdoaaArgs
namespace Go.Proofs.Ytnffeeipnabdoaa
namespace varintPuts
open Go.RowKit
theorem walk (w : World) (A0 : Option Addr) (n0 c0 : Nat) (l : List Nat) (hl : Rd w w.heap.size A0 n0 (l.map nv) ∧ (∀ x ∈ l, x < 18446744073709551616) ∧ n0 ≤ c0 ∧ c0 ≤ maxLen)
    (A1 : Option Addr) (n1 c1 : Nat) (bs : List UInt8) (hb : Rd w w.heap.size A1 n1 (bs.map bv) ∧ n1 ≤ c1 ∧ c1 ≤ maxLen) :
    Calls Try.prog 3 #[.slice A0 n0 c0, .slice A1 n1 c1] w fun e w' => e = .returned (.bool true) ∧ Below w.heap.size w w' := by
  obtain ⟨h1, h2, h3, h4⟩ := hl
  obtain ⟨h5, h6, h7⟩ := hb
  unfold maxLen at h4 h7
  have HL := Lib.hid h1
  have HB := Lib.hid h5
  have HX := Lib.hid h2
  have hll := Lib.hid h1.len_map
  have hpl := Lib.hid (putL_len l h2)
  clear h1 h5 h2
  by_cases hn0 : 60 < n0
  · go_enter Try.func3, Try.ntmps3
    go_wp2_with (go_at_call 9; (with_reducible refine (awake_v _).mono ?_); rintro e w1 ⟨rfl, hb1⟩)
    go_ret
    exact ⟨rfl, hb1⟩
  by_cases hn1 : 300 < n1
  · go_enter Try.func3, Try.ntmps3
    go_wp2_with (go_at_call 9; (with_reducible refine (awake_v _).mono ?_); rintro e w1 ⟨rfl, hb1⟩)
    go_ret
    exact ⟨rfl, hb1⟩
  go_enter Try.func3, Try.ntmps3
  go_wp2_with (go_at_call 9; (with_reducible refine (awake_v _).mono ?_); rintro e w1 ⟨rfl, hb1⟩)
  go_loopw [6, 7] (fun s i wr => ∃ k : Nat, k ≤ n0 ∧ i = .int .i64 (k : Int) ∧ s = .string (mkS (putL (l.take k))) ∧ Below w.heap.size w wr) (fun _ i _ => n0 - (intOf i).toNat)
  case atStart => exact ⟨0, by omega, rfl, rfl, hb1⟩
  case round =>
    obtain ⟨k, hk, rfl, rfl, hbr⟩ := hrel
    have HBR := Lib.hid hbr
    have hsz := hbr.size
    clear hbr
    by_cases hlt : k < n0
    · obtain ⟨ad, hkl, rfl, _, hc⟩ := (HL.out.below HBR.out).at_map (k := k) hlt
      have hxk : l[k] < 18446744073709551616 := HX.out _ (List.getElem_mem hkl)
      have hat := flat_at_len numL l k hkl
      obtain ⟨x, hx⟩ : ∃ x, x = l[k] := ⟨_, rfl⟩
      have hsn : putL (l.take (k + 1)) = putL (l.take k) ++ numL l[k] := flat_snoc numL l k hkl
      rw [← hx] at hxk hc hat hsn
      have hc' : wr.cell? (ad.add k) = some (.int .u64 (x : Int)) := hc
      have HXK := Lib.hid hxk
      have hs1 := mkS_size (putL (l.take k))
      have hs2 := mkS_size (numL x)
      have hs3 : (putL (l.take k)).length + (numL x).length ≤ 600 := by
        have := hpl.out; have := hll.out; exact Nat.le_trans hat (by show (putL l).length ≤ _; omega)
      have HSN := Lib.hid hsn
      clear hc hx hxk hat hsn
      go_wp2_with (go_at_call 10; (with_reducible refine (refNum_v x _ HXK.out).mono ?_); rintro e w2 ⟨rfl, hb2⟩)
      go_roundw
      case rel => exact ⟨k + 1, by omega, by go_num, by rw [HSN.out, ← mkS_add], HBR.out.trans (hb2.mono hsz)⟩
      case measure => simp [intOf]; omega
    · have hkn : l.take k = l := by rw [List.take_of_length_le]; have := hll.out; omega
      rw [hkn]
      clear hkn
      have hcv := run_str_of (P := Try.prog) (HB.out.below HBR.out) 23 9 5 Try.underlying23 Try.underlying5 Try.underlying9 c1
      have hsb := mkS_size bs
      have hbl := Lib.hid HB.out.len
      have hsb2 := Lib.hid (show (mkS bs).size ≤ 140737488351232 by rw [hsb]; have := hbl.out; omega)
      obtain ⟨x, y, z, ht⟩ : ∃ x y z, takeM bs = (x, y, z) := ⟨_, _, _, rfl⟩
      have HT := Lib.hid ht
      clear ht hsb
      go_wp2_with (first
        | (go_at_call 11; (with_reducible refine (take_v _ _ _ _ bs _ (HB.out.below HBR.out) (by omega)).mono ?_); rintro e w' ⟨rfl, rfl⟩; rw [HT.out])
        | (go_at_call 12; (with_reducible refine (refTake_v _ _ hsb2.out).mono ?_); rintro e w' ⟨rfl, rfl⟩; rw [mkS_list, HT.out])
        | (go_at_call 13; (with_reducible refine (put_v _ _ _ _ l _ (HL.out.below HBR.out) hsz (by omega) HX.out).mono ?_); rintro e w5 ⟨v5, rfl, hg5⟩; obtain ⟨A5, c5, rfl, h51, h52, h53⟩ := own_map hg5.own; have hcv5 := run_str_of (P := Try.prog) h52 23 9 5 Try.underlying23 Try.underlying5 Try.underlying9 c5; have HB5 := Lib.hid (HBR.out.trans (hg5.belowNil.mono hsz)); clear h53 h52 hg5))
      go_ret
      exact ⟨rfl, HB5.out⟩
end varintPuts
end Go.Proofs.Ytnffeeipnabdoaa
