/- The document's Text, row: what each one tells. -/
import Derived.Test.YtbgojfgapbcanaaDoorEvX
import Derived.Test.YtbgojfgapbcanaaDoorRefNum
import Derived.Test.YtbgojfgapbcanaaDoorZz
namespace Go.Proofs.YtbgojfgapbcanaaDoor
open Go.RowKit
theorem refZigU_v (x : Int) (w : World) (h1 : -9223372036854775808 ≤ x) (h2 : x ≤ 9223372036854775807) :
    Calls Tryd.prog 36 #[.int .i64 x] w fun e w' => e = .returned (.int .u64 ((zigN x : Nat) : Int)) ∧ w = w' := by
  rw [← zigN_of]; exact refZig_v x w h1 h2
theorem refText_v (t : List UInt8) (w : World) (ht : t.length ≤ 1000000000) :
    Calls Tryd.prog 37 #[.string (mkS t)] w fun e w' => e = .returned (.string (mkS (textB t))) ∧ Later w w' := by
  have hs := mkS_size t
  obtain ⟨n, hn⟩ : ∃ n, n = t.length := ⟨_, rfl⟩
  rw [← hn] at hs ht
  have hw : IntKind.u64.wrap (n : Int) = (n : Int) := by rw [IntKind.wrap_u64]; omega
  have hb : mkS (numL n) ++ mkS t = mkS (textB t) := by rw [mkS_add, hn]; rfl
  have h10 := numL_ten (show n < 18446744073709551616 by omega)
  have hs2 := mkS_size (numL n)
  have hs3 : (mkS (numL n)).size ≤ 10 := by omega
  have HN := Lib.hid hn
  clear hn hs2 h10
  go_enter Tryd.func37, Tryd.ntmps37
  go_wp2_with (go_at_call 35; (with_reducible refine (refNum_v n _ ?hx).mono ?_); (case hx => omega); rintro e w1 ⟨rfl, hb1⟩; have HB1 := Lib.hid hb1; clear hb1)
  go_ret
  exact ⟨by rw [← hb]; rfl, HB1.out⟩
theorem textsB_snoc (l : List (List UInt8)) (k : Nat) (h : k < l.length) : textsB (l.take (k + 1)) = textsB (l.take k) ++ textB l[k] := flat_snoc textB l k h
set_option maxRecDepth 100000 in
theorem refRow_v (A : Option Addr) (n cap B : Nat) (l : List (List UInt8)) (w : World) (hr : Rd w B A n (l.map sv)) (hB : B ≤ w.heap.size) (hn : n ≤ 1000000000) (hx : (textsB l).length ≤ 1000000000) :
    Calls Tryd.prog 38 #[.slice A n cap] w fun e w' => e = .returned (.string (mkS (numL l.length ++ textsB l))) ∧ Later w w' := by
  have hl := Lib.hid hr.len_map
  have hw : IntKind.u64.wrap (n : Int) = (n : Int) := by rw [IntKind.wrap_u64]; omega
  have h10 := Lib.hid (numL_ten (show n < 18446744073709551616 by omega))
  have HR := Lib.hid hr
  have HX := Lib.hid hx
  clear hr hx
  go_enter Tryd.func38, Tryd.ntmps38
  go_wp2_with (go_at_call 35; (with_reducible refine (refNum_v n _ ?hx).mono ?_); (case hx => omega); rintro e w1 ⟨rfl, hb1⟩; have HB1 := Lib.hid (show Later w w1 from hb1); clear hb1)
  go_loopw [3, 4] (fun s i wr => ∃ k : Nat, k ≤ n ∧ i = .int .i64 (k : Int) ∧ s = .string (mkS (numL n ++ textsB (l.take k))) ∧ Later w wr) (fun _ i _ => n - (intOf i).toNat)
  case atStart => exact ⟨0, by omega, rfl, by simp [textsB], HB1.out⟩
  case round =>
    obtain ⟨k, hk, rfl, rfl, hb⟩ := hrel
    have HB := Lib.hid hb
    by_cases hlt : k < n
    · obtain ⟨ad, hl1, rfl, _, hc⟩ := (HR.out.below (Below.mono hb hB)).at_map (k := k) hlt
      obtain ⟨t, ht⟩ : ∃ t, t = l[k] := ⟨_, rfl⟩
      rw [← ht] at hc
      have hc1 : wr.cell? (ad.add k) = some (.string (mkS t)) := hc
      have hbound : (textsB (l.take k)).length + (textB t).length ≤ 1000000000 := by
        have h1 := flat_at_len textB l k hl1
        rw [← ht] at h1
        exact Nat.le_trans h1 HX.out
      have htl : t.length ≤ 1000000000 := by
        have : t.length ≤ (textB t).length := by unfold textB; rw [List.length_append]; omega
        omega
      obtain ⟨a, ha⟩ : ∃ a, a = numL n ++ textsB (l.take k) := ⟨_, rfl⟩
      obtain ⟨b, hbb⟩ : ∃ b, b = textB t := ⟨_, rfl⟩
      have htx := fun W => refText_v t W htl
      rw [← hbb] at htx hbound
      rw [← ha]
      have hal : a.length ≤ 1000000010 := by rw [ha, List.length_append]; have := h10.out; omega
      have s1 := mkS_size a
      have s2 := mkS_size b
      have hsum : (mkS a).size + (mkS b).size ≤ 3000000000 := by omega
      have hsa : (mkS a).size ≤ 2000000000 := by omega
      have hsb : (mkS b).size ≤ 1000000000 := by omega
      have hadd := mkS_add a b
      have hstep : a ++ b = numL n ++ textsB (l.take (k + 1)) := by rw [ha, hbb, ht, textsB_snoc l k hl1, List.append_assoc]
      have HS := Lib.hid hstep
      have HTX := Lib.hid htx
      have HADD := Lib.hid hadd
      clear hc ht ha hbb htx hstep hal s1 s2 hadd hbound htl hb
      go_wp2_with (go_at_call 37; (with_reducible refine (HTX.out wr).mono ?_); rintro e w2 ⟨rfl, hb2⟩; have HB2 := Lib.hid (Later.trans HB.out hb2); clear hb2)
      go_roundw
      case rel => exact ⟨k + 1, by omega, by go_num, by rw [HADD.out, HS.out], HB2.out⟩
      case measure => simp [intOf]; omega
    · have e : l.take k = l := by rw [List.take_of_length_le]; have := hl.out; omega
      rw [e]
      have HL := Lib.hid hl.out
      clear e hb
      go_wp2
      go_ret
      exact ⟨by rw [HL.out]; rfl, HB.out⟩
end Go.Proofs.YtbgojfgapbcanaaDoor
