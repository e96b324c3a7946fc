/- frame's framed and Put, bytes.Equal, bytes.Clone: what each one tells. -/
import Derived.Test.YtokcgbfncinilaaPutN
import Derived.Test.YtokcgbfncinilaaCrcN
import Derived.Test.YtokcgbfncinilaaFm
import Derived.Deep.Onto
namespace Go.Proofs.Ytokcgbfncinilaa
open Go.RowKit
/-- What grew from nothing behind steps that turned nothing grew from nothing ahead of them. -/
theorem Grew.lower {w w1 w2 : World} {e : TypeId} {v : Value} {xs : List Value} {c : Nat} (h : Grew w1 w2 w1.heap.size e (.slice none 0 c) v xs) (hb : Below w.heap.size w w1) : Grew w w2 w.heap.size e (.slice none 0 c) v xs := by
  have hs := hb.size
  refine ⟨h.own.mono hs, ?_, ?_⟩
  · have h2 := hb.trans (h.belowNil.mono hs)
    exact ⟨h2.os, h2.tape, h2.output, h2.size, fun k hk _ => h2.block k hk⟩
  · rcases h.moved with e1 | ⟨k, e1, hk⟩
    · exact .inl e1
    · exact .inr ⟨k, e1, by omega⟩
theorem rd_one64 (w : World) (x : Nat) : Rd (w.alloc (.cells #[.int .u64 (x : Int)] 29)) (w.heap.size + 1) (some ⟨w.heap.size, 0, none⟩) 1 ([x].map nv) := Rd.lit w 29 [nv x]
theorem put1_v (x : Nat) (w : World) (N : Nat) (hN : N = w.heap.size) (hx : x < 18446744073709551616) :
    Calls Try.prog 19 #[.slice (some ⟨N, 0, none⟩) 1 1] (w.alloc (.cells #[.int .u64 (x : Int)] 29)) fun e w' => ∃ v', e = .returned v' ∧ Grew w w' w.heap.size 5 (.slice none 0 0) v' ((numL x).map bv) := by
  subst hN
  refine (put_v _ 1 1 _ [x] _ (rd_one64 w x) (by simp) (by omega) (by simpa using hx)).mono ?_
  rintro e w' ⟨v', rfl, hg⟩
  have e1 : putL [x] = numL x := by simp [putL]
  rw [e1] at hg
  exact ⟨v', rfl, hg.lower ((Below.refl _ w).alloc (Nat.le_refl _) _)⟩
theorem headL_len (r : List UInt8) : (headL r).length = (numL r.length).length + r.length := by simp [headL]
set_option maxRecDepth 100000 in
theorem framed_v (A : Option Addr) (n cap B : Nat) (bs : List UInt8) (w : World) (hr : Rd w B A n (bs.map bv)) (hB : B ≤ w.heap.size) (hn : n ≤ 1000000000000) :
    Calls Try.prog 12 #[.slice A n cap] w fun e w' => ∃ v', e = .returned v' ∧ Grew w w' w.heap.size 5 (.slice none 0 0) v' ((frameL bs).map bv) := by
  obtain ⟨i0, hi, hz0, hz1, hz2⟩ := info_parts info_u8
  have hlen := hr.len
  have hw : IntKind.u64.wrap (n : Int) = (n : Int) := by rw [IntKind.wrap_u64]; omega
  have h10 := numL_ten (show n < 18446744073709551616 by omega)
  have hhl := headL_len bs
  rw [hlen] at hhl
  have hh : headL bs = numL n ++ bs := by unfold headL; rw [hlen]
  obtain ⟨hd, hhd⟩ : ∃ hd, hd = headL bs := ⟨_, rfl⟩
  have hfr : frameL bs = hd ++ tailL (crcL hd) := by rw [hhd]; rfl
  rw [← hhd] at hhl hh
  have h64 := Lib.hid (show n < 18446744073709551616 by omega)
  have HH := Lib.hid hh
  have HHL := Lib.hid hhl
  have H10 := Lib.hid h10
  have HFR := Lib.hid hfr
  have HLEN := Lib.hid hlen
  have HR := Lib.hid hr
  clear hh hhl h10 hfr hlen hr hhd
  go_enter Try.func12, Try.ntmps12
  go_wp2_with (first
    | (go_at_call 19; (with_reducible refine (put1_v n w _ rfl h64.out).mono ?_); rintro e w1 ⟨v1, rfl, hg1⟩; have hs1 := hg1.grown.size; have HG1 := Lib.hid hg1; clear hg1)
    | (at_builtin; refine wpList_appN w1 rfl (.tmp 8) (.tmp 9) _ rfl w.heap.size 5 i0 (.int .u8 0) 1 Try.underlying26 hi hz0 hz1 hz2 rfl v1 _ rfl HG1.out.own B A n cap (bs.map bv) rfl (HR.out.below (HG1.out.belowNil.mono hB)) (bv_one _) (by have := H10.out; rw [List.length_map]; omega) (by have := H10.out; rw [List.length_map]; omega) hs1 ?_; intro v2 w2 hg2; have hs2 := hg2.grown.size; rw [← List.map_append, ← HH.out] at hg2; have HG2 := Lib.hid (HG1.out.trans hg2); clear hg2; obtain ⟨A2, c2, rfl, h21, h22, h23⟩ := own_map HG2.out.own; have H22 := Lib.hid h22; clear h22 h23)
    | (go_at_call 17; (with_reducible refine (crcOf_v _ _ _ _ hd w2 H22.out (Nat.le_refl _) (by have := HHL.out; have := H10.out; unfold maxLen; omega)).mono ?_); rintro e w3 ⟨rfl, hb3⟩; have hs3 := hb3.size; have HG3 := Lib.hid (HG2.out.then_ hb3); clear hb3)
    | (go_at_call 16; (with_reducible refine (tail_v _ w3 (crcL_lt hd)).mono ?_); rintro e w4 ⟨v4, rfl, hg4⟩; have hs4 := hg4.grown.size; have HG4 := Lib.hid (HG3.out.then_ hg4.belowNil); obtain ⟨A4, c4, rfl, h41, h42, h43⟩ := own_slice hg4.own; have H42 := Lib.hid h42; clear hg4 h42 h43)
    | (at_builtin; refine wpList_appN w4 rfl (.tmp 11) (.tmp 14) _ rfl w.heap.size 5 i0 (.int .u8 0) 1 Try.underlying26 hi hz0 hz1 hz2 rfl _ _ rfl HG4.out.own _ A4 4 c4 ((tailL (crcL hd)).map bv) rfl H42.out (bv_one _) (by have := HHL.out; have := H10.out; rw [List.length_map]; omega) (by have := HHL.out; have := H10.out; rw [List.length_map]; omega) (by omega) ?_; intro v5 w5 hg5; rw [← List.map_append, ← HFR.out] at hg5; have HG5 := Lib.hid (HG4.out.trans hg5); clear hg5))
  go_ret
  exact ⟨_, rfl, HG5.out⟩
theorem flatF_snoc (ls : List (List UInt8)) (k : Nat) (h : k < ls.length) : (ls.take (k + 1)).flatMap frameL = (ls.take k).flatMap frameL ++ frameL ls[k] := flat_snoc frameL ls k h
set_option maxRecDepth 100000 in
theorem putF_v (A : Option Addr) (n cap B : Nat) (ls : List (List UInt8)) (w : World) (hr : RdL w B A n ls) (hB : B ≤ w.heap.size) (hn : n ≤ 1000000000000) (hl : ∀ r ∈ ls, r.length ≤ 65536) (ht : (ls.flatMap frameL).length ≤ 100000000000000) :
    Calls Try.prog 8 #[.slice A n cap] w fun e w' => ∃ v', e = .returned v' ∧ Grew w w' w.heap.size 5 (.slice none 0 0) v' ((ls.flatMap frameL).map bv) := by
  obtain ⟨i0, hi, hz0, hz1, hz2⟩ := info_parts info_u8
  have HLL := Lib.hid hl
  have HT := Lib.hid ht
  have HR := Lib.hid hr
  clear hr hl ht
  go_enter Try.func8, Try.ntmps8
  go_wp2
  go_loopw [3, 8] (fun v i wr => ∃ k : Nat, k ≤ n ∧ i = .int .i64 (k : Int) ∧ Grew w wr w.heap.size 5 (.slice none 0 0) v (((ls.take k).flatMap frameL).map bv)) (fun _ i _ => n - (intOf i).toNat)
  case atStart => exact ⟨0, by omega, rfl, Grew.nil _ _ _⟩
  case round =>
    obtain ⟨k, hk, rfl, hg⟩ := hrel
    have hsz := hg.grown.size
    have HG := Lib.hid hg
    clear hg
    have hln := HR.out.1
    by_cases hlt : k < n
    · obtain ⟨ad, A', n', c', rfl, hb, hc, hr', hcm⟩ := (HR.out.keep (HG.out.belowNil.mono hB)).2 k (by omega)
      have hlen' := hr'.len
      have hrl : n' ≤ 65536 := by rw [← hlen']; exact HLL.out _ (List.getElem_mem (by omega))
      have hgt : ¬ (65536 : Int) < (n' : Int) := by omega
      have hbl := flat_at_len frameL ls k (by omega)
      have HS := Lib.hid (flatF_snoc ls k (by omega))
      obtain ⟨row, hrow⟩ : ∃ row, row = ls[k]'(by omega) := ⟨_, rfl⟩
      rw [← hrow] at hr' hbl HS
      have HR' := Lib.hid hr'
      have HBL := Lib.hid hbl
      clear hr' hbl hrow hlen'
      go_wp2_with (first
        | (go_at_call 12; (with_reducible refine (framed_v _ _ _ _ row wr HR'.out (Nat.le_trans hB hsz) (by omega)).mono ?_); rintro e w1 ⟨v1, rfl, hg1⟩; have hs1 := hg1.grown.size; have HG1 := Lib.hid (HG.out.then_ hg1.belowNil); obtain ⟨A1, c1, rfl, h11, h12, h13⟩ := own_map hg1.own; have H12 := Lib.hid h12; clear hg1 h12 h13)
        | (at_builtin; refine wpList_appN w1 rfl (.tmp 15) (.tmp 17) _ rfl w.heap.size 5 i0 (.int .u8 0) 1 Try.underlying26 hi hz0 hz1 hz2 rfl _ _ rfl HG1.out.own _ A1 (frameL row).length c1 ((frameL row).map bv) rfl H12.out (bv_one _) (by have := HBL.out; have := HT.out; rw [List.length_map]; omega) (by have := HBL.out; have := HT.out; rw [List.length_map]; omega) (by omega) ?_; intro v2 w2 hg2; rw [← List.map_append, ← HS.out] at hg2; have HG2 := Lib.hid (HG1.out.trans hg2); clear hg2))
      go_roundw
      case rel => exact ⟨k + 1, by omega, by go_num, HG2.out⟩
      case measure => simp [intOf]; omega
    · have e : ls.take k = ls := by rw [List.take_of_length_le]; omega
      rw [e] at HG
      clear e
      go_wp2
      go_ret
      exact ⟨_, rfl, HG.out⟩
theorem equal_v (A A' : Option Addr) (n n' c c' B B' : Nat) (l l' : List UInt8) (w : World) (h : Rd w B A n (l.map bv)) (h' : Rd w B' A' n' (l'.map bv)) (r : Bool) (hd : r = decide (l = l')) :
    Calls Try.prog 15 #[.slice A n c, .slice A' n' c'] w fun e w' => e = .returned (.bool r) ∧ w = w' := by
  have h1 := run_str_of (P := Try.prog) h 26 9 5 Try.underlying26 Try.underlying5 Try.underlying9 c
  have h2 := run_str_of (P := Try.prog) h' 26 9 5 Try.underlying26 Try.underlying5 Try.underlying9 c'
  have he : ((mkS l).toList == (mkS l').toList) = r := by
    rw [hd, ByteArray.toList_eq, ByteArray.toList_eq, mkS_list, mkS_list, Bool.eq_iff_iff]; simp
  clear h h' hd
  go_enter Try.func15, Try.ntmps15
  go_wp2
  go_ret
  exact ⟨by simp, rfl⟩
end Go.Proofs.Ytokcgbfncinilaa
