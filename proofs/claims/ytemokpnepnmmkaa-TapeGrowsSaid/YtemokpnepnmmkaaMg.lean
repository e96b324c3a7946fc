/- frame's framed and Put, bytes.Equal, bytes.Clone: what each one tells. -/
import Derived.Test.YtemokpnepnmmkaaMb
import Derived.Test.YtemokpnepnmmkaaMf
import Derived.Test.YtemokpnepnmmkaaFm
import Derived.Deep.Onto
import Derived.Deep.RegionHeld
import Derived.Deep.DrawnRows
namespace Go.Proofs.Ytemokpnepnmmkaa
open Go.RowKit
/-- What grew from nothing behind steps that turned nothing grew from nothing ahead of them. -/
theorem Grew.lower {w w1 w2 : World} {e : TypeId} {v : Value} {xs : List Value} {c : Nat} (h : Grew w1 w2 w1.heap.size e (.slice none 0 c) v xs) (hb : Below w.heap.size w w1) : Grew w w2 w.heap.size e (.slice none 0 c) v xs := by
  have hs := hb.size
  refine ⟨h.own.mono hs, ?_, ?_⟩
  · have h2 := hb.trans (h.belowNil.mono hs)
    exact ⟨h2.os, h2.tape, h2.output, h2.size, fun k hk _ => h2.block k hk⟩
  · rcases h.moved with e1 | ⟨k, e1, hk⟩
    · exact .inl e1
    · exact .inr ⟨k, e1, by omega⟩
theorem rd_one64 (w : World) (x : Nat) : Rd (w.alloc (.cells #[.int .u64 (x : Int)] 62)) (w.heap.size + 1) (some ⟨w.heap.size, 0, none⟩) 1 ([x].map nv) := Rd.lit w 62 [nv x]
theorem put1_v (x : Nat) (w : World) (N : Nat) (hN : N = w.heap.size) (hx : x < 18446744073709551616) :
    Calls Try.prog 40 #[.slice (some ⟨N, 0, none⟩) 1 1] (w.alloc (.cells #[.int .u64 (x : Int)] 62)) fun e w' => ∃ v', e = .returned v' ∧ Grew w w' w.heap.size 5 (.slice none 0 0) v' ((numL x).map bv) := by
  subst hN
  refine (put_v _ 1 1 _ [x] _ (rd_one64 w x) (by simp) (by omega) (by simpa using hx)).mono ?_
  rintro e w' ⟨v', rfl, hg⟩
  have e1 : putL [x] = numL x := by simp [putL]
  rw [e1] at hg
  exact ⟨v', rfl, hg.lower ((Below.refl _ w).alloc (Nat.le_refl _) _)⟩
theorem headL_len (r : List UInt8) : (headL r).length = (numL r.length).length + r.length := by simp [headL]
set_option maxRecDepth 100000 in
theorem framed_v (A : Option Addr) (n cap B : Nat) (bs : List UInt8) (w : World) (hr : Rd w B A n (bs.map bv)) (hB : B ≤ w.heap.size) (hn : n ≤ 1000000000000) :
    Calls Try.prog 31 #[.slice A n cap] w fun e w' => ∃ v', e = .returned v' ∧ Grew w w' w.heap.size 5 (.slice none 0 0) v' ((frameL bs).map bv) := by
  obtain ⟨i0, hi, hz0, hz1, hz2⟩ := info_parts info_u8
  have hlen := hr.len
  have hw : IntKind.u64.wrap (n : Int) = (n : Int) := by rw [IntKind.wrap_u64]; omega
  have h10 := numL_ten (show n < 18446744073709551616 by omega)
  have hhl := headL_len bs
  rw [hlen] at hhl
  have hh : headL bs = numL n ++ bs := by unfold headL; rw [hlen]
  obtain ⟨hd, hhd⟩ : ∃ hd, hd = headL bs := ⟨_, rfl⟩
  have hfr : frameL bs = hd ++ tailL (crcL hd) := by rw [hhd]; rfl
  rw [← hhd] at hhl hh
  have h64 := Lib.hid (show n < 18446744073709551616 by omega)
  have HH := Lib.hid hh
  have HHL := Lib.hid hhl
  have H10 := Lib.hid h10
  have HFR := Lib.hid hfr
  have HLEN := Lib.hid hlen
  have HR := Lib.hid hr
  clear hh hhl h10 hfr hlen hr hhd
  go_enter Try.func31, Try.ntmps31
  go_wp2_with (first
    | (go_at_call 40; (with_reducible refine (put1_v n w _ rfl h64.out).mono ?_); rintro e w1 ⟨v1, rfl, hg1⟩; have hs1 := hg1.grown.size; have HG1 := Lib.hid hg1; clear hg1)
    | (at_builtin; refine wpList_appN w1 rfl (.tmp 8) (.tmp 9) _ rfl w.heap.size 5 i0 (.int .u8 0) 1 Try.underlying28 hi hz0 hz1 hz2 rfl v1 _ rfl HG1.out.own B A n cap (bs.map bv) rfl (HR.out.below (HG1.out.belowNil.mono hB)) (bv_one _) (by have := H10.out; rw [List.length_map]; omega) (by have := H10.out; rw [List.length_map]; omega) hs1 ?_; intro v2 w2 hg2; have hs2 := hg2.grown.size; rw [← List.map_append, ← HH.out] at hg2; have HG2 := Lib.hid (HG1.out.trans hg2); clear hg2; obtain ⟨A2, c2, rfl, h21, h22, h23⟩ := own_map HG2.out.own; have H22 := Lib.hid h22; clear h22 h23)
    | (go_at_call 46; (with_reducible refine (crcOf_v _ _ _ _ hd w2 H22.out (Nat.le_refl _) (by have := HHL.out; have := H10.out; unfold maxLen; omega)).mono ?_); rintro e w3 ⟨rfl, hb3⟩; have hs3 := hb3.size; have HG3 := Lib.hid (HG2.out.then_ hb3); clear hb3)
    | (go_at_call 45; (with_reducible refine (tail_v _ w3 (crcL_lt hd)).mono ?_); rintro e w4 ⟨v4, rfl, hg4⟩; have hs4 := hg4.grown.size; have HG4 := Lib.hid (HG3.out.then_ hg4.belowNil); obtain ⟨A4, c4, rfl, h41, h42, h43⟩ := own_slice hg4.own; have H42 := Lib.hid h42; clear hg4 h42 h43)
    | (at_builtin; refine wpList_appN w4 rfl (.tmp 11) (.tmp 14) _ rfl w.heap.size 5 i0 (.int .u8 0) 1 Try.underlying28 hi hz0 hz1 hz2 rfl _ _ rfl HG4.out.own _ A4 4 c4 ((tailL (crcL hd)).map bv) rfl H42.out (bv_one _) (by have := HHL.out; have := H10.out; rw [List.length_map]; omega) (by have := HHL.out; have := H10.out; rw [List.length_map]; omega) (by omega) ?_; intro v5 w5 hg5; rw [← List.map_append, ← HFR.out] at hg5; have HG5 := Lib.hid (HG4.out.trans hg5); clear hg5))
  go_ret
  exact ⟨_, rfl, HG5.out⟩
theorem flatF_snoc (ls : List (List UInt8)) (k : Nat) (h : k < ls.length) : (ls.take (k + 1)).flatMap frameL = (ls.take k).flatMap frameL ++ frameL ls[k] := flat_snoc frameL ls k h
set_option maxRecDepth 100000 in
theorem putF_v (A : Option Addr) (n cap B : Nat) (ls : List (List UInt8)) (w : World) (hr : RdL w B A n ls) (hB : B ≤ w.heap.size) (hn : n ≤ 1000000000000) (hl : ∀ r ∈ ls, r.length ≤ 65536) (ht : (ls.flatMap frameL).length ≤ 100000000000000) :
    Calls Try.prog 17 #[.slice A n cap] w fun e w' => ∃ v', e = .returned v' ∧ Grew w w' w.heap.size 5 (.slice none 0 0) v' ((ls.flatMap frameL).map bv) := by
  obtain ⟨i0, hi, hz0, hz1, hz2⟩ := info_parts info_u8
  have HLL := Lib.hid hl
  have HT := Lib.hid ht
  have HR := Lib.hid hr
  clear hr hl ht
  go_enter Try.func17, Try.ntmps17
  go_wp2
  go_loopw [3, 8] (fun v i wr => ∃ k : Nat, k ≤ n ∧ i = .int .i64 (k : Int) ∧ Grew w wr w.heap.size 5 (.slice none 0 0) v (((ls.take k).flatMap frameL).map bv)) (fun _ i _ => n - (intOf i).toNat)
  case atStart => exact ⟨0, by omega, rfl, Grew.nil _ _ _⟩
  case round =>
    obtain ⟨k, hk, rfl, hg⟩ := hrel
    have hsz := hg.grown.size
    have HG := Lib.hid hg
    clear hg
    have hln := HR.out.1
    by_cases hlt : k < n
    · obtain ⟨ad, A', n', c', rfl, hb, hc, hr', hcm⟩ := (HR.out.keep (HG.out.belowNil.mono hB)).2 k (by omega)
      have hlen' := hr'.len
      have hrl : n' ≤ 65536 := by rw [← hlen']; exact HLL.out _ (List.getElem_mem (by omega))
      have hgt : ¬ (65536 : Int) < (n' : Int) := by omega
      have hbl := flat_at_len frameL ls k (by omega)
      have HS := Lib.hid (flatF_snoc ls k (by omega))
      obtain ⟨row, hrow⟩ : ∃ row, row = ls[k]'(by omega) := ⟨_, rfl⟩
      rw [← hrow] at hr' hbl HS
      have HR' := Lib.hid hr'
      have HBL := Lib.hid hbl
      clear hr' hbl hrow hlen'
      go_wp2_with (first
        | (go_at_call 31; (with_reducible refine (framed_v _ _ _ _ row wr HR'.out (Nat.le_trans hB hsz) (by omega)).mono ?_); rintro e w1 ⟨v1, rfl, hg1⟩; have hs1 := hg1.grown.size; have HG1 := Lib.hid (HG.out.then_ hg1.belowNil); obtain ⟨A1, c1, rfl, h11, h12, h13⟩ := own_map hg1.own; have H12 := Lib.hid h12; clear hg1 h12 h13)
        | (at_builtin; refine wpList_appN w1 rfl (.tmp 15) (.tmp 17) _ rfl w.heap.size 5 i0 (.int .u8 0) 1 Try.underlying28 hi hz0 hz1 hz2 rfl _ _ rfl HG1.out.own _ A1 (frameL row).length c1 ((frameL row).map bv) rfl H12.out (bv_one _) (by have := HBL.out; have := HT.out; rw [List.length_map]; omega) (by have := HBL.out; have := HT.out; rw [List.length_map]; omega) (by omega) ?_; intro v2 w2 hg2; rw [← List.map_append, ← HS.out] at hg2; have HG2 := Lib.hid (HG1.out.trans hg2); clear hg2))
      go_roundw
      case rel => exact ⟨k + 1, by omega, by go_num, HG2.out⟩
      case measure => simp [intOf]; omega
    · have e : ls.take k = ls := by rw [List.take_of_length_le]; omega
      rw [e] at HG
      clear e
      go_wp2
      go_ret
      exact ⟨_, rfl, HG.out⟩
theorem equal_v (A A' : Option Addr) (n n' c c' B B' : Nat) (l l' : List UInt8) (w : World) (h : Rd w B A n (l.map bv)) (h' : Rd w B' A' n' (l'.map bv)) (r : Bool) (hd : r = decide (l = l')) :
    Calls Try.prog 72 #[.slice A n c, .slice A' n' c'] w fun e w' => e = .returned (.bool r) ∧ w = w' := by
  have h1 := run_str_of (P := Try.prog) h 28 9 5 Try.underlying28 Try.underlying5 Try.underlying9 c
  have h2 := run_str_of (P := Try.prog) h' 28 9 5 Try.underlying28 Try.underlying5 Try.underlying9 c'
  have he : ((mkS l).toList == (mkS l').toList) = r := by
    rw [hd, ByteArray.toList_eq, ByteArray.toList_eq, mkS_list, mkS_list, Bool.eq_iff_iff]; simp
  clear h h' hd
  go_enter Try.func72, Try.ntmps72
  go_wp2
  go_ret
  exact ⟨by simp, rfl⟩
end Go.Proofs.Ytemokpnepnmmkaa
/- bytes.Clone and frame's Take: what each one tells. -/
namespace Go.Proofs.Ytemokpnepnmmkaa
open Go.RowKit
attribute [local go_sem ↓] Go.wp_at_zero Go.wp_at_succ
theorem Grew.fresh {w w' : World} {e : TypeId} {o : Obj} {v v' : Value} {xs : List Value} (h : Grew (w.alloc o) w' w.heap.size e v v' xs) (hv : ∀ k, v.ownBlock = some k → w.heap.size ≤ k) : Grew w w' w.heap.size e (.slice none 0 0) v' xs := by
  have hs := h.grown.size
  rw [World.size_alloc] at hs
  refine ⟨h.own, ?_, ?_⟩
  · have hb : Below w.heap.size w w' := ((Below.refl _ w).alloc (Nat.le_refl _) o).grown h.grown (by simp) hv
    exact ⟨hb.os, hb.tape, hb.output, hb.size, fun k hk _ => hb.block k hk⟩
  · rcases h.moved with e1 | ⟨k, e1, hk⟩
    · cases hvb : v.ownBlock with
      | none => exact .inl (by rw [e1, hvb]; rfl)
      | some k => exact .inr ⟨k, by rw [e1, hvb], hv k hvb⟩
    · exact .inr ⟨k, e1, by rw [World.size_alloc] at hk; omega⟩
set_option maxRecDepth 100000 in
theorem clone_v (ad : Addr) (n cap B : Nat) (bs : List UInt8) (w : World) (hr : Rd w B (some ad) n (bs.map bv)) (hB : B ≤ w.heap.size) (hn : n ≤ 1000000000000) :
    Calls Try.prog 44 #[.slice (some ad) n cap] w fun e w' => ∃ v', e = .returned v' ∧ Grew w w' w.heap.size 5 (.slice none 0 0) v' (bs.map bv) := by
  obtain ⟨i0, hi, hz0, hz1, hz2⟩ := info_parts info_u8
  have HR := Lib.hid hr
  have he : ∀ w : World, (binOp .eql 28 (.slice (some ad) n cap) (.slice none 0 0)).run Try.prog w = .ok (.bool false) w := fun _ => rfl
  clear hr
  go_enter Try.func44, Try.ntmps44
  go_wp2_with (at_builtin; refine wpList_appN _ rfl (.tmp 5) (.tmp 6) _ rfl w.heap.size 5 i0 (.int .u8 0) 1 Try.underlying28 hi hz0 hz1 hz2 rfl (.slice (some ⟨w.heap.size, 0, none⟩) 0 0) [] rfl (World.ownsRow_lit w #[] 0 (Nat.le_refl _) (by simp [maxLen]) rfl) B (some ad) n cap (bs.map bv) rfl (HR.out.below ((Below.refl B w).alloc hB _)) (bv_one _) (by simp; omega) (by simp; omega) (by simp) ?_; intro v2 w2 hg2; rw [List.nil_append] at hg2; have HG2 := Lib.hid (Grew.fresh hg2 (fun k hk => by simp [Value.ownBlock] at hk; omega)); clear hg2)
  go_ret
  exact ⟨_, rfl, HG2.out⟩

/-- The middle of a slice. -/
theorem Rd.mid {w : World} {B n : Nat} {ad : Addr} {bs : List UInt8} (h : Rd w B (some ad) n (bs.map bv)) {i j : Nat} (hij : i ≤ j) (hj : j ≤ n) : Rd w B (some (ad.add i)) (j - i) (((bs.drop i).take (j - i)).map bv) := by
  have hl := h.len
  refine ⟨by simp; omega, fun hn => ?_⟩
  obtain ⟨ad', e, hb, hc⟩ := h.2 (by omega)
  injection e with e
  subst e
  refine ⟨_, rfl, by rw [block_add]; exact hb, fun k u hu => ?_⟩
  rw [add_add]
  refine hc _ u ?_
  rw [List.getElem?_map, List.getElem?_take] at hu
  split at hu
  · rw [List.getElem?_drop] at hu
    rw [List.getElem?_map]; exact hu
  · simp at hu
theorem tuple3 (v : Value) {a b c d : Int} (h1 : a = c) (h2 : b = d) : Ending.returned (.tuple #[v, .int .i64 a, .int .i64 b]) = .returned (.tuple #[v, .int .i64 c, .int .i64 d]) := by rw [h1, h2]
theorem takeF_err {bs : List UInt8} {er : Nat} (h : (takeM bs).2.2 = er) (h0 : er ≠ 0) : takeF bs = ([], 0, er) := by
  unfold takeF; rw [if_pos (by rw [h]; exact h0), h]
theorem takeF_big {bs : List UInt8} (h : (takeM bs).2.2 = 0) (h0 : 65536 < (takeM bs).1) : takeF bs = ([], 0, 13) := by
  unfold takeF; rw [if_neg (by rw [h]; simp), if_pos h0]
theorem takeF_less {bs : List UInt8} (h : (takeM bs).2.2 = 0) (h0 : ¬ 65536 < (takeM bs).1) (h1 : bs.length < (takeM bs).2.1 + (takeM bs).1 + 4) : takeF bs = ([], 0, 10) := by
  unfold takeF; rw [if_neg (by rw [h]; simp), if_neg h0, if_pos h1]
theorem takeF_sum {bs : List UInt8} (h : (takeM bs).2.2 = 0) (h0 : ¬ 65536 < (takeM bs).1) (h1 : ¬ bs.length < (takeM bs).2.1 + (takeM bs).1 + 4) {en : Nat} (hen : (takeM bs).2.1 + (takeM bs).1 = en) (h2 : ¬ (bs.drop en).take 4 = tailL (crcL (bs.take en))) : takeF bs = ([], 0, 12) := by
  unfold takeF; rw [if_neg (by rw [h]; simp), if_neg h0, if_neg h1, hen, if_pos h2]
theorem takeF_yes {bs : List UInt8} (h : (takeM bs).2.2 = 0) (h0 : ¬ 65536 < (takeM bs).1) (h1 : ¬ bs.length < (takeM bs).2.1 + (takeM bs).1 + 4) {en : Nat} (hen : (takeM bs).2.1 + (takeM bs).1 = en) (h2 : (bs.drop en).take 4 = tailL (crcL (bs.take en))) : takeF bs = ((bs.drop (takeM bs).2.1).take (takeM bs).1, en + 4, 0) := by
  unfold takeF; rw [if_neg (by rw [h]; simp), if_neg h0, if_neg h1, hen, if_neg (by simpa using h2)]
set_option maxRecDepth 100000 in
theorem takeF_v (A : Option Addr) (n cap B : Nat) (bs : List UInt8) (w : World) (hr : Rd w B A n (bs.map bv)) (hB : B ≤ w.heap.size) (hn : n ≤ 1000000000000) (hc : n ≤ cap) (hcm : cap ≤ maxLen) :
    Calls Try.prog 59 #[.slice A n cap] w fun e w' => ∃ v', e = .returned (.tuple #[v', .int .i64 ((takeF bs).2.1 : Int), .int .i64 ((takeF bs).2.2 : Int)]) ∧ Grew w w' w.heap.size 5 (.slice none 0 0) v' ((takeF bs).1.map bv) := by
  unfold maxLen at hcm
  have hlen := hr.len
  have hcase := takeM_cases bs
  have hht := heads_le bs
  have htv := take_v A n cap B bs w hr (by omega)
  obtain ⟨sz, hsz⟩ : ∃ sz, (takeM bs).1 = sz := ⟨_, rfl⟩
  obtain ⟨hd, hhd⟩ : ∃ hd, (takeM bs).2.1 = hd := ⟨_, rfl⟩
  obtain ⟨er, her⟩ : ∃ er, (takeM bs).2.2 = er := ⟨_, rfl⟩
  rw [hsz, hhd, her] at htv hcase
  have HTV := Lib.hid htv
  have hd11 : hd ≤ 11 := by rcases hcase with h | h <;> omega
  have hszl : sz < 18446744073709551616 := by rcases hcase with h | h <;> omega
  have HSZ := Lib.hid hsz
  have HHD := Lib.hid hhd
  have HER := Lib.hid her
  have HLEN := Lib.hid hlen
  have HR := Lib.hid hr
  have GN := Lib.hid (Grew.nil w w.heap.size 5)
  clear htv hsz hhd her hlen hr hcase hht
  by_cases he0 : er = 0
  case neg =>
    have HF := Lib.hid (takeF_err HER.out he0)
    clear HER
    go_enter Try.func59, Try.ntmps59
    go_wp2_with (go_at_call 71; (with_reducible refine HTV.out.mono ?_); rintro e w' ⟨rfl, rfl⟩)
    go_ret3
    exact ⟨_, tuple3 _ (by rw [HF.out]; rfl) (by rw [HF.out]), by rw [HF.out]; exact GN.out⟩
  subst he0
  by_cases hbig : 65536 < sz
  · have HF := Lib.hid (takeF_big HER.out (by rw [HSZ.out]; exact hbig))
    go_enter Try.func59, Try.ntmps59
    go_wp2_with (go_at_call 71; (with_reducible refine HTV.out.mono ?_); rintro e w' ⟨rfl, rfl⟩)
    go_ret3
    exact ⟨_, tuple3 _ (by rw [HF.out]; rfl) (by rw [HF.out]; rfl), by rw [HF.out]; exact GN.out⟩
  have hw : IntKind.i64.wrap (sz : Int) = (sz : Int) := by rw [IntKind.wrap_i64]; omega
  by_cases hless : n < hd + sz + 4
  · have HF := Lib.hid (takeF_less HER.out (by rw [HSZ.out]; exact hbig) (by rw [HSZ.out, HHD.out, HLEN.out]; exact hless))
    go_enter Try.func59, Try.ntmps59
    go_wp2_with (go_at_call 71; (with_reducible refine HTV.out.mono ?_); rintro e w' ⟨rfl, rfl⟩)
    go_ret3
    exact ⟨_, tuple3 _ (by rw [HF.out]; rfl) (by rw [HF.out]; rfl), by rw [HF.out]; exact GN.out⟩
  obtain ⟨en, hen⟩ : ∃ en, hd + sz = en := ⟨_, rfl⟩
  have hA : ∃ ad, A = some ad := by
    obtain ⟨ad, e, _⟩ := HR.out.2 (by omega)
    exact ⟨ad, e⟩
  obtain ⟨ad, rfl⟩ := hA
  have r1 := Lib.hid (HR.out.take_ (k := en) (by omega))
  have r2 := Lib.hid (HR.out.mid (i := en) (j := en + 4) (by omega) (by omega))
  have r3 := Lib.hid (HR.out.mid (i := hd) (j := en) (by omega) (by omega))
  rw [← List.map_take] at r1
  rw [show en + 4 - en = 4 by omega] at r2
  obtain ⟨x, hx⟩ : ∃ x, x = crcL (bs.take en) := ⟨_, rfl⟩
  have hcl : Hid (x < 4294967296) := Lib.hid (by rw [hx]; exact crcL_lt _)
  have HX := Lib.hid hx
  have HEN := Lib.hid hen
  have hw2 : (hd : Int) + (sz : Int) = (en : Int) := by omega
  have hbw := Lib.hid ((Below.refl w.heap.size w).drew)
  have KOF : Hid (∀ W, Below w.heap.size w W → Calls Try.prog 46 #[.slice (some ad) en cap] W fun e w' => e = .returned (.int .u32 (x : Int)) ∧ Below w.heap.size w w') := by
    refine Lib.hid fun W hW => (crcOf_v _ _ _ _ (bs.take en) W (r1.out.below (hW.mono hB)) (Nat.le_trans hB hW.size) (by unfold maxLen; omega)).mono ?_
    rintro e w' ⟨rfl, hb⟩
    rw [← hx]
    exact ⟨rfl, hW.trans (hb.mono hW.size)⟩
  clear hx hen
  have hi1 : (0 : Int) ≤ (en : Int) := by omega
  have hi2 : (en : Int) ≤ (cap : Int) := by omega
  have hi3 : (en : Int) ≤ (en : Int) + 4 := by omega
  have hi4 : (en : Int) + 4 ≤ (cap : Int) := by omega
  have hne : ¬ cap = en := by omega
  have hi5 : (0 : Int) ≤ (hd : Int) := by omega
  have hi6 : (hd : Int) ≤ (en : Int) := by omega
  have hne2 : ¬ cap = hd := by omega
  have hsz2 : en - hd = sz := by omega
  rw [hsz2] at r3
  have HWA : Hid (IntKind.i64.wrap ((en : Int) + 4) = (en : Int) + 4) := Lib.hid (by rw [IntKind.wrap_i64]; omega)
  have HTN : Hid (((en : Int) + 4).toNat = en + 4) := Lib.hid (by omega)
  have HWB : Hid (wrap64 ((en : Int) + 4) = (en : Int) + 4) := Lib.hid (by unfold wrap64; omega)
  by_cases hsum : (bs.drop en).take 4 = tailL x
  · have HF := Lib.hid (takeF_yes (en := en) HER.out (by rw [HSZ.out]; exact hbig) (by rw [HSZ.out, HHD.out, HLEN.out]; exact hless) (by rw [HSZ.out, HHD.out]; exact HEN.out) (by rw [← HX.out]; exact hsum))
    rw [HHD.out, HSZ.out] at HF
    have HS := Lib.hid (decide_eq_true hsum).symm
    clear hsum
    go_enter Try.func59, Try.ntmps59
    go_wp2_with (go_at_call 71; (with_reducible refine HTV.out.mono ?_); rintro e w' ⟨rfl, rfl⟩)
    have hwa := HWA.out
    have htn := HTN.out
    have hwb := HWB.out
    go_region_held (fun w' => Hid (Below w.heap.size w w')) (first | assumption | exact hbw)
      (first
        | (go_at_call 46; (with_reducible refine (KOF.out _ hbw.out).mono ?_); rintro e w6 ⟨rfl, hb6'⟩; have hb6 := Lib.hid hb6'; clear hb6')
        | (go_at_call 45; (with_reducible refine (tail_v _ w6 hcl.out).mono ?_); rintro e w7 ⟨v7, rfl, hg7⟩; have hb7 := Lib.hid (hb6.out.trans (hg7.belowNil.mono hb6.out.size)); obtain ⟨A7, c7, rfl, h71, h72, h73⟩ := own_map hg7.own; have H72 := Lib.hid h72; clear h71 h72 h73 hg7)
        | (go_at_call 72; (with_reducible refine (equal_v _ _ _ _ _ _ _ _ _ _ w7 (r2.out.below (hb7.out.mono hB)) H72.out _ HS.out).mono ?_); rintro e w8 ⟨rfl, rfl⟩))
    all_goals clear hwa htn hwb
    all_goals go_wp2_with (go_at_call 44; (with_reducible refine (clone_v _ _ _ _ _ w7 (r3.out.below (hb7.out.mono hB)) (Nat.le_trans hB hb7.out.size) (by omega)).mono ?_); rintro e w9 ⟨v9, rfl, hg9⟩; have HG9 := Lib.hid (hg9.lower hb7.out); clear hg9)
    all_goals go_ret3
    all_goals exact ⟨_, tuple3 _ (by rw [HF.out]; simp) (by rw [HF.out]; rfl), by rw [HF.out]; exact HG9.out⟩
  · have HF := Lib.hid (takeF_sum (en := en) HER.out (by rw [HSZ.out]; exact hbig) (by rw [HSZ.out, HHD.out, HLEN.out]; exact hless) (by rw [HSZ.out, HHD.out]; exact HEN.out) (by rw [← HX.out]; exact hsum))
    have HS := Lib.hid (decide_eq_false hsum).symm
    clear hsum
    go_enter Try.func59, Try.ntmps59
    go_wp2_with (go_at_call 71; (with_reducible refine HTV.out.mono ?_); rintro e w' ⟨rfl, rfl⟩)
    have hwa := HWA.out
    have htn := HTN.out
    have hwb := HWB.out
    go_region_held (fun w' => Hid (Below w.heap.size w w')) (first | assumption | exact hbw)
      (first
        | (go_at_call 46; (with_reducible refine (KOF.out _ hbw.out).mono ?_); rintro e w6 ⟨rfl, hb6'⟩; have hb6 := Lib.hid hb6'; clear hb6')
        | (go_at_call 45; (with_reducible refine (tail_v _ w6 hcl.out).mono ?_); rintro e w7 ⟨v7, rfl, hg7⟩; have hb7 := Lib.hid (hb6.out.trans (hg7.belowNil.mono hb6.out.size)); obtain ⟨A7, c7, rfl, h71, h72, h73⟩ := own_map hg7.own; have H72 := Lib.hid h72; clear h71 h72 h73 hg7)
        | (go_at_call 72; (with_reducible refine (equal_v _ _ _ _ _ _ _ _ _ _ w7 (r2.out.below (hb7.out.mono hB)) H72.out _ HS.out).mono ?_); rintro e w8 ⟨rfl, rfl⟩))
    all_goals clear hwa htn hwb
    all_goals go_wp2
    all_goals go_ret3
    all_goals exact ⟨_, tuple3 _ (by rw [HF.out]; rfl) (by rw [HF.out]; rfl), by rw [HF.out]; exact (Grew.nil w7 w7.heap.size 5).lower hb7.out⟩
end Go.Proofs.Ytemokpnepnmmkaa
