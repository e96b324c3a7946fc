/- Frames as plain mathematics: a row's frame, what bytes begin with, what they are scanned as; cut, and turned. No premises. -/
import Derived.Test.YtemokpnepnmmkaaMa
import Derived.Test.YtemokpnepnmmkaaMf
import Derived.Test.YtemokpnepnmmkaaMb
import Derived.Deep.Onto
import Derived.Deep.RegionHeld
import Derived.Deep.DrawnRows
namespace Go.Proofs.Ytemokpnepnmmkaa
theorem tailL_length (x : Nat) : (tailL x).length = 4 := rfl
/-- Any four bytes are a number's. -/
theorem four_tail (D : List UInt8) (h : D.length = 4) : ∃ t, t < 4294967296 ∧ D = tailL t := by
  match D, h with
  | [a, b, c, d], _ =>
    have ha := a.toNat_lt
    have hb := b.toNat_lt
    have hc := c.toNat_lt
    have hd := d.toNat_lt
    refine ⟨a.toNat + 256 * b.toNat + 65536 * c.toNat + 16777216 * d.toNat, by omega, ?_⟩
    have e : ∀ (x : UInt8) (n : Nat), n = x.toNat → x = UInt8.ofNat n := fun x n h => by subst h; simp
    simp only [tailL]
    rw [← e a _ (by omega), ← e b _ (by omega), ← e c _ (by omega), ← e d _ (by omega)]
theorem tailL_same {x y : Nat} (hx : x < 4294967296) (hy : y < 4294967296) (h : tailL x = tailL y) : x = y := by
  have h1 := (tailL_bits hx).1
  rw [h, (tailL_bits hy).1] at h1
  exact h1.symm
/-- A row with how many bytes it has ahead. -/
def headL (r : List UInt8) : List UInt8 := numL r.length ++ r
/-- A row's frame. -/
def frameL (r : List UInt8) : List UInt8 := headL r ++ tailL (crcL (headL r))
/-- What is put. -/
def putF (l : List (List UInt8)) : List UInt8 := if l.any (fun r => decide (65536 < r.length)) then [] else l.flatMap frameL
/-- What bytes begin with: the row, its frame's length, the error. -/
def takeF (b : List UInt8) : List UInt8 × Nat × Nat :=
  if (takeM b).2.2 ≠ 0 then ([], 0, (takeM b).2.2) else if 65536 < (takeM b).1 then ([], 0, 13)
  else if b.length < (takeM b).2.1 + (takeM b).1 + 4 then ([], 0, 10)
  else if (b.drop ((takeM b).2.1 + (takeM b).1)).take 4 ≠ tailL (crcL (b.take ((takeM b).2.1 + (takeM b).1))) then ([], 0, 12)
  else ((b.drop (takeM b).2.1).take (takeM b).1, (takeM b).2.1 + (takeM b).1 + 4, 0)
/-- What bytes are scanned as: the rows, how many bytes they have, the error. -/
def scanF : Nat → List UInt8 → List (List UInt8) × Nat × Nat
  | 0, _ => ([], 0, 0)
  | f + 1, b => if b = [] then ([], 0, 0) else if (takeF b).2.2 ≠ 0 then ([], 0, (takeF b).2.2)
    else ((takeF b).1 :: (scanF f (b.drop (takeF b).2.1)).1, (takeF b).2.1 + (scanF f (b.drop (takeF b).2.1)).2.1, (scanF f (b.drop (takeF b).2.1)).2.2)
theorem frameL_len (r : List UInt8) : (frameL r).length = (numL r.length).length + r.length + 4 := by simp [frameL, headL, tailL_length]; omega
theorem frameL_pos (r : List UInt8) : 5 ≤ (frameL r).length := by have := numL_ne r.length; rw [frameL_len]; omega
theorem frame_ne (r x : List UInt8) : frameL r ++ x ≠ [] := by
  intro h
  have h1 := frameL_pos r
  have h2 := congrArg List.length h
  rw [List.length_append, List.length_nil] at h2
  omega
theorem frame_take_ne (r : List UInt8) (k : Nat) (h : k ≠ 0) : (frameL r).take k ≠ [] := by
  intro he
  have h1 := frameL_pos r
  have h2 := congrArg List.length he
  rw [List.length_take, List.length_nil] at h2
  omega
/-- A frame is taken, whatever stands behind. -/
theorem takeF_frame (r rest : List UInt8) (hr : r.length ≤ 65536) : takeF (frameL r ++ rest) = (r, (frameL r).length, 0) := by
  have hm : takeM (frameL r ++ rest) = (r.length, (numL r.length).length, 0) := by
    rw [frameL, headL, List.append_assoc, List.append_assoc]
    exact takeM_numL (by omega) _
  have hl := frameL_len r
  have h1 : (frameL r ++ rest).take ((numL r.length).length + r.length) = headL r := by
    rw [frameL, List.append_assoc, show (numL r.length).length + r.length = (headL r).length by simp [headL]]
    exact List.take_left ..
  have h2 : ((frameL r ++ rest).drop ((numL r.length).length + r.length)).take 4 = tailL (crcL (headL r)) := by
    rw [frameL, List.append_assoc, show (numL r.length).length + r.length = (headL r).length by simp [headL], List.drop_left, ← tailL_length (crcL (headL r))]
    exact List.take_left ..
  have h3 : ((frameL r ++ rest).drop (numL r.length).length).take r.length = r := by
    rw [frameL, headL, List.append_assoc, List.append_assoc, List.drop_left]
    exact List.take_left ..
  unfold takeF
  rw [hm]
  dsimp only
  rw [if_neg (by omega), if_neg (by omega), if_neg (by rw [List.length_append]; omega), h1, h2, if_neg (by simp), h3, hl]
theorem drop_frame (r rest : List UInt8) : (frameL r ++ rest).drop (frameL r).length = rest := List.drop_left ..
/-- A frame that is cut is short. -/
theorem takeF_cut (r : List UInt8) (k : Nat) (hr : r.length ≤ 65536) (hk : k < (frameL r).length) : takeF ((frameL r).take k) = ([], 0, 10) := by
  have hl := frameL_len r
  by_cases h : k < (numL r.length).length
  · have hm : takeM ((frameL r).take k) = (0, 0, 10) := by
      rw [frameL, headL, List.append_assoc, List.take_append_of_le_length (by omega)]
      exact take_short (by omega) h
    unfold takeF
    rw [hm]; rfl
  · have hm : takeM ((frameL r).take k) = (r.length, (numL r.length).length, 0) := by
      rw [frameL, headL, List.append_assoc, List.take_append, List.take_of_length_le (by omega)]
      exact takeM_numL (by omega) _
    unfold takeF
    rw [hm]
    dsimp only
    rw [if_neg (by omega), if_neg (by omega), if_pos (by rw [List.length_take]; omega)]
/-- Where a row of rows is cut: how many frames are whole, where they end. -/
def wholeF : List (List UInt8) → Nat → Nat
  | [], _ => 0
  | r :: l, k => if k < (frameL r).length then 0 else wholeF l (k - (frameL r).length) + 1
theorem flatF_cons (r : List UInt8) (l : List (List UInt8)) : (r :: l).flatMap frameL = frameL r ++ l.flatMap frameL := by simp
theorem scan_cut : ∀ (l : List (List UInt8)) (k f : Nat), (∀ r ∈ l, r.length ≤ 65536) → k ≤ (l.flatMap frameL).length → k ≤ f →
    scanF f ((l.flatMap frameL).take k) = (l.take (wholeF l k), ((l.take (wholeF l k)).flatMap frameL).length, if k = ((l.take (wholeF l k)).flatMap frameL).length then 0 else 10)
  | [], k, f, _, hk, _ => by
    have : k = 0 := by simpa using hk
    subst this
    cases f <;> simp [scanF, wholeF]
  | r :: l, k, f, hr, hk, hf => by
    have hrl := hr r (List.mem_cons_self ..)
    have hpos := frameL_pos r
    rw [flatF_cons] at hk ⊢
    by_cases h0 : k = 0
    · subst h0
      have hw : wholeF (r :: l) 0 = 0 := by unfold wholeF; rw [if_pos (by omega)]
      rw [hw]
      cases f <;> simp [scanF]
    · obtain ⟨f, rfl⟩ : ∃ g, f = g + 1 := ⟨f - 1, by omega⟩
      by_cases h : k < (frameL r).length
      · have hw : wholeF (r :: l) k = 0 := by unfold wholeF; rw [if_pos h]
        rw [hw, List.take_append_of_le_length (by omega), scanF, if_neg (frame_take_ne r k h0), takeF_cut r k hrl h]
        simp [h0]
      · have hw : wholeF (r :: l) k = wholeF l (k - (frameL r).length) + 1 := by rw [wholeF, if_neg h]
        have hx : (frameL r ++ l.flatMap frameL).take k = frameL r ++ (l.flatMap frameL).take (k - (frameL r).length) := by
          rw [List.take_append, List.take_of_length_le (by omega)]
        have ih := scan_cut l (k - (frameL r).length) f (fun x hx => hr x (List.mem_cons_of_mem _ hx)) (by rw [List.length_append] at hk; omega) (by omega)
        rw [hw, hx, scanF, if_neg (frame_ne r _), takeF_frame r _ hrl]
        dsimp only
        rw [if_neg (by omega), drop_frame, ih]
        dsimp only
        rw [List.take_succ_cons, flatF_cons, List.length_append]
        congr 2
        by_cases he : k - (frameL r).length = ((l.take (wholeF l (k - (frameL r).length))).flatMap frameL).length
        · rw [if_pos he, if_pos (by omega)]
        · rw [if_neg he, if_neg (by omega)]
theorem scan_all (l : List (List UInt8)) (f : Nat) (hr : ∀ r ∈ l, r.length ≤ 65536) (hf : (l.flatMap frameL).length ≤ f) : scanF f (l.flatMap frameL) = (l, (l.flatMap frameL).length, 0) := by
  have hw : ∀ l : List (List UInt8), wholeF l (l.flatMap frameL).length = l.length := by
    intro l
    induction l with
    | nil => rfl
    | cons r l ih =>
      rw [flatF_cons, List.length_append, wholeF, if_neg (by omega), Nat.add_sub_cancel_left, ih]; rfl
  have h := scan_cut l (l.flatMap frameL).length f hr (Nat.le_refl _) hf
  rw [List.take_of_length_le (Nat.le_refl _), hw, List.take_of_length_le (Nat.le_refl _)] at h
  simpa using h
/-- Frames ahead are scanned, whatever stands behind them. -/
theorem scan_ahead : ∀ (l : List (List UInt8)) (rest : List UInt8) (f : Nat), (∀ r ∈ l, r.length ≤ 65536) → l.length ≤ f →
    scanF f (l.flatMap frameL ++ rest) = (l ++ (scanF (f - l.length) rest).1, (l.flatMap frameL).length + (scanF (f - l.length) rest).2.1, (scanF (f - l.length) rest).2.2)
  | [], rest, f, _, _ => by simp
  | r :: l, rest, f, hr, hf => by
    obtain ⟨f, rfl⟩ : ∃ g, f = g + 1 := ⟨f - 1, by simp at hf; omega⟩
    have hrl := hr r (List.mem_cons_self ..)
    have hpos := frameL_pos r
    have ih := scan_ahead l rest f (fun x hx => hr x (List.mem_cons_of_mem _ hx)) (by simpa using hf)
    rw [flatF_cons, List.append_assoc, scanF, if_neg (frame_ne r _), takeF_frame r _ hrl]
    dsimp only
    rw [if_neg (by omega), drop_frame, ih]
    dsimp only
    simp only [List.length_cons, Nat.add_sub_add_right, List.cons_append, List.length_append]
    congr 2
    omega
/-- A frame of which up to 32 bits on end, behind the length, are others, isn't taken. -/
theorem takeF_turned (r m rest : List UInt8) (b t : Nat) (hr : r.length ≤ 65536) (hml : m.length = r.length + 4) (hb : b + 32 ≤ 8 * (r.length + 4)) (ht0 : t ≠ 0) (ht : t < 4294967296)
    (h : ∀ p, p < 8 * (r.length + 4) → bitAt m p = (bitAt (r ++ tailL (crcL (headL r))) p ^^ (decide (b ≤ p ∧ p < b + 32) && t.testBit (p - b)))) :
    takeF (numL r.length ++ m ++ rest) = ([], 0, 12) := by
  have hm : takeM (numL r.length ++ m ++ rest) = (r.length, (numL r.length).length, 0) := by
    rw [List.append_assoc]; exact takeM_numL (by omega) _
  have hmt : m = m.take r.length ++ m.drop r.length := (List.take_append_drop ..).symm
  have h1 : (numL r.length ++ m ++ rest).take ((numL r.length).length + r.length) = numL r.length ++ m.take r.length := by
    rw [List.append_assoc, List.take_append, List.take_of_length_le (by omega), Nat.add_sub_cancel_left, List.take_append_of_le_length (by omega)]
  have h2 : ((numL r.length ++ m ++ rest).drop ((numL r.length).length + r.length)).take 4 = m.drop r.length := by
    rw [List.append_assoc, ← List.drop_drop, List.drop_left, List.drop_append_of_le_length (by omega), List.take_append_of_le_length (by simp; omega), List.take_of_length_le (by simp; omega)]
  obtain ⟨t1, ht1, hD⟩ := four_tail (m.drop r.length) (by rw [List.length_drop]; omega)
  have hne : t1 ≠ crcL (numL r.length ++ m.take r.length) := by
    have hsh : ∀ (a l : List UInt8) (p : Nat), bitAt (a ++ l) (8 * a.length + p) = bitAt l p := by
      intro a l p
      unfold bitAt
      rw [show (8 * a.length + p) / 8 = a.length + p / 8 by omega, show (8 * a.length + p) % 8 = p % 8 by omega]
      congr 2
      simp [List.getD, List.getElem?_append_right]
    have hlo : ∀ (a l : List UInt8) (p : Nat), p < 8 * a.length → bitAt (a ++ l) p = bitAt a p := by
      intro a l p hp
      unfold bitAt
      rw [getD_append_left a l (p / 8) (by omega)]
    refine turned_tail (headL r) (numL r.length ++ m.take r.length) t1 (numL r.length ++ m) (8 * (numL r.length).length + b) t ?_ (by simp [headL]; omega) (by simp [headL]; omega) ht0 ht ?_
    · rw [List.append_assoc, ← hD, ← hmt]
    · intro p hp
      have hp' : p < 8 * ((numL r.length).length + r.length + 4) := by simpa [headL] using hp
      rw [show headL r ++ tailL (crcL (headL r)) = numL r.length ++ (r ++ tailL (crcL (headL r))) by simp [headL]]
      by_cases hpn : p < 8 * (numL r.length).length
      · rw [hlo _ _ p hpn, hlo _ _ p hpn]
        have : decide (8 * (numL r.length).length + b ≤ p ∧ p < 8 * (numL r.length).length + b + 32) = false := decide_eq_false (by omega)
        rw [this]; simp
      · obtain ⟨q, rfl⟩ : ∃ q, p = 8 * (numL r.length).length + q := ⟨p - 8 * (numL r.length).length, by omega⟩
        rw [hsh, hsh, h q (by omega)]
        congr 2
        · rw [decide_eq_decide]; omega
        · congr 1; omega
  unfold takeF
  rw [hm]
  dsimp only
  rw [if_neg (by omega), if_neg (by omega), if_neg (by simp; omega), h1, h2, hD, if_pos ?_]
  intro he
  exact hne (tailL_same ht1 (crcL_lt _) he)
end Go.Proofs.Ytemokpnepnmmkaa
/- frame's framed and Put, bytes.Equal, bytes.Clone: what each one tells. -/
namespace Go.Proofs.Ytemokpnepnmmkaa
open Go.RowKit
/-- What grew from nothing behind steps that turned nothing grew from nothing ahead of them. -/
theorem Grew.lower {w w1 w2 : World} {e : TypeId} {v : Value} {xs : List Value} {c : Nat} (h : Grew w1 w2 w1.heap.size e (.slice none 0 c) v xs) (hb : Below w.heap.size w w1) : Grew w w2 w.heap.size e (.slice none 0 c) v xs := by
  have hs := hb.size
  refine ⟨h.own.mono hs, ?_, ?_⟩
  · have h2 := hb.trans (h.belowNil.mono hs)
    exact ⟨h2.os, h2.tape, h2.output, h2.size, fun k hk _ => h2.block k hk⟩
  · rcases h.moved with e1 | ⟨k, e1, hk⟩
    · exact .inl e1
    · exact .inr ⟨k, e1, by omega⟩
theorem rd_one64 (w : World) (x : Nat) : Rd (w.alloc (.cells #[.int .u64 (x : Int)] 62)) (w.heap.size + 1) (some ⟨w.heap.size, 0, none⟩) 1 ([x].map nv) := Rd.lit w 62 [nv x]
theorem put1_v (x : Nat) (w : World) (N : Nat) (hN : N = w.heap.size) (hx : x < 18446744073709551616) :
    Calls Try.prog 40 #[.slice (some ⟨N, 0, none⟩) 1 1] (w.alloc (.cells #[.int .u64 (x : Int)] 62)) fun e w' => ∃ v', e = .returned v' ∧ Grew w w' w.heap.size 5 (.slice none 0 0) v' ((numL x).map bv) := by
  subst hN
  refine (put_v _ 1 1 _ [x] _ (rd_one64 w x) (by simp) (by omega) (by simpa using hx)).mono ?_
  rintro e w' ⟨v', rfl, hg⟩
  have e1 : putL [x] = numL x := by simp [putL]
  rw [e1] at hg
  exact ⟨v', rfl, hg.lower ((Below.refl _ w).alloc (Nat.le_refl _) _)⟩
theorem headL_len (r : List UInt8) : (headL r).length = (numL r.length).length + r.length := by simp [headL]
set_option maxRecDepth 100000 in
theorem framed_v (A : Option Addr) (n cap B : Nat) (bs : List UInt8) (w : World) (hr : Rd w B A n (bs.map bv)) (hB : B ≤ w.heap.size) (hn : n ≤ 1000000000000) :
    Calls Try.prog 31 #[.slice A n cap] w fun e w' => ∃ v', e = .returned v' ∧ Grew w w' w.heap.size 5 (.slice none 0 0) v' ((frameL bs).map bv) := by
  obtain ⟨i0, hi, hz0, hz1, hz2⟩ := info_parts info_u8
  have hlen := hr.len
  have hw : IntKind.u64.wrap (n : Int) = (n : Int) := by rw [IntKind.wrap_u64]; omega
  have h10 := numL_ten (show n < 18446744073709551616 by omega)
  have hhl := headL_len bs
  rw [hlen] at hhl
  have hh : headL bs = numL n ++ bs := by unfold headL; rw [hlen]
  obtain ⟨hd, hhd⟩ : ∃ hd, hd = headL bs := ⟨_, rfl⟩
  have hfr : frameL bs = hd ++ tailL (crcL hd) := by rw [hhd]; rfl
  rw [← hhd] at hhl hh
  have h64 := Lib.hid (show n < 18446744073709551616 by omega)
  have HH := Lib.hid hh
  have HHL := Lib.hid hhl
  have H10 := Lib.hid h10
  have HFR := Lib.hid hfr
  have HLEN := Lib.hid hlen
  have HR := Lib.hid hr
  clear hh hhl h10 hfr hlen hr hhd
  go_enter Try.func31, Try.ntmps31
  go_wp2_with (first
    | (go_at_call 40; (with_reducible refine (put1_v n w _ rfl h64.out).mono ?_); rintro e w1 ⟨v1, rfl, hg1⟩; have hs1 := hg1.grown.size; have HG1 := Lib.hid hg1; clear hg1)
    | (at_builtin; refine wpList_appN w1 rfl (.tmp 8) (.tmp 9) _ rfl w.heap.size 5 i0 (.int .u8 0) 1 Try.underlying28 hi hz0 hz1 hz2 rfl v1 _ rfl HG1.out.own B A n cap (bs.map bv) rfl (HR.out.below (HG1.out.belowNil.mono hB)) (bv_one _) (by have := H10.out; rw [List.length_map]; omega) (by have := H10.out; rw [List.length_map]; omega) hs1 ?_; intro v2 w2 hg2; have hs2 := hg2.grown.size; rw [← List.map_append, ← HH.out] at hg2; have HG2 := Lib.hid (HG1.out.trans hg2); clear hg2; obtain ⟨A2, c2, rfl, h21, h22, h23⟩ := own_map HG2.out.own; have H22 := Lib.hid h22; clear h22 h23)
    | (go_at_call 46; (with_reducible refine (crcOf_v _ _ _ _ hd w2 H22.out (Nat.le_refl _) (by have := HHL.out; have := H10.out; unfold maxLen; omega)).mono ?_); rintro e w3 ⟨rfl, hb3⟩; have hs3 := hb3.size; have HG3 := Lib.hid (HG2.out.then_ hb3); clear hb3)
    | (go_at_call 45; (with_reducible refine (tail_v _ w3 (crcL_lt hd)).mono ?_); rintro e w4 ⟨v4, rfl, hg4⟩; have hs4 := hg4.grown.size; have HG4 := Lib.hid (HG3.out.then_ hg4.belowNil); obtain ⟨A4, c4, rfl, h41, h42, h43⟩ := own_slice hg4.own; have H42 := Lib.hid h42; clear hg4 h42 h43)
    | (at_builtin; refine wpList_appN w4 rfl (.tmp 11) (.tmp 14) _ rfl w.heap.size 5 i0 (.int .u8 0) 1 Try.underlying28 hi hz0 hz1 hz2 rfl _ _ rfl HG4.out.own _ A4 4 c4 ((tailL (crcL hd)).map bv) rfl H42.out (bv_one _) (by have := HHL.out; have := H10.out; rw [List.length_map]; omega) (by have := HHL.out; have := H10.out; rw [List.length_map]; omega) (by omega) ?_; intro v5 w5 hg5; rw [← List.map_append, ← HFR.out] at hg5; have HG5 := Lib.hid (HG4.out.trans hg5); clear hg5))
  go_ret
  exact ⟨_, rfl, HG5.out⟩
theorem flatF_snoc (ls : List (List UInt8)) (k : Nat) (h : k < ls.length) : (ls.take (k + 1)).flatMap frameL = (ls.take k).flatMap frameL ++ frameL ls[k] := flat_snoc frameL ls k h
set_option maxRecDepth 100000 in
theorem putF_v (A : Option Addr) (n cap B : Nat) (ls : List (List UInt8)) (w : World) (hr : RdL w B A n ls) (hB : B ≤ w.heap.size) (hn : n ≤ 1000000000000) (hl : ∀ r ∈ ls, r.length ≤ 65536) (ht : (ls.flatMap frameL).length ≤ 100000000000000) :
    Calls Try.prog 17 #[.slice A n cap] w fun e w' => ∃ v', e = .returned v' ∧ Grew w w' w.heap.size 5 (.slice none 0 0) v' ((ls.flatMap frameL).map bv) := by
  obtain ⟨i0, hi, hz0, hz1, hz2⟩ := info_parts info_u8
  have HLL := Lib.hid hl
  have HT := Lib.hid ht
  have HR := Lib.hid hr
  clear hr hl ht
  go_enter Try.func17, Try.ntmps17
  go_wp2
  go_loopw [3, 8] (fun v i wr => ∃ k : Nat, k ≤ n ∧ i = .int .i64 (k : Int) ∧ Grew w wr w.heap.size 5 (.slice none 0 0) v (((ls.take k).flatMap frameL).map bv)) (fun _ i _ => n - (intOf i).toNat)
  case atStart => exact ⟨0, by omega, rfl, Grew.nil _ _ _⟩
  case round =>
    obtain ⟨k, hk, rfl, hg⟩ := hrel
    have hsz := hg.grown.size
    have HG := Lib.hid hg
    clear hg
    have hln := HR.out.1
    by_cases hlt : k < n
    · obtain ⟨ad, A', n', c', rfl, hb, hc, hr', hcm⟩ := (HR.out.keep (HG.out.belowNil.mono hB)).2 k (by omega)
      have hlen' := hr'.len
      have hrl : n' ≤ 65536 := by rw [← hlen']; exact HLL.out _ (List.getElem_mem (by omega))
      have hgt : ¬ (65536 : Int) < (n' : Int) := by omega
      have hbl := flat_at_len frameL ls k (by omega)
      have HS := Lib.hid (flatF_snoc ls k (by omega))
      obtain ⟨row, hrow⟩ : ∃ row, row = ls[k]'(by omega) := ⟨_, rfl⟩
      rw [← hrow] at hr' hbl HS
      have HR' := Lib.hid hr'
      have HBL := Lib.hid hbl
      clear hr' hbl hrow hlen'
      go_wp2_with (first
        | (go_at_call 31; (with_reducible refine (framed_v _ _ _ _ row wr HR'.out (Nat.le_trans hB hsz) (by omega)).mono ?_); rintro e w1 ⟨v1, rfl, hg1⟩; have hs1 := hg1.grown.size; have HG1 := Lib.hid (HG.out.then_ hg1.belowNil); obtain ⟨A1, c1, rfl, h11, h12, h13⟩ := own_map hg1.own; have H12 := Lib.hid h12; clear hg1 h12 h13)
        | (at_builtin; refine wpList_appN w1 rfl (.tmp 15) (.tmp 17) _ rfl w.heap.size 5 i0 (.int .u8 0) 1 Try.underlying28 hi hz0 hz1 hz2 rfl _ _ rfl HG1.out.own _ A1 (frameL row).length c1 ((frameL row).map bv) rfl H12.out (bv_one _) (by have := HBL.out; have := HT.out; rw [List.length_map]; omega) (by have := HBL.out; have := HT.out; rw [List.length_map]; omega) (by omega) ?_; intro v2 w2 hg2; rw [← List.map_append, ← HS.out] at hg2; have HG2 := Lib.hid (HG1.out.trans hg2); clear hg2))
      go_roundw
      case rel => exact ⟨k + 1, by omega, by go_num, HG2.out⟩
      case measure => simp [intOf]; omega
    · have e : ls.take k = ls := by rw [List.take_of_length_le]; omega
      rw [e] at HG
      clear e
      go_wp2
      go_ret
      exact ⟨_, rfl, HG.out⟩
theorem equal_v (A A' : Option Addr) (n n' c c' B B' : Nat) (l l' : List UInt8) (w : World) (h : Rd w B A n (l.map bv)) (h' : Rd w B' A' n' (l'.map bv)) (r : Bool) (hd : r = decide (l = l')) :
    Calls Try.prog 72 #[.slice A n c, .slice A' n' c'] w fun e w' => e = .returned (.bool r) ∧ w = w' := by
  have h1 := run_str_of (P := Try.prog) h 28 9 5 Try.underlying28 Try.underlying5 Try.underlying9 c
  have h2 := run_str_of (P := Try.prog) h' 28 9 5 Try.underlying28 Try.underlying5 Try.underlying9 c'
  have he : ((mkS l).toList == (mkS l').toList) = r := by
    rw [hd, ByteArray.toList_eq, ByteArray.toList_eq, mkS_list, mkS_list, Bool.eq_iff_iff]; simp
  clear h h' hd
  go_enter Try.func72, Try.ntmps72
  go_wp2
  go_ret
  exact ⟨by simp, rfl⟩
end Go.Proofs.Ytemokpnepnmmkaa
/- bytes.Clone and frame's Take: what each one tells. -/
namespace Go.Proofs.Ytemokpnepnmmkaa
open Go.RowKit
attribute [local go_sem ↓] Go.wp_at_zero Go.wp_at_succ
theorem Grew.fresh {w w' : World} {e : TypeId} {o : Obj} {v v' : Value} {xs : List Value} (h : Grew (w.alloc o) w' w.heap.size e v v' xs) (hv : ∀ k, v.ownBlock = some k → w.heap.size ≤ k) : Grew w w' w.heap.size e (.slice none 0 0) v' xs := by
  have hs := h.grown.size
  rw [World.size_alloc] at hs
  refine ⟨h.own, ?_, ?_⟩
  · have hb : Below w.heap.size w w' := ((Below.refl _ w).alloc (Nat.le_refl _) o).grown h.grown (by simp) hv
    exact ⟨hb.os, hb.tape, hb.output, hb.size, fun k hk _ => hb.block k hk⟩
  · rcases h.moved with e1 | ⟨k, e1, hk⟩
    · cases hvb : v.ownBlock with
      | none => exact .inl (by rw [e1, hvb]; rfl)
      | some k => exact .inr ⟨k, by rw [e1, hvb], hv k hvb⟩
    · exact .inr ⟨k, e1, by rw [World.size_alloc] at hk; omega⟩
set_option maxRecDepth 100000 in
theorem clone_v (ad : Addr) (n cap B : Nat) (bs : List UInt8) (w : World) (hr : Rd w B (some ad) n (bs.map bv)) (hB : B ≤ w.heap.size) (hn : n ≤ 1000000000000) :
    Calls Try.prog 44 #[.slice (some ad) n cap] w fun e w' => ∃ v', e = .returned v' ∧ Grew w w' w.heap.size 5 (.slice none 0 0) v' (bs.map bv) := by
  obtain ⟨i0, hi, hz0, hz1, hz2⟩ := info_parts info_u8
  have HR := Lib.hid hr
  have he : ∀ w : World, (binOp .eql 28 (.slice (some ad) n cap) (.slice none 0 0)).run Try.prog w = .ok (.bool false) w := fun _ => rfl
  clear hr
  go_enter Try.func44, Try.ntmps44
  go_wp2_with (at_builtin; refine wpList_appN _ rfl (.tmp 5) (.tmp 6) _ rfl w.heap.size 5 i0 (.int .u8 0) 1 Try.underlying28 hi hz0 hz1 hz2 rfl (.slice (some ⟨w.heap.size, 0, none⟩) 0 0) [] rfl (World.ownsRow_lit w #[] 0 (Nat.le_refl _) (by simp [maxLen]) rfl) B (some ad) n cap (bs.map bv) rfl (HR.out.below ((Below.refl B w).alloc hB _)) (bv_one _) (by simp; omega) (by simp; omega) (by simp) ?_; intro v2 w2 hg2; rw [List.nil_append] at hg2; have HG2 := Lib.hid (Grew.fresh hg2 (fun k hk => by simp [Value.ownBlock] at hk; omega)); clear hg2)
  go_ret
  exact ⟨_, rfl, HG2.out⟩

/-- The middle of a slice. -/
theorem Rd.mid {w : World} {B n : Nat} {ad : Addr} {bs : List UInt8} (h : Rd w B (some ad) n (bs.map bv)) {i j : Nat} (hij : i ≤ j) (hj : j ≤ n) : Rd w B (some (ad.add i)) (j - i) (((bs.drop i).take (j - i)).map bv) := by
  have hl := h.len
  refine ⟨by simp; omega, fun hn => ?_⟩
  obtain ⟨ad', e, hb, hc⟩ := h.2 (by omega)
  injection e with e
  subst e
  refine ⟨_, rfl, by rw [block_add]; exact hb, fun k u hu => ?_⟩
  rw [add_add]
  refine hc _ u ?_
  rw [List.getElem?_map, List.getElem?_take] at hu
  split at hu
  · rw [List.getElem?_drop] at hu
    rw [List.getElem?_map]; exact hu
  · simp at hu
theorem tuple3 (v : Value) {a b c d : Int} (h1 : a = c) (h2 : b = d) : Ending.returned (.tuple #[v, .int .i64 a, .int .i64 b]) = .returned (.tuple #[v, .int .i64 c, .int .i64 d]) := by rw [h1, h2]
theorem takeF_err {bs : List UInt8} {er : Nat} (h : (takeM bs).2.2 = er) (h0 : er ≠ 0) : takeF bs = ([], 0, er) := by
  unfold takeF; rw [if_pos (by rw [h]; exact h0), h]
theorem takeF_big {bs : List UInt8} (h : (takeM bs).2.2 = 0) (h0 : 65536 < (takeM bs).1) : takeF bs = ([], 0, 13) := by
  unfold takeF; rw [if_neg (by rw [h]; simp), if_pos h0]
theorem takeF_less {bs : List UInt8} (h : (takeM bs).2.2 = 0) (h0 : ¬ 65536 < (takeM bs).1) (h1 : bs.length < (takeM bs).2.1 + (takeM bs).1 + 4) : takeF bs = ([], 0, 10) := by
  unfold takeF; rw [if_neg (by rw [h]; simp), if_neg h0, if_pos h1]
theorem takeF_sum {bs : List UInt8} (h : (takeM bs).2.2 = 0) (h0 : ¬ 65536 < (takeM bs).1) (h1 : ¬ bs.length < (takeM bs).2.1 + (takeM bs).1 + 4) {en : Nat} (hen : (takeM bs).2.1 + (takeM bs).1 = en) (h2 : ¬ (bs.drop en).take 4 = tailL (crcL (bs.take en))) : takeF bs = ([], 0, 12) := by
  unfold takeF; rw [if_neg (by rw [h]; simp), if_neg h0, if_neg h1, hen, if_pos h2]
theorem takeF_yes {bs : List UInt8} (h : (takeM bs).2.2 = 0) (h0 : ¬ 65536 < (takeM bs).1) (h1 : ¬ bs.length < (takeM bs).2.1 + (takeM bs).1 + 4) {en : Nat} (hen : (takeM bs).2.1 + (takeM bs).1 = en) (h2 : (bs.drop en).take 4 = tailL (crcL (bs.take en))) : takeF bs = ((bs.drop (takeM bs).2.1).take (takeM bs).1, en + 4, 0) := by
  unfold takeF; rw [if_neg (by rw [h]; simp), if_neg h0, if_neg h1, hen, if_neg (by simpa using h2)]
set_option maxRecDepth 100000 in
theorem takeF_v (A : Option Addr) (n cap B : Nat) (bs : List UInt8) (w : World) (hr : Rd w B A n (bs.map bv)) (hB : B ≤ w.heap.size) (hn : n ≤ 1000000000000) (hc : n ≤ cap) (hcm : cap ≤ maxLen) :
    Calls Try.prog 59 #[.slice A n cap] w fun e w' => ∃ v', e = .returned (.tuple #[v', .int .i64 ((takeF bs).2.1 : Int), .int .i64 ((takeF bs).2.2 : Int)]) ∧ Grew w w' w.heap.size 5 (.slice none 0 0) v' ((takeF bs).1.map bv) := by
  unfold maxLen at hcm
  have hlen := hr.len
  have hcase := takeM_cases bs
  have hht := heads_le bs
  have htv := take_v A n cap B bs w hr (by omega)
  obtain ⟨sz, hsz⟩ : ∃ sz, (takeM bs).1 = sz := ⟨_, rfl⟩
  obtain ⟨hd, hhd⟩ : ∃ hd, (takeM bs).2.1 = hd := ⟨_, rfl⟩
  obtain ⟨er, her⟩ : ∃ er, (takeM bs).2.2 = er := ⟨_, rfl⟩
  rw [hsz, hhd, her] at htv hcase
  have HTV := Lib.hid htv
  have hd11 : hd ≤ 11 := by rcases hcase with h | h <;> omega
  have hszl : sz < 18446744073709551616 := by rcases hcase with h | h <;> omega
  have HSZ := Lib.hid hsz
  have HHD := Lib.hid hhd
  have HER := Lib.hid her
  have HLEN := Lib.hid hlen
  have HR := Lib.hid hr
  have GN := Lib.hid (Grew.nil w w.heap.size 5)
  clear htv hsz hhd her hlen hr hcase hht
  by_cases he0 : er = 0
  case neg =>
    have HF := Lib.hid (takeF_err HER.out he0)
    clear HER
    go_enter Try.func59, Try.ntmps59
    go_wp2_with (go_at_call 71; (with_reducible refine HTV.out.mono ?_); rintro e w' ⟨rfl, rfl⟩)
    go_ret3
    exact ⟨_, tuple3 _ (by rw [HF.out]; rfl) (by rw [HF.out]), by rw [HF.out]; exact GN.out⟩
  subst he0
  by_cases hbig : 65536 < sz
  · have HF := Lib.hid (takeF_big HER.out (by rw [HSZ.out]; exact hbig))
    go_enter Try.func59, Try.ntmps59
    go_wp2_with (go_at_call 71; (with_reducible refine HTV.out.mono ?_); rintro e w' ⟨rfl, rfl⟩)
    go_ret3
    exact ⟨_, tuple3 _ (by rw [HF.out]; rfl) (by rw [HF.out]; rfl), by rw [HF.out]; exact GN.out⟩
  have hw : IntKind.i64.wrap (sz : Int) = (sz : Int) := by rw [IntKind.wrap_i64]; omega
  by_cases hless : n < hd + sz + 4
  · have HF := Lib.hid (takeF_less HER.out (by rw [HSZ.out]; exact hbig) (by rw [HSZ.out, HHD.out, HLEN.out]; exact hless))
    go_enter Try.func59, Try.ntmps59
    go_wp2_with (go_at_call 71; (with_reducible refine HTV.out.mono ?_); rintro e w' ⟨rfl, rfl⟩)
    go_ret3
    exact ⟨_, tuple3 _ (by rw [HF.out]; rfl) (by rw [HF.out]; rfl), by rw [HF.out]; exact GN.out⟩
  obtain ⟨en, hen⟩ : ∃ en, hd + sz = en := ⟨_, rfl⟩
  have hA : ∃ ad, A = some ad := by
    obtain ⟨ad, e, _⟩ := HR.out.2 (by omega)
    exact ⟨ad, e⟩
  obtain ⟨ad, rfl⟩ := hA
  have r1 := Lib.hid (HR.out.take_ (k := en) (by omega))
  have r2 := Lib.hid (HR.out.mid (i := en) (j := en + 4) (by omega) (by omega))
  have r3 := Lib.hid (HR.out.mid (i := hd) (j := en) (by omega) (by omega))
  rw [← List.map_take] at r1
  rw [show en + 4 - en = 4 by omega] at r2
  obtain ⟨x, hx⟩ : ∃ x, x = crcL (bs.take en) := ⟨_, rfl⟩
  have hcl : Hid (x < 4294967296) := Lib.hid (by rw [hx]; exact crcL_lt _)
  have HX := Lib.hid hx
  have HEN := Lib.hid hen
  have hw2 : (hd : Int) + (sz : Int) = (en : Int) := by omega
  have hbw := Lib.hid ((Below.refl w.heap.size w).drew)
  have KOF : Hid (∀ W, Below w.heap.size w W → Calls Try.prog 46 #[.slice (some ad) en cap] W fun e w' => e = .returned (.int .u32 (x : Int)) ∧ Below w.heap.size w w') := by
    refine Lib.hid fun W hW => (crcOf_v _ _ _ _ (bs.take en) W (r1.out.below (hW.mono hB)) (Nat.le_trans hB hW.size) (by unfold maxLen; omega)).mono ?_
    rintro e w' ⟨rfl, hb⟩
    rw [← hx]
    exact ⟨rfl, hW.trans (hb.mono hW.size)⟩
  clear hx hen
  have hi1 : (0 : Int) ≤ (en : Int) := by omega
  have hi2 : (en : Int) ≤ (cap : Int) := by omega
  have hi3 : (en : Int) ≤ (en : Int) + 4 := by omega
  have hi4 : (en : Int) + 4 ≤ (cap : Int) := by omega
  have hne : ¬ cap = en := by omega
  have hi5 : (0 : Int) ≤ (hd : Int) := by omega
  have hi6 : (hd : Int) ≤ (en : Int) := by omega
  have hne2 : ¬ cap = hd := by omega
  have hsz2 : en - hd = sz := by omega
  rw [hsz2] at r3
  have HWA : Hid (IntKind.i64.wrap ((en : Int) + 4) = (en : Int) + 4) := Lib.hid (by rw [IntKind.wrap_i64]; omega)
  have HTN : Hid (((en : Int) + 4).toNat = en + 4) := Lib.hid (by omega)
  have HWB : Hid (wrap64 ((en : Int) + 4) = (en : Int) + 4) := Lib.hid (by unfold wrap64; omega)
  by_cases hsum : (bs.drop en).take 4 = tailL x
  · have HF := Lib.hid (takeF_yes (en := en) HER.out (by rw [HSZ.out]; exact hbig) (by rw [HSZ.out, HHD.out, HLEN.out]; exact hless) (by rw [HSZ.out, HHD.out]; exact HEN.out) (by rw [← HX.out]; exact hsum))
    rw [HHD.out, HSZ.out] at HF
    have HS := Lib.hid (decide_eq_true hsum).symm
    clear hsum
    go_enter Try.func59, Try.ntmps59
    go_wp2_with (go_at_call 71; (with_reducible refine HTV.out.mono ?_); rintro e w' ⟨rfl, rfl⟩)
    have hwa := HWA.out
    have htn := HTN.out
    have hwb := HWB.out
    go_region_held (fun w' => Hid (Below w.heap.size w w')) (first | assumption | exact hbw)
      (first
        | (go_at_call 46; (with_reducible refine (KOF.out _ hbw.out).mono ?_); rintro e w6 ⟨rfl, hb6'⟩; have hb6 := Lib.hid hb6'; clear hb6')
        | (go_at_call 45; (with_reducible refine (tail_v _ w6 hcl.out).mono ?_); rintro e w7 ⟨v7, rfl, hg7⟩; have hb7 := Lib.hid (hb6.out.trans (hg7.belowNil.mono hb6.out.size)); obtain ⟨A7, c7, rfl, h71, h72, h73⟩ := own_map hg7.own; have H72 := Lib.hid h72; clear h71 h72 h73 hg7)
        | (go_at_call 72; (with_reducible refine (equal_v _ _ _ _ _ _ _ _ _ _ w7 (r2.out.below (hb7.out.mono hB)) H72.out _ HS.out).mono ?_); rintro e w8 ⟨rfl, rfl⟩))
    all_goals clear hwa htn hwb
    all_goals go_wp2_with (go_at_call 44; (with_reducible refine (clone_v _ _ _ _ _ w7 (r3.out.below (hb7.out.mono hB)) (Nat.le_trans hB hb7.out.size) (by omega)).mono ?_); rintro e w9 ⟨v9, rfl, hg9⟩; have HG9 := Lib.hid (hg9.lower hb7.out); clear hg9)
    all_goals go_ret3
    all_goals exact ⟨_, tuple3 _ (by rw [HF.out]; simp) (by rw [HF.out]; rfl), by rw [HF.out]; exact HG9.out⟩
  · have HF := Lib.hid (takeF_sum (en := en) HER.out (by rw [HSZ.out]; exact hbig) (by rw [HSZ.out, HHD.out, HLEN.out]; exact hless) (by rw [HSZ.out, HHD.out]; exact HEN.out) (by rw [← HX.out]; exact hsum))
    have HS := Lib.hid (decide_eq_false hsum).symm
    clear hsum
    go_enter Try.func59, Try.ntmps59
    go_wp2_with (go_at_call 71; (with_reducible refine HTV.out.mono ?_); rintro e w' ⟨rfl, rfl⟩)
    have hwa := HWA.out
    have htn := HTN.out
    have hwb := HWB.out
    go_region_held (fun w' => Hid (Below w.heap.size w w')) (first | assumption | exact hbw)
      (first
        | (go_at_call 46; (with_reducible refine (KOF.out _ hbw.out).mono ?_); rintro e w6 ⟨rfl, hb6'⟩; have hb6 := Lib.hid hb6'; clear hb6')
        | (go_at_call 45; (with_reducible refine (tail_v _ w6 hcl.out).mono ?_); rintro e w7 ⟨v7, rfl, hg7⟩; have hb7 := Lib.hid (hb6.out.trans (hg7.belowNil.mono hb6.out.size)); obtain ⟨A7, c7, rfl, h71, h72, h73⟩ := own_map hg7.own; have H72 := Lib.hid h72; clear h71 h72 h73 hg7)
        | (go_at_call 72; (with_reducible refine (equal_v _ _ _ _ _ _ _ _ _ _ w7 (r2.out.below (hb7.out.mono hB)) H72.out _ HS.out).mono ?_); rintro e w8 ⟨rfl, rfl⟩))
    all_goals clear hwa htn hwb
    all_goals go_wp2
    all_goals go_ret3
    all_goals exact ⟨_, tuple3 _ (by rw [HF.out]; rfl) (by rw [HF.out]; rfl), by rw [HF.out]; exact (Grew.nil w7 w7.heap.size 5).lower hb7.out⟩
end Go.Proofs.Ytemokpnepnmmkaa
