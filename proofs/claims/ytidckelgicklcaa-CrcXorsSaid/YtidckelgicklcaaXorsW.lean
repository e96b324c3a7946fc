/- The walk of CrcXors: whatever the bytes are, the call returns true. -/
import Derived.Test.YtidckelgicklcaaCAwake
import Derived.Test.YtidckelgicklcaaArgs
import Derived.Deep.RegionHeld
import Derived.Deep.DrawnRows
namespace Go.Proofs.Ytidckelgicklcaa
namespace crcXors
open Go.RowKit
attribute [local go_sem ↓] Go.wp_at_zero Go.wp_at_succ
/-- The xor of three rows, k bytes of it, zeros behind. -/
def row3 (xs bs cs : List UInt8) (m : Nat) : List UInt8 := xorL (xorL (xs.take m) (bs.take m)) (cs.take m)
def part (L : List UInt8) (m k : Nat) : List UInt8 := L.take k ++ List.replicate (m - k) 0
theorem row3_len (xs bs cs : List UInt8) (m : Nat) (h1 : m ≤ xs.length) (h2 : m ≤ bs.length) (h3 : m ≤ cs.length) : (row3 xs bs cs m).length = m := by
  simp [row3, xorL]; omega
theorem row3_at (xs bs cs : List UInt8) (m k : Nat) (h1 : m ≤ xs.length) (h2 : m ≤ bs.length) (h3 : m ≤ cs.length) (hk : k < m) : (row3 xs bs cs m)[k]'(by rw [row3_len xs bs cs m h1 h2 h3]; exact hk) = xs[k] ^^^ bs[k] ^^^ cs[k] := by
  simp [row3, xorL]
theorem part_at (L : List UInt8) (m k : Nat) (hL : L.length = m) (hk : k < m) : (part L m k)[k]? = some 0 := by
  unfold part
  have hl : (L.take k).length = k := by simp; omega
  rw [List.getElem?_append_right (by omega), hl, Nat.sub_self, show m - k = (m - (k + 1)) + 1 by omega, List.replicate_succ]; rfl
theorem part_set (L : List UInt8) (m k : Nat) (hL : L.length = m) (hk : k < m) : (part L m k).set k (L[k]'(by omega)) = part L m (k + 1) := by
  unfold part
  have e : m - k = (m - (k + 1)) + 1 := by omega
  have hl : (L.take k).length = k := by simp; omega
  rw [e, List.replicate_succ, List.set_append_right _ _ (by omega), hl, Nat.sub_self, List.set_cons_zero]
  rw [List.take_succ_eq_append_getElem (by omega), List.append_assoc]; rfl
theorem part_end (L : List UInt8) (m : Nat) (hL : L.length = m) : part L m m = L := by unfold part; rw [Nat.sub_self, List.take_of_length_le (by omega)]; simp
theorem part_len (L : List UInt8) (m k : Nat) (hL : L.length = m) (hk : k ≤ m) : (part L m k).length = m := by simp [part]; omega
/-- d is m long and reads as k bytes and zeros; what was there is as it was. -/
structure At (w1 w : World) (L : List UInt8) (m k : Nat) : Prop where
  blk : w.heap[w1.heap.size]? = some (.cells ((part L m k).map bv).toArray 5)
  bel : Below w1.heap.size w1 w
theorem At.start (w1 : World) (L : List UInt8) (m : Nat) : At w1 (w1.alloc (.cells (Array.replicate m (bv 0)) 5)) L m 0 := by
  refine ⟨?_, (Below.refl _ _).alloc (Nat.le_refl _) _⟩
  rw [heap_alloc_new]
  simp [part]
theorem At.cell {w1 w : World} {L : List UInt8} {m k : Nat} (h : At w1 w L m k) (hL : L.length = m) (hk : k < m) : w.cell? ⟨w1.heap.size, k, none⟩ = some (.int .u8 0) ∧ w.frozen? ⟨w1.heap.size, k, none⟩ = false := by
  refine ⟨?_, Joins.unfrozen_of_block h.blk k⟩
  rw [Joins.cell_of_block h.blk]
  have := part_at L m k hL hk
  simp [this, bv]
theorem At.next {w1 w : World} {L : List UInt8} {m k : Nat} (h : At w1 w L m k) (hL : L.length = m) (hk : k < m) {v : Value} (hv : v = bv (L[k]'(by omega))) : At w1 (w.setCell ⟨w1.heap.size, k, none⟩ v).drew L m (k + 1) := by
  refine ⟨?_, (h.bel.setCell (p := ⟨w1.heap.size, k, none⟩) (Nat.le_refl _) v).drew⟩
  show (w.setCell ⟨w1.heap.size, k, none⟩ v).heap[w1.heap.size]? = _
  rw [Joins.block_setCell h.blk, hv, ← part_set L m k hL hk]
  simp
theorem At.rd {w1 w : World} {L : List UInt8} {m : Nat} (h : At w1 w L m m) (hL : L.length = m) : Rd w w.heap.size (some ⟨w1.heap.size, 0, none⟩) m (L.map bv) := by
  have hb := h.blk
  rw [part_end L m hL] at hb
  refine ⟨by simpa using hL, fun _ => ⟨_, rfl, (Array.getElem?_eq_some_iff.1 hb).1, fun j u hu => ?_⟩⟩
  rw [add_lit0, Joins.cell_of_block hb]
  simpa using hu
theorem made (m : Nat) : madeCells (#[.int .u8 0] : Array Value) m = ((List.replicate m (0 : UInt8)).map bv).toArray := by
  apply Array.ext
  · simp [madeCells]
  · intro i h1 h2
    simp [madeCells, bv, Nat.mod_one]
theorem xor_byte (a b c : UInt8) : bits .xor .u8 (a.toNat : Int) (b.toNat : Int) = ((a ^^^ b).toNat : Int) ∧ bits .xor .u8 ((a ^^^ b).toNat : Int) (c.toNat : Int) = ((a ^^^ b ^^^ c).toNat : Int) := by
  have h1 := a.toNat_lt
  have h2 := b.toNat_lt
  have h3 := c.toNat_lt
  have h4 := (a ^^^ b).toNat_lt
  refine ⟨?_, ?_⟩
  · rw [u8_xor_nat _ _ (by omega) (by omega), UInt8.toNat_xor]
  · rw [u8_xor_nat _ _ (by omega) (by omega), UInt8.toNat_xor (a ^^^ b)]
theorem make_v (w : World) (m : Nat) (hm : m ≤ 600) : (Instr.makeSlice 22 (.int .i64 (m : Int)) (.int .i64 (m : Int))).run Try.prog w = .ok (.slice (some ⟨w.heap.size, 0, none⟩) m m) (w.alloc (.cells ((List.replicate m (0 : UInt8)).map bv).toArray 5)) := by
  obtain ⟨i0, hi, hz0, hz1, hz2⟩ := info_parts info_u8
  have := run_make (P := Try.prog) w 22 5 i0 (.int .u8 0) Try.underlying22 hi hz0 .i64 .i64 (m : Int) (m : Int) (by omega) (by omega) (by rw [hz2]; omega) (by omega)
  simp only [Int.toNat_natCast, hz1, Nat.mul_one] at this
  rw [this]
  show _ = Result.ok _ (w.alloc (.cells _ 5))
  rw [← made m]
  rfl
set_option maxRecDepth 100000 in
theorem walk (w : World) (A0 : Option Addr) (n0 c0 : Nat) (xs : List UInt8) (ha : Rd w w.heap.size A0 n0 (xs.map bv) ∧ n0 ≤ c0 ∧ c0 ≤ maxLen)
    (A1 : Option Addr) (n1 c1 : Nat) (bs : List UInt8) (hb : Rd w w.heap.size A1 n1 (bs.map bv) ∧ n1 ≤ c1 ∧ c1 ≤ maxLen)
    (A2 : Option Addr) (n2 c2 : Nat) (cs : List UInt8) (hc : Rd w w.heap.size A2 n2 (cs.map bv) ∧ n2 ≤ c2 ∧ c2 ≤ maxLen) :
    Calls Try.prog 6 #[.slice A0 n0 c0, .slice A1 n1 c1, .slice A2 n2 c2] w fun e w' => e = .returned (.bool true) ∧ Below w.heap.size w w' := by
  obtain ⟨h1, h2, h3⟩ := ha
  obtain ⟨h4, h5, h6⟩ := hb
  obtain ⟨h7, h8, h9⟩ := hc
  unfold maxLen at h3 h6 h9
  have HA := Lib.hid h1
  have HB := Lib.hid h4
  have HC := Lib.hid h7
  have hal := Lib.hid h1.len
  have hbl := Lib.hid h4.len
  have hcl := Lib.hid h7.len
  clear h1 h4 h7
  obtain ⟨p, hp, hp0, hp1⟩ : ∃ p : Nat, (if n1 < n0 then (n1 : Int) else (n0 : Int)) = (p : Int) ∧ p ≤ n0 ∧ p ≤ n1 := by
    by_cases h : n1 < n0
    · exact ⟨n1, if_pos h, by omega, by omega⟩
    · exact ⟨n0, if_neg h, by omega, by omega⟩
  obtain ⟨m, hm, hm2, hm3⟩ : ∃ m : Nat, (if n2 < p then (n2 : Int) else (p : Int)) = (m : Int) ∧ m ≤ p ∧ m ≤ n2 := by
    by_cases h : n2 < p
    · exact ⟨n2, if_pos h, by omega, by omega⟩
    · exact ⟨p, if_neg h, by omega, by omega⟩
  by_cases h600 : 600 < m
  · go_enter Try.func6, Try.ntmps6
    go_wp2_with (go_at_call 7; (with_reducible refine (crcAwake_v _).mono ?_); rintro e w1 ⟨rfl, hb1⟩; have hs1 := hb1.size; have HB1 := Lib.hid hb1; clear hb1)
    go_ret
    exact ⟨rfl, HB1.out⟩
  obtain ⟨L, hL⟩ : ∃ L, L = row3 xs bs cs m := ⟨_, rfl⟩
  have hLl : L.length = m := by rw [hL]; exact row3_len xs bs cs m (by have := hal.out; omega) (by have := hbl.out; omega) (by have := hcl.out; omega)
  have HL := Lib.hid hL
  have HLL := Lib.hid hLl
  have hmk := fun W => make_v W m (by omega)
  clear hL hLl
  go_enter Try.func6, Try.ntmps6
  go_wp2_with (go_at_call 7; (with_reducible refine (crcAwake_v _).mono ?_); rintro e w1 ⟨rfl, hb1⟩; have hs1 := hb1.size; have HB1 := Lib.hid hb1; clear hb1)
  go_loopw [10] (fun i wr => ∃ k : Nat, k ≤ m ∧ i = .int .i64 (k : Int) ∧ At w1 wr L m k) (fun i _ => m - (intOf i).toNat)
  case atStart => exact ⟨0, by omega, rfl, At.start _ _ _⟩
  case round =>
    obtain ⟨k, hk, rfl, hat⟩ := hrel
    have hbr := Lib.hid (HB1.out.trans (hat.bel.mono hs1))
    have HAT := Lib.hid hat
    clear hat
    by_cases hkm : k < m
    · obtain ⟨ad0, hl0, rfl, hb0, hc0⟩ := (HA.out.below hbr.out).byte (k := k) (by omega)
      obtain ⟨ad1, hl1, rfl, hb1, hc1⟩ := (HB.out.below hbr.out).byte (k := k) (by omega)
      obtain ⟨ad2, hl2, rfl, hb2, hc2⟩ := (HC.out.below hbr.out).byte (k := k) (by omega)
      have hv : L[k]'(by rw [HLL.out]; exact hkm) = xs[k] ^^^ bs[k] ^^^ cs[k] := by
        have := row3_at xs bs cs m k (by have := hal.out; omega) (by have := hbl.out; omega) (by have := hcl.out; omega) hkm
        rw [← this]; congr 1
      obtain ⟨hcell, hfr⟩ := HAT.out.cell HLL.out hkm
      obtain ⟨hx1, hx2⟩ := xor_byte xs[k] bs[k] cs[k]
      rw [← hv] at hx2
      obtain ⟨a, hav⟩ : ∃ a, a = xs[k].toNat := ⟨_, rfl⟩
      obtain ⟨b, hbv⟩ : ∃ b, b = bs[k].toNat := ⟨_, rfl⟩
      obtain ⟨c, hcv⟩ : ∃ c, c = cs[k].toNat := ⟨_, rfl⟩
      obtain ⟨d, hdv⟩ : ∃ d, d = (xs[k] ^^^ bs[k]).toNat := ⟨_, rfl⟩
      obtain ⟨f, hfv⟩ : ∃ f, f = (L[k]'(by rw [HLL.out]; exact hkm)).toNat := ⟨_, rfl⟩
      rw [← hav, ← hbv, ← hdv] at hx1
      rw [← hdv, ← hcv, ← hfv] at hx2
      have ha0 : wr.cell? (ad0.add k) = some (.int .u8 (a : Int)) := by rw [hc0, hav]; rfl
      have ha1 : wr.cell? (ad1.add k) = some (.int .u8 (b : Int)) := by rw [hc1, hbv]; rfl
      have ha2 : wr.cell? (ad2.add k) = some (.int .u8 (c : Int)) := by rw [hc2, hcv]; rfl
      have HN := Lib.hid (HAT.out.next HLL.out hkm (v := .int .u8 (f : Int)) (by rw [hfv]; rfl))
      have hi0 : (0 : Int) ≤ (k : Int) := by omega
      have hi1 : (k : Int) < (m : Int) := by omega
      have hi2 : (k : Int) < (n0 : Int) := by omega
      have hi3 : (k : Int) < (n1 : Int) := by omega
      have hi4 : (k : Int) < (n2 : Int) := by omega
      have HK : Hid (∀ v, (wr.setCell ⟨w1.heap.size, k, none⟩ v).drew.cell? (ad0.add k) = some (.int .u8 (a : Int)) ∧ (wr.setCell ⟨w1.heap.size, k, none⟩ v).drew.cell? (ad1.add k) = some (.int .u8 (b : Int)) ∧ (wr.setCell ⟨w1.heap.size, k, none⟩ v).drew.cell? (ad2.add k) = some (.int .u8 (c : Int))) := by
        intro v
        have hb : Below w.heap.size wr (wr.setCell ⟨w1.heap.size, k, none⟩ v).drew := ((Below.refl _ _).setCell (p := ⟨w1.heap.size, k, none⟩) hs1 v).drew
        exact ⟨by rw [hb.cell (by rw [block_add]; exact hb0)]; exact ha0, by rw [hb.cell (by rw [block_add]; exact hb1)]; exact ha1, by rw [hb.cell (by rw [block_add]; exact hb2)]; exact ha2⟩
      clear hc0 hc1 hc2 hav hbv hcv hdv hfv hv
      go_wp2
      go_region_held (fun w' => w'.cell? (ad0.add k) = some (.int .u8 (a : Int)) ∧ w'.cell? (ad1.add k) = some (.int .u8 (b : Int)) ∧ w'.cell? (ad2.add k) = some (.int .u8 (c : Int))) (first | exact HK.out _ | go_keep) (fail)
      go_wp2
      go_roundw
      case rel => exact ⟨k + 1, by omega, by go_num, HN.out⟩
      case measure => simp [intOf]; omega
    · have hkm' : k = m := by omega
      subst hkm'
      have hrd := HAT.out.rd HLL.out
      have hsz := HAT.out.bel.size
      have r0 := (HA.out.below hbr.out).take_ (k := k) (by omega)
      have r1 := (HB.out.below hbr.out).take_ (k := k) (by omega)
      have r2 := (HC.out.below hbr.out).take_ (k := k) (by omega)
      rw [← List.map_take] at r0 r1 r2
      have call : ∀ (A : Option Addr) (c : Nat) (l : List UInt8) (B : Nat), B ≤ wr.heap.size → Rd wr B A k (l.map bv) → ∀ W, Below wr.heap.size wr W → Calls Try.prog 9 #[.slice A k c] W fun e w' => e = .returned (.int .u32 (crcL l : Int)) ∧ Below wr.heap.size wr w' := by
        intro A c l B hB h W hW
        refine (crcOf_v A k c B l W (h.below (hW.mono hB)) (Nat.le_trans hB hW.size) (by simp [maxLen]; omega)).mono ?_
        rintro e w' ⟨rfl, hb⟩
        exact ⟨rfl, hW.trans (hb.mono hW.size)⟩
      have K3 := Lib.hid (call (some ⟨w1.heap.size, 0, none⟩) k L _ (Nat.le_refl _) hrd)
      have K0 := Lib.hid (call A0 c0 _ _ (by omega) r0)
      have K1 := Lib.hid (call A1 c1 _ _ (by omega) r1)
      have K2 := Lib.hid (call A2 c2 _ _ (by omega) r2)
      have hx := crcL_xor3 (xs.take k) (bs.take k) (cs.take k) (by have := hal.out; have := hbl.out; simp; omega) (by have := hcl.out; have := hbl.out; simp; omega)
      have hx' : crcL L = crcL (xs.take k) ^^^ crcL (bs.take k) ^^^ crcL (cs.take k) := by rw [HL.out]; exact hx
      have l0 := crcL_lt (xs.take k)
      have l1 := crcL_lt (bs.take k)
      have l2 := crcL_lt (cs.take k)
      generalize crcL (xs.take k) = s0 at K0 hx' l0
      generalize crcL (bs.take k) = s1 at K1 hx' l1
      generalize crcL (cs.take k) = s2 at K2 hx' l2
      rw [hx'] at K3
      have l01 : s0 ^^^ s1 < 4294967296 := Nat.xor_lt_two_pow (n := 32) l0 l1
      have x1 := u32_xor_nat s0 s1 l0 l1
      have x2 := u32_xor_nat (s0 ^^^ s1) s2 l01 l2
      generalize s0 ^^^ s1 = s01 at K3 x1 x2
      generalize s01 ^^^ s2 = s012 at K3 x2
      have hbw := Lib.hid ((Below.refl wr.heap.size wr).drew)
      have i1 : (0 : Int) ≤ (k : Int) := by omega
      have i2 : (k : Int) ≤ (c0 : Int) := by omega
      have i3 : (k : Int) ≤ (c1 : Int) := by omega
      have i4 : (k : Int) ≤ (c2 : Int) := by omega
      clear call hx hx' r0 r1 r2 hrd l0 l1 l2 l01
      go_wp2
      go_region_held (fun w' => Hid (Below wr.heap.size wr w')) (first | assumption | exact hbw)
        (first
          | (go_at_call 9; first
            | ((with_reducible refine (K3.out _ ?_).mono ?_); (show Hid _; assumption))
            | ((with_reducible refine (K0.out _ ?_).mono ?_); (show Hid _; assumption))
            | ((with_reducible refine (K1.out _ ?_).mono ?_); (show Hid _; assumption))
            | ((with_reducible refine (K2.out _ ?_).mono ?_); (show Hid _; assumption))); rintro e w5 ⟨rfl, hb5⟩; have hb6 := Lib.hid hb5; clear hb5)
      all_goals go_wp2
      all_goals go_ret
      all_goals exact ⟨rfl, hbr.out.trans (hb6.out.mono hbr.out.size)⟩
end crcXors
end Go.Proofs.Ytidckelgicklcaa
