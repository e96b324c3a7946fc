/- The walk of CrcOf: whatever the bytes and the numbers are, the call returns true. -/
import Derived.Test.YtidckelgicklcaaOfS
namespace Go.Proofs.Ytidckelgicklcaa
namespace crcOf
open Go.RowKit
set_option maxRecDepth 100000 in
set_option maxHeartbeats 400000 in
theorem walk (w : World) (A0 : Option Addr) (n0 c0 : Nat) (bs : List UInt8) (hb : Rd w w.heap.size A0 n0 (bs.map bv) ∧ n0 ≤ c0 ∧ c0 ≤ maxLen)
    (at_ : Int) (hat0 : (Lit.int .u16 at_).wf = true) (to : Int) (hto0 : (Lit.int .u16 to).wf = true) (x : Int) (hx0 : (Lit.int .u32 x).wf = true) :
    Calls Try.prog 3 #[.slice A0 n0 c0, .int .u16 at_, .int .u16 to, .int .u32 x] w fun e w' => e = .returned (.bool true) ∧ Below w.heap.size w w' := by
  obtain ⟨h1, h2, h3⟩ := hb
  unfold maxLen at h3
  have HB := Lib.hid h1
  have hbl := Lib.hid h1.len
  clear h1
  obtain ⟨ha1, ha2⟩ := bounds_u16 hat0
  obtain ⟨ht1, ht2⟩ := bounds_u16 hto0
  obtain ⟨hx1, hx2⟩ := bounds_u32 hx0
  obtain ⟨X, rfl⟩ := Int.eq_ofNat_of_zero_le hx1
  have hXl : X < 4294967296 := by omega
  by_cases hn0 : 2000 < n0
  · go_enter Try.func3, Try.ntmps3
    go_wp2_with (go_at_call 7; (with_reducible refine (crcAwake_v _).mono ?_); rintro e w1 ⟨rfl, hb1⟩)
    go_ret
    exact ⟨rfl, hb1⟩
  obtain ⟨i, hi⟩ : ∃ i : Nat, at_ % ((n0 : Int) + 1) = (i : Int) := ⟨(at_ % ((n0 : Int) + 1)).toNat, by have := Int.emod_nonneg at_ (show (n0 : Int) + 1 ≠ 0 by omega); omega⟩
  have hin : i ≤ n0 := by have := Int.emod_lt_of_pos at_ (show (0 : Int) < (n0 : Int) + 1 by omega); omega
  obtain ⟨r, hr⟩ : ∃ r : Nat, (n0 : Int) - (i : Int) = (r : Int) := ⟨n0 - i, by omega⟩
  obtain ⟨q, hq⟩ : ∃ q : Nat, to % ((r : Int) + 1) = (q : Int) := ⟨(to % ((r : Int) + 1)).toNat, by have := Int.emod_nonneg to (show (r : Int) + 1 ≠ 0 by omega); omega⟩
  have hqn : q ≤ r := by have := Int.emod_lt_of_pos to (show (0 : Int) < (r : Int) + 1 by omega); omega
  obtain ⟨j, hj⟩ : ∃ j : Nat, (i : Int) + (q : Int) = (j : Int) := ⟨i + q, by omega⟩
  exact cuts w A0 n0 c0 bs HB.out h2 h3 at_ ha1 ha2 to ht1 ht2 X hXl hn0 i r q j hi hin hr hq hj (by omega) (by omega)
end crcOf
end Go.Proofs.Ytidckelgicklcaa
