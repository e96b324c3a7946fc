/- The walk of VarintSigns: whatever the two numbers are, the call returns true. -/
import Derived.Test.YtnffeeipnabdoaaAwake
import Derived.Test.YtnffeeipnabdoaaArgs
namespace Go.Proofs.Ytnffeeipnabdoaa
namespace varintSigns
open Go.RowKit
theorem walk (w : World) (x : Int) (wx : (Lit.int .i64 x).wf = true) (y : Int) (wy : (Lit.int .u64 y).wf = true) :
    Calls Try.prog 4 #[.int .i64 x, .int .u64 y] w fun e w' => e = .returned (.bool true) ∧ Below w.heap.size w w' := by
  have hx := bounds_i64 wx
  have hy := bounds_u64 wy
  obtain ⟨n, rfl⟩ : ∃ n : Nat, y = (n : Int) := ⟨y.toNat, by omega⟩
  obtain ⟨m, hm⟩ : ∃ m : Nat, m = (zigOf x).toNat := ⟨_, rfl⟩
  obtain ⟨z, hz⟩ : ∃ z : Int, z = zagOf n := ⟨_, rfl⟩
  have hn : n < 18446744073709551616 := by omega
  have h1 := zig_nat x hx.1 hx.2
  have h2 := zag_zig x
  have h3 := zag_lo n hn
  have h4 := zig_zag n
  rw [← hz] at h3 h4
  rw [← hm] at h1 h2
  have cz := fun W => zig_v x W hx.1 hx.2
  have cr := fun W => refZig_v x W hx.1 hx.2
  have ca := fun W => zag_v m W h1.2
  have ca2 := fun W => zag_v n W hn
  have cr2 := fun W => refZig_v z W h3.1 h3.2
  rw [← h1.1] at cz cr
  rw [h2] at ca
  rw [← hz] at ca2
  rw [h4] at cr2
  have CZ := Lib.hid cz
  have CR := Lib.hid cr
  have CA := Lib.hid ca
  have CA2 := Lib.hid ca2
  have CR2 := Lib.hid cr2
  clear cz cr ca ca2 cr2 h1 h2 h3 h4 hz hm hn hx hy wx wy
  go_enter Try.func4, Try.ntmps4
  go_wp2_with (first
    | (go_at_call 9; (with_reducible refine (awake_v _).mono ?_); rintro e w1 ⟨rfl, hb⟩)
    | (go_at_call 14; (with_reducible refine (CZ.out _).mono ?_); rintro e w' ⟨rfl, rfl⟩)
    | (go_at_call 15; (first | (with_reducible refine (CR.out _).mono ?_) | (with_reducible refine (CR2.out _).mono ?_)); rintro e w' ⟨rfl, rfl⟩)
    | (go_at_call 16; (first | (with_reducible refine (CA.out _).mono ?_) | (with_reducible refine (CA2.out _).mono ?_)); rintro e w' ⟨rfl, rfl⟩))
  go_ret
  exact ⟨rfl, hb⟩
end varintSigns
end Go.Proofs.Ytnffeeipnabdoaa
