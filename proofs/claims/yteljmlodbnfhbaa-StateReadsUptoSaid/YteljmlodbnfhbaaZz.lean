/- varint's Zig and Zag, and the document's Zig: what each one tells of any number. -/
import Derived.Test.YteljmlodbnfhbaaProg
import Derived.Test.YteljmlodbnfhbaaBase
namespace Go.Proofs.Yteljmlodbnfhbaa
open Go.RowKit
/-- The number without a sign of one with a sign. -/
def zigOf (x : Int) : Int := if x < 0 then 2 * -(x + 1) + 1 else 2 * x
/-- The number with a sign of one without. -/
def zagOf (x : Nat) : Int := if x % 2 = 1 then -((x / 2 : Nat) : Int) - 1 else ((x / 2 : Nat) : Int)
theorem zig_zag (x : Nat) : zigOf (zagOf x) = (x : Int) := by unfold zigOf zagOf; split <;> split <;> omega
theorem zag_zig (x : Int) : zagOf (zigOf x).toNat = x := by unfold zigOf zagOf; split <;> split <;> omega
theorem zig_nat (x : Int) (h1 : -9223372036854775808 ≤ x) (h2 : x ≤ 9223372036854775807) : ((zigOf x).toNat : Int) = zigOf x ∧ (zigOf x).toNat < 18446744073709551616 := by unfold zigOf; split <;> omega
theorem zag_lo (x : Nat) (h : x < 18446744073709551616) : -9223372036854775808 ≤ zagOf x ∧ zagOf x ≤ 9223372036854775807 := by unfold zagOf; split <;> omega
theorem zig_v (x : Int) (w : World) (h1 : -9223372036854775808 ≤ x) (h2 : x ≤ 9223372036854775807) :
    Calls Try.prog 62 #[.int .i64 x] w fun e w' => e = .returned (.int .u64 (zigOf x)) ∧ w = w' := by
  by_cases h : x < 0
  all_goals
    go_enter Try.func62, Try.ntmps62
    go_wp2
    go_ret
    refine ⟨ret_int ?_, rfl⟩
    simp [zigOf]; omega
theorem refZig_v (x : Int) (w : World) (h1 : -9223372036854775808 ≤ x) (h2 : x ≤ 9223372036854775807) :
    Calls Try.prog 43 #[.int .i64 x] w fun e w' => e = .returned (.int .u64 (zigOf x)) ∧ w = w' := by
  by_cases h : x < 0
  all_goals
    go_enter Try.func43, Try.ntmps43
    go_wp2
    go_ret
    refine ⟨ret_int ?_, rfl⟩
    simp [zigOf]; omega
theorem zag_v (x : Nat) (w : World) (h1 : x < 18446744073709551616) :
    Calls Try.prog 76 #[.int .u64 (x : Int)] w fun e w' => e = .returned (.int .i64 (zagOf x)) ∧ w = w' := by
  have hd : IntKind.u64.wrap ((x : Int) / 2) = ((x / 2 : Nat) : Int) := by rw [IntKind.wrap_u64]; omega
  obtain ⟨y, hy⟩ : ∃ y, y = x / 2 := ⟨_, rfl⟩
  have hy2 : (y : Int) ≤ 9223372036854775807 := by omega
  rw [← hy] at hd
  by_cases h : x % 2 = 1
  · have hm : ((x : Int) % 2 == 1) = true := by simp; omega
    have HX := Lib.hid h
    have HY := Lib.hid hy
    clear h1 h hy
    go_enter Try.func76, Try.ntmps76
    go_wp2
    go_ret
    refine ⟨ret_int ?_, rfl⟩
    rw [zagOf, if_pos HX.out, ← HY.out]
  · have hm : ((x : Int) % 2 == 1) = false := by simp; omega
    have HX := Lib.hid h
    have HY := Lib.hid hy
    clear h1 h hy
    go_enter Try.func76, Try.ntmps76
    go_wp2
    go_ret
    refine ⟨ret_int ?_, rfl⟩
    rw [zagOf, if_neg HX.out, ← HY.out]
end Go.Proofs.Yteljmlodbnfhbaa
