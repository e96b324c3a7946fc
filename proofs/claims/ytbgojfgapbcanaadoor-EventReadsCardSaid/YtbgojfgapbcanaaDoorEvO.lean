/- The document's zag and fault. -/
import Derived.Test.YtbgojfgapbcanaaDoorEvL
namespace Go.Proofs.YtbgojfgapbcanaaDoor
open Go.RowKit
theorem zag4_v (x : Nat) (w : World) (h1 : x < 18446744073709551616) :
    Calls Tryd.prog 46 #[.int .u64 (x : Int)] w fun e w' => e = .returned (.int .i64 (zagZ x)) ∧ w = w' := by
  have hd : IntKind.u64.wrap ((x : Int) / 2) = ((x / 2 : Nat) : Int) := by rw [IntKind.wrap_u64]; omega
  obtain ⟨y, hy⟩ : ∃ y, y = x / 2 := ⟨_, rfl⟩
  have hy2 : (y : Int) ≤ 9223372036854775807 := by omega
  rw [← hy] at hd
  by_cases h : x % 2 = 1
  · have hm : ((x : Int) % 2 == 0) = false := by simp; omega
    have HX := Lib.hid h
    have HY := Lib.hid hy
    clear h1 h hy
    go_enter Tryd.func46, Tryd.ntmps46
    go_wp2
    go_ret
    refine ⟨ret_int ?_, rfl⟩
    rw [zagZ, if_pos HX.out, ← HY.out]
  · have hm : ((x : Int) % 2 == 0) = true := by simp; omega
    have HX := Lib.hid h
    have HY := Lib.hid hy
    clear h1 h hy
    go_enter Tryd.func46, Tryd.ntmps46
    go_wp2
    go_ret
    refine ⟨ret_int ?_, rfl⟩
    rw [zagZ, if_neg HX.out, ← HY.out]
def faultOf (b : List UInt8) (e : Nat) (long right : Bool) : Int := if e ≠ 0 then (e : Int) else if long = true ∨ right = false then 11 else if b = [] then 0 else 14
theorem mkS_full {b : List UInt8} (h : b ≠ []) : (mkS b).toList.isEmpty = false := by
  rw [ByteArray.toList_eq, mkS_list]
  cases b with
  | nil => exact absurd rfl h
  | cons x l => rfl
set_option maxHeartbeats 400000 in
theorem fault_v (b : List UInt8) (e : Nat) (A : Option Addr) (n c : Nat) (t : List UInt8) (A2 : Option Addr) (n2 c2 : Nat) (long right : Bool) (w : World) :
    Calls Tryd.prog 47 #[.agg (L6 b e A n c t A2 n2 c2 long), .bool right] w fun r w' => r = .returned (.int .i64 (faultOf b e long right)) ∧ Later w w' := by
  have hb := Lib.hid (Later.alloc w (.cells (L6 b e A n c t A2 n2 c2 long) 75))
  by_cases he : e = 0
  case neg =>
    have hv : faultOf b e long right = (e : Int) := if_pos he
    have hne : ((e : Int) != 0) = true := by simp; omega
    rw [hv]
    clear hv he
    go_enter Tryd.func47, Tryd.ntmps47
    go_wp2
    go_ret
    exact ⟨rfl, hb.out⟩
  subst he
  cases long
  case true =>
    have hv : faultOf b 0 true right = 11 := by unfold faultOf; simp
    rw [hv]
    clear hv
    go_enter Tryd.func47, Tryd.ntmps47
    go_wp2
    go_ret
    exact ⟨rfl, hb.out⟩
  cases right
  case false =>
    have hv : faultOf b 0 false false = 11 := by unfold faultOf; simp
    rw [hv]
    clear hv
    go_enter Tryd.func47, Tryd.ntmps47
    go_wp2
    go_ret
    exact ⟨rfl, hb.out⟩
  by_cases hbb : b = []
  · subst hbb
    have hv : faultOf [] 0 false true = 0 := by unfold faultOf; simp
    rw [hv]
    have hm : (mkS []).toList = [] := by rw [ByteArray.toList_eq, mkS_list]
    clear hv
    go_enter Tryd.func47, Tryd.ntmps47
    go_wp2
    go_ret
    exact ⟨rfl, hb.out⟩
  · have hv : faultOf b 0 false true = 14 := by unfold faultOf; simp [hbb]
    rw [hv]
    have hm := mkS_full hbb
    clear hv hbb
    go_enter Tryd.func47, Tryd.ntmps47
    go_wp2
    go_ret
    exact ⟨rfl, hb.out⟩
end Go.Proofs.YtbgojfgapbcanaaDoor
