/- StateCuts' walk over what is handed in. -/
import Derived.Test.YteljmlodbnfhbaaKcu
import Derived.Test.YteljmlodbnfhbaaKtk
namespace Go.Proofs.Yteljmlodbnfhbaa
open Go.RowKit Go.ChangeShapes Go.WideShapes
namespace stateCuts
theorem walk (W : World) (s : Ks.St) (cs : Array Value) (h : Ks.stR.C W W.heap.size cs.toList s) (hx : (Ks.stC.put s).length ≤ 10 * 1048576) (x : Int) (hw : (Lit.int .u16 x).wf = true) (A : Option Addr) (m c : Nat) (l : List UInt8) (hr : Rd W W.heap.size A m (l.map bv)) (_hc : m ≤ c) (_hm : c ≤ maxLen) (hm : m ≤ 10 * 1048576) :
    Calls Try.prog 5 #[.agg cs, .int .u16 x, .slice A m c] W fun e W' => e = .returned (.bool true) ∧ Below W.heap.size W W' := by
  have hq := bounds_u16 hw
  obtain ⟨k, rfl⟩ := Int.eq_ofNat_of_zero_le hq.1
  have h2 := Ks.cuts_law s cs.toList W h (by omega) k (by omega) A m c l hr (by omega)
  exact h2
end stateCuts
end Go.Proofs.Yteljmlodbnfhbaa
