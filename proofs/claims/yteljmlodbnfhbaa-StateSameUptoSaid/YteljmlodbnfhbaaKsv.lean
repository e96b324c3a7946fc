/- StateSame's walk over what is handed in. -/
import Derived.Test.YteljmlodbnfhbaaKst
import Derived.Test.YteljmlodbnfhbaaKsu
import Derived.Test.YteljmlodbnfhbaaKtk
namespace Go.Proofs.Yteljmlodbnfhbaa
open Go.RowKit Go.ChangeShapes Go.WideShapes
namespace stateSame
theorem walk (W : World) (s : Ks.St) (cs : Array Value) (h : Ks.stR.C W W.heap.size cs.toList s) (hx : (Ks.stC.put s).length ≤ 10 * 1048576) (x : Int) (hw : (Lit.int .u8 x).wf = true) :
    Calls Try.prog 6 #[.agg cs, .int .u8 x] W fun e W' => e = .returned (.bool true) ∧ Below W.heap.size W W' := by
  have hq := bounds_u8 hw
  obtain ⟨k, rfl⟩ := Int.eq_ofNat_of_zero_le hq.1
  have hx2 : (Ks.stC.put s).length ≤ 20000000 := by omega
  by_cases hf : Ks.fewN s ≤ 300
  · have hk : k % 8 = 0 ∨ k % 8 = 1 ∨ k % 8 = 2 ∨ k % 8 = 3 ∨ k % 8 = 4 ∨ k % 8 = 5 ∨ k % 8 = 6 ∨ k % 8 = 7 := by omega
    rcases hk with hk | hk | hk | hk | hk | hk | hk | hk
    · exact Ks.same_law0 s cs.toList W h hx2 k hk hf
    · exact Ks.same_law1 s cs.toList W h hx2 k hk hf
    · exact Ks.same_law2 s cs.toList W h hx2 k hk hf
    · exact Ks.same_law3 s cs.toList W h hx2 k hk hf
    · exact Ks.same_law4 s cs.toList W h hx2 k hk hf
    · exact Ks.same_law5 s cs.toList W h hx2 k hk hf
    · exact Ks.same_law6 s cs.toList W h hx2 k hk hf
    · exact Ks.same_law7 s cs.toList W h hx2 k hk hf
  · exact Ks.same_none s cs.toList W h hx2 (k : Int) hf
end stateSame
end Go.Proofs.Yteljmlodbnfhbaa
