/- EnvSets' walk over what is handed in. -/
import Derived.Test.YtmijploffdoenaaDoorNsw
import Derived.Test.YtmijploffdoenaaDoorNla
namespace Go.Proofs.YtmijploffdoenaaDoor
open Go.RowKit Go.ChangeShapes Go.WideShapes
namespace envSets
open En
theorem walk (W : World) (hd : Vd W) (A : Option Addr) (n c : Nat) (l : List Doing) (h : RdD W W.heap.size A n l ∧ (∀ x ∈ l, DoOk x) ∧ n ≤ c ∧ c ≤ maxLen) (s : ByteArray) (hs : s.size ≤ maxLen) (y : ByteArray) (hy : y.size ≤ maxLen) (o : ByteArray) (ho : o.size ≤ maxLen) : Calls Tryd.prog 4 #[.slice A n c, .string s, .string y, .string o] W fun x W' => x = .returned (.bool true) ∧ Below W.heap.size W W' := by
  have hm : maxLen = 9223372036854775807 := rfl
  have := walkL W hd A n c l h.1 h.2.2.1 (by rw [← hm]; exact h.2.2.2) s.data.toList y.data.toList o.data.toList (by rw [← hm]; exact hs) (by rw [← hm]; exact hy) (by rw [← hm]; exact ho)
  rw [mkS_of, mkS_of, mkS_of] at this
  exact this.mono fun x w hx => ⟨hx.1, hx.2⟩
end envSets
end Go.Proofs.YtmijploffdoenaaDoor
