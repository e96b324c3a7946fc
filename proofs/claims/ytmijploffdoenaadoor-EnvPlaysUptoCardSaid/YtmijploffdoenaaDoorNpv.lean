/- EnvPlays' walk over what is handed in. -/
import Derived.Test.YtmijploffdoenaaDoorNpl
import Derived.Test.YtmijploffdoenaaDoorNla
namespace Go.Proofs.YtmijploffdoenaaDoor
open Go.RowKit Go.ChangeShapes Go.WideShapes
namespace envPlays
open En
theorem le_sum : ∀ {l : List Nat} {x : Nat}, x ∈ l → x ≤ l.sum
  | a :: l, x, h => by
    rw [List.sum_cons]
    rcases List.mem_cons.1 h with e | e
    · omega
    · have := le_sum e; omega
theorem walk (W : World) (hd : Vd W) (A : Option Addr) (n c : Nat) (l : List Doing) (h : RdD W W.heap.size A n l ∧ (∀ x ∈ l, DoOk x) ∧ n ≤ c ∧ c ≤ maxLen) (Q : Option Addr) (m mc : Nat) (ask : List ByteArray) (k : Rd W W.heap.size Q m (ask.map Value.string) ∧ (∀ x ∈ ask, x.size ≤ maxLen) ∧ m ≤ mc ∧ mc ≤ maxLen ∧ (ask.map ByteArray.size).sum ≤ 1048576) : Calls Tryd.prog 3 #[.slice A n c, .slice Q m mc] W fun x W' => x = .returned (.bool true) ∧ Below W.heap.size W W' := by
  have hm : maxLen = 9223372036854775807 := rfl
  have hr : Rd W W.heap.size Q m ((ask.map fun x => x.data.toList).map fun x => .string (mkS x)) := by
    have e : (ask.map fun x => x.data.toList).map (fun x => Value.string (mkS x)) = ask.map Value.string := by
      rw [List.map_map]
      exact List.map_congr_left fun x _ => by show Value.string (mkS x.data.toList) = _; rw [mkS_of]
    rw [e]
    exact k.1
  have hx : ∀ x ∈ ask.map (fun x => x.data.toList), x.length ≤ 1048576 := by
    intro x hx
    obtain ⟨z, hz, rfl⟩ := List.mem_map.1 hx
    have h1 : z.size ≤ (ask.map ByteArray.size).sum := le_sum (List.mem_map.2 ⟨z, hz, rfl⟩)
    have h2 := k.2.2.2.2
    show z.size ≤ _
    omega
  have := walkL W hd A n c l h.1 h.2.1 h.2.2.1 (by rw [← hm]; exact h.2.2.2) Q m mc _ hr k.2.2.1 (by rw [← hm]; exact k.2.2.2.1) hx
  exact this.mono fun x w hx => ⟨hx.1, hx.2⟩
end envPlays
end Go.Proofs.YtmijploffdoenaaDoor
