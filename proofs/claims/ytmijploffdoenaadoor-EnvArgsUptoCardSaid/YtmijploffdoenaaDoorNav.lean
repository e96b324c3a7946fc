/- EnvArgs' walk over what is handed in. -/
import Derived.Test.YtmijploffdoenaaDoorNar
import Derived.Test.YtmijploffdoenaaDoorNla
namespace Go.Proofs.YtmijploffdoenaaDoor
open Go.RowKit Go.ChangeShapes Go.WideShapes
namespace envArgs
open En
theorem le_sum : ∀ {l : List Nat} {x : Nat}, x ∈ l → x ≤ l.sum
  | a :: l, x, h => by
    rw [List.sum_cons]
    rcases List.mem_cons.1 h with e | e
    · omega
    · have := le_sum e; omega
theorem walk (W : World) (hd : Vd W) (A : Option Addr) (n c : Nat) (l : List ByteArray) (h : Rd W W.heap.size A n (l.map Value.string) ∧ (∀ x ∈ l, x.size ≤ maxLen) ∧ n ≤ c ∧ c ≤ maxLen ∧ (l.map ByteArray.size).sum ≤ 1048576) (q : Int) (hq : (Lit.int .u8 q).wf = true) (s : ByteArray) (hs : s.size ≤ maxLen) : Calls Tryd.prog 5 #[.slice A n c, .int .u8 q, .string s] W fun x W' => x = .returned (.bool true) ∧ Below W.heap.size W W' := by
  have hm : maxLen = 9223372036854775807 := rfl
  have hq2 := bounds_u8 hq
  obtain ⟨k, rfl⟩ := Int.eq_ofNat_of_zero_le hq2.1
  have hr : Rd W W.heap.size A n ((l.map fun x => x.data.toList).map fun x => .string (mkS x)) := by
    have e : (l.map fun x => x.data.toList).map (fun x => Value.string (mkS x)) = l.map Value.string := by
      rw [List.map_map]
      exact List.map_congr_left fun x _ => by show Value.string (mkS x.data.toList) = _; rw [mkS_of]
    rw [e]
    exact h.1
  have hx : ∀ x ∈ l.map (fun x => x.data.toList), x.length ≤ 1048576 := by
    intro x hx
    obtain ⟨z, hz, rfl⟩ := List.mem_map.1 hx
    have h1 : z.size ≤ (l.map ByteArray.size).sum := le_sum (List.mem_map.2 ⟨z, hz, rfl⟩)
    have h2 := h.2.2.2.2
    show z.size ≤ _
    omega
  have hk : ((UInt8.ofNat k).toNat : Int) = (k : Int) := by
    rw [UInt8.toNat_ofNat']
    omega
  have := walkL W hd A n c _ hr h.2.2.1 (by rw [← hm]; exact h.2.2.2.1) hx (UInt8.ofNat k) s.data.toList (by rw [← hm]; exact hs)
  rw [mkS_of, hk] at this
  exact this.mono fun x w hx => ⟨hx.1, hx.2⟩
end envArgs
end Go.Proofs.YtmijploffdoenaaDoor
