/- TesterTurns' walk, as the statement wants it. The listed variables: their condition. -/
import Derived.Test.YtjidclefpmcgoaaDoorYta
namespace Go.Proofs.YtjidclefpmcgoaaDoor
open Go.RowKit Go.Maps
namespace testerTurns
theorem walk (W : World) (hvd : Ar.Vd W) (A : Option Addr) (n c : Nat) (l : List ByteArray) (h : Rd W W.heap.size A n (l.map Value.string) ∧ (∀ x ∈ l, x.size ≤ maxLen) ∧ n ≤ c ∧ c ≤ maxLen ∧ (l.map ByteArray.size).sum ≤ 1048576) (a : ByteArray) (ha : a.size ≤ maxLen) (b : ByteArray) (hb : b.size ≤ maxLen) : Calls Tryd.prog 5 #[.slice A n c, .string a, .string b] W fun r W' => r = .returned (.bool true) ∧ Below W.heap.size W W' := by
  obtain ⟨hr, _, hc, hm, hsum⟩ := h
  rw [testerTells.strs] at hr
  rw [← mkS_of a, ← mkS_of b]
  have hal : a.data.toList.length ≤ maxLen := ha
  have hbl : b.data.toList.length ≤ maxLen := hb
  by_cases hh : 1 ≤ n ∧ n ≤ 3 ∧ a.data.toList.length ≤ 60 ∧ b.data.toList.length ≤ 60
  · exact Ar.turns_core A n c _ hr.len_map hh.1 hh.2.1 hc (testerTells.short l hsum) _ _ hh.2.2.1 hh.2.2.2 W hvd hr
  · exact Ar.turns_not A n c _ _ hal hbl (Nat.le_trans hc hm) hh W hvd
end testerTurns
end Go.Proofs.YtjidclefpmcgoaaDoor
