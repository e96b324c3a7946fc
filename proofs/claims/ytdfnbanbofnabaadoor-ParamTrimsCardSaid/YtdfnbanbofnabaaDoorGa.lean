/- A sign at a place of a pattern: the method 'is'. No premises. -/
import Derived.Test.YtdfnbanbofnabaaDoorWm
import Derived.Test.YtdfnbanbofnabaaDoorGn
import Derived.OwnWalk
import Derived.BigQuiet
namespace Go.Proofs.YtdfnbanbofnabaaDoor
open Go.RowKit Go.Maps
theorem toList_mkS (l : L) : (mkS l).toList = l := by
  rw [ByteArray.toList_eq]; simp [mkS]
theorem drop_text (S : L) (p : Nat) : (mkS S).extract p (mkS S).size = mkS (S.drop p) := by
  apply ByteArray.ext
  simp [mkS, ByteArray.size]
  exact List.take_of_length_le (by simp)
theorem take_text (S : L) (p : Nat) : (mkS S).extract 0 p = mkS (S.take p) := by
  apply ByteArray.ext
  simp [mkS]
theorem byt_eq {c : UInt8} (k : UInt8) (h : c = k) : ((c.toNat : Int) == (k.toNat : Int)) = true := by rw [h]; exact beq_self_eq_true _
theorem byt_ne {c : UInt8} (k : UInt8) (h : c ≠ k) : ((c.toNat : Int) == (k.toNat : Int)) = false := beq_eq_false_iff_ne.2 fun e => h (UInt8.toNat_inj.1 (by omega))
theorem w64 (x : Int) (h : -9223372036854775808 ≤ x ∧ x < 9223372036854775808) : wrap64 x = x := by unfold wrap64; omega
/-- A byte of a text. -/
theorem get_byte (l : L) (i : Nat) (hi : i < (mkS l).size) : l[i]? = some ((mkS l)[i]'hi) := by
  rw [List.getElem?_eq_getElem (by rwa [mkS_size] at hi)]; rfl
theorem is_in (l : L) (i : Nat) (c : UInt8) (hi : i < (mkS l).size) : (l[i]? == some c) = ((((mkS l)[i]'hi).toNat : Int) == (c.toNat : Int)) := by
  rw [get_byte l i hi, Bool.eq_iff_iff, beq_iff_eq, beq_iff_eq]
  exact ⟨fun h => by injection h with h; rw [h], fun h => congrArg some (UInt8.toNat_inj.1 (by omega))⟩
theorem is_out (l : L) (i : Nat) (c : UInt8) (h : ¬ i < l.length) : (l[i]? == some c) = false := by
  rw [List.getElem?_eq_none (by omega)]; rfl
namespace Gs
set_option maxRecDepth 100000 in
theorem is_v (t m : L) (i : Nat) (c : UInt8) (w : World) : Calls Tryd.prog 26 #[.agg #[.string (mkS t), .string (mkS m)], .int .i64 (i : Int), .int .u8 (c.toNat : Int)] w fun e w' => e = .returned (.bool (Gl.isAt t m i c)) ∧ Later w w' := by
  have hst : (mkS t).size = t.length := mkS_size t
  have hsm : (mkS m).size = m.length := mkS_size m
  go_enter Tryd.func26, Tryd.ntmps26
  go_wp2
  all_goals
    go_ret
    refine ⟨ret_bool ?_, Later.alloc _ _⟩
    unfold Gl.isAt
    first
      | rw [is_in t i c (by omega), is_in m i 113 (by omega)]
      | rw [is_in t i c (by omega), is_out m i 113 (by omega)]
      | rw [is_out t i c (by omega)]
    first
      | simp_all
      | skip
end Gs
end Go.Proofs.YtdfnbanbofnabaaDoor
