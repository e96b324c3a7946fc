/- The trees of SyntaxDeep's scripts. No premises. -/
import Derived.Test.YtipojbknkfkgoaaDoorOa
namespace Go.Proofs.YtipojbknkfkgoaaDoor
namespace syntaxDeep
abbrev L := List UInt8
def rep (l : L) : Nat → L
  | 0 => []
  | n + 1 => rep l n ++ l
/-- The script: so many braces, or parentheses, around a. -/
def script (sub : Bool) (k : Nat) : L := if sub then rep [40] k ++ [97, 10] ++ rep [41] k else rep [123, 32] k ++ [97, 10] ++ rep [125, 10] k
def okB (sub : Bool) (k : Nat) : Bool := match Sx.tree (script sub k) with
  | .ok ns => ns.length == 2 * k + 2
  | .error _ => false
def deepB (sub : Bool) (k : Nat) : Bool := match Sx.tree (script sub k) with
  | .ok _ => false
  | .error (n, l) => n == 21 && l == Lx.nl (script sub k)
set_option maxRecDepth 100000 in
theorem ok1 : ((List.range 40).all fun k => okB true (k + 1)) = true := by kernel_rfl
set_option maxRecDepth 100000 in
theorem ok2 : ((List.range 40).all fun k => okB false (k + 1)) = true := by kernel_rfl
set_option maxRecDepth 100000 in
theorem deep1 : ((List.range 20).all fun k => deepB true (k + 41)) = true := by kernel_rfl
set_option maxRecDepth 100000 in
theorem deep2 : ((List.range 20).all fun k => deepB false (k + 41)) = true := by kernel_rfl
theorem tree_ok (sub : Bool) (k : Nat) (h0 : 0 < k) (h : k ≤ 40) : ∃ ns, Sx.tree (script sub k) = .ok ns ∧ ns.length = 2 * k + 2 := by
  have h1 : okB sub k = true := by
    have := List.all_eq_true.1 (show ((List.range 40).all fun k => okB sub (k + 1)) = true by cases sub with
      | false => exact ok2
      | true => exact ok1) (k - 1) (by simp; omega)
    rwa [show k - 1 + 1 = k by omega] at this
  unfold okB at h1
  cases e : Sx.tree (script sub k) with
  | error x => rw [e] at h1; cases h1
  | ok ns => rw [e] at h1; exact ⟨ns, rfl, by simpa using h1⟩
theorem tree_deep (sub : Bool) (k : Nat) (h0 : 40 < k) (h : k ≤ 60) : Sx.tree (script sub k) = .error (21, Lx.nl (script sub k)) := by
  have h1 : deepB sub k = true := by
    have := List.all_eq_true.1 (show ((List.range 20).all fun k => deepB sub (k + 41)) = true by cases sub with
      | false => exact deep2
      | true => exact deep1) (k - 41) (by simp; omega)
    rwa [show k - 41 + 41 = k by omega] at this
  unfold deepB at h1
  cases e : Sx.tree (script sub k) with
  | ok x => rw [e] at h1; cases h1
  | error x =>
    obtain ⟨n, l⟩ := x
    rw [e] at h1
    simp only [Bool.and_eq_true, beq_iff_eq] at h1
    rw [h1.1, h1.2]
end syntaxDeep
end Go.Proofs.YtipojbknkfkgoaaDoor
