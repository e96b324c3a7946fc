/- Soft regions, two words more: an operation whose guard's operation was left out; the frame behind a region, written out. No premises. -/
import Derived.Test.YteljmlodbnfhbaaLater
namespace Go.Proofs.Yteljmlodbnfhbaa
open Go.RowKit
theorem yielded_undef {ops : Array Oper} {a : Act} {j : Nat} {d : Tmp} (h : (ops[j]?).bind (·.dst) = some d) (hv : a.tmps.getD d undef = undef) : yielded ops a.tmps j = none := by
  unfold yielded
  rw [h]
  by_cases hd : d < a.tmps.size
  · simp [hd] at hv ⊢
    rw [hv]
    rfl
  · simp [hd]
def AllAt (a : Act) : Nat → List Value → Prop
  | _, [] => True
  | n, v :: l => a.tmps.getD n undef = v ∧ AllAt a (n + 1) l
theorem AllAt.at_ {a : Act} : ∀ {l : List Value} {n : Nat}, AllAt a n l → ∀ (i : Nat) (h : i < l.length), a.tmps.getD (n + i) undef = l[i]
  | v :: l, n, h, 0, _ => h.1
  | v :: l, n, h, i + 1, hi => by
    have := AllAt.at_ h.2 i (by simpa using hi)
    rw [show n + (i + 1) = n + 1 + i by omega, this]
    rfl
theorem act_lit {a : Act} {l : List Value} (hd : a.defers = []) (hsz : a.tmps.size = l.length) (h : AllAt a 0 l) : a = ⟨l.toArray, []⟩ := by
  obtain ⟨t, d⟩ := a
  simp only at hd hsz
  subst hd
  congr 1
  apply Array.ext
  · simpa using hsz
  · intro i h1 h2
    have h3 := h.at_ i (by simpa using h2)
    rw [Nat.zero_add] at h3
    simp only at h3
    rw [← Array.getElem_eq_getD (h := h1)] at h3
    simpa using h3
end Go.Proofs.Yteljmlodbnfhbaa
