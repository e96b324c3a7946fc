/- A tree is small, and its nodes' kids are few. No premises. -/
import Derived.Test.YtipojbknkfkgoaaGreatDoorNz
namespace Go.Proofs.YtipojbknkfkgoaaGreatDoor
open Lx (nl Tok)
namespace Sx
theorem few_of_count : ∀ (n : Nat) (ks : List Nat), (∀ x ∈ ks, x < n) → (∀ j, ks.count j ≤ 1) → ks.length ≤ n
  | 0, ks, h, _ => by
    cases ks with
    | nil => exact Nat.le_refl _
    | cons x _ => exact absurd (h x (by simp)) (by omega)
  | n + 1, ks, h, hc => by
    have h1 : (ks.filter fun x => !(x == n)).length ≤ n := few_of_count n _ (fun x hx => by
      obtain ⟨h2, h3⟩ := List.mem_filter.1 hx
      have := h x h2
      simp at h3
      omega) (fun j => Nat.le_trans (List.Sublist.count_le j List.filter_sublist) (hc j))
    have h2 : ks.length = (ks.filter fun x => x == n).length + (ks.filter fun x => !(x == n)).length := by
      rw [← List.countP_eq_length_filter, ← List.countP_eq_length_filter]
      have := List.length_eq_countP_add_countP (l := ks) (fun x => x == n)
      rw [this]
      congr 2
      funext x
      cases x == n <;> simp
    have h3 : (ks.filter fun x => x == n).length ≤ 1 := by
      rw [← List.countP_eq_length_filter]
      exact hc n
    omega
theorem tree_small {S : L} {ns : List Node} (h : tree S = .ok ns) : ns.length ≤ 8 * S.length + 9 ∧ ∀ n ∈ ns, n.kids.length ≤ ns.length ∧ ∀ j ∈ n.kids, j < ns.length := by
  unfold tree at h
  cases hx : Lx.all S with
  | error e => rw [hx] at h; cases h
  | ok ts =>
    rw [hx] at h
    have h : parse ts = .ok ns := h
    unfold parse at h
    cases hs : script (ts.length + 1) ⟨ts, 0, []⟩ with
    | error e => rw [hs] at h; cases h
    | ok x =>
      obtain ⟨u, s'⟩ := x
      rw [hs] at h
      have h : (Except.ok s'.ns : Except Er (List Node)) = .ok ns := h
      injection h with h
      subst h
      unfold script at hs
      obtain ⟨i, s1, h1, h2⟩ := bnd_inv hs
      have hw := anyF_un (ts.length + 1) ⟨ts, 0, []⟩ i s1 (Lx.all_good hx) h1
      have e1 : s1 = s' := by
        by_cases e : (hd s1).kind = 4
        · rw [if_pos e] at h2; cases h2; rfl
        · rw [if_neg e] at h2; cases h2
      subst e1
      obtain ⟨ms, e2, f⟩ := hw.fo
      simp only [List.nil_append] at e2
      have hp := hw.pot
      have hsm := (Lx.all_small hx).1
      rw [← e2] at f
      refine ⟨by simp only [List.length_nil] at hp; omega, fun n hn => ?_⟩
      obtain ⟨k, hk, rfl⟩ := List.getElem_of_mem hn
      have hkid : ∀ j ∈ s1.ns[k].kids, j < s1.ns.length := fun j hj => by have := f.kid k hk j hj; simp only [List.length_nil] at this; omega
      refine ⟨few_of_count _ _ hkid fun j => ?_, hkid⟩
      by_cases hj : j < s1.ns.length
      · have h3 := f.one j (by simp) (by simp only [List.length_nil]; omega)
        have h4 : s1.ns[k].kids.count j ≤ (s1.ns.flatMap Node.kids).count j := by
          have e : s1.ns = s1.ns.take k ++ (s1.ns[k] :: s1.ns.drop (k + 1)) := by rw [← List.drop_eq_getElem_cons hk, List.take_append_drop]
          conv => rhs; rw [e]
          rw [List.flatMap_append, List.flatMap_cons, List.count_append, List.count_append]
          omega
        omega
      · have : s1.ns[k].kids.count j = 0 := List.count_eq_zero.2 fun e => hj (hkid j e)
        omega
end Sx
end Go.Proofs.YtipojbknkfkgoaaGreatDoor
