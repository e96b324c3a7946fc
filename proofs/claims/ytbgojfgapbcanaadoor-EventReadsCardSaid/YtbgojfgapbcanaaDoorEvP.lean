/- The document's Asked, walked. -/
import Derived.Test.YtbgojfgapbcanaaDoorEvM
import Derived.Test.YtbgojfgapbcanaaDoorEvO
import Derived.Deep.RegionHeld
namespace Go.Proofs.YtbgojfgapbcanaaDoor
open Go.RowKit
theorem len3 {l : List Nat} (h : l.length = 3) : ∃ a b c, l = [a, b, c] := by
  match l, h with
  | [a, b, c], _ => exact ⟨a, b, c, rfl⟩
theorem len5 {l : List Nat} (h : l.length = 5) : ∃ a b c d e, l = [a, b, c, d, e] := by
  match l, h with
  | [a, b, c, d, e], _ => exact ⟨a, b, c, d, e, rfl⟩
/-- What Asked's steps come to, as the document has them. -/
theorem askedM_read {bs b : List UInt8} {t : List UInt8} {row : List (List UInt8)} {nums : List Nat} {long : Bool} {e kk : Nat} {er : Int} (h : readM bs 3 false = (nums, t, row, long, b, e)) :
    ∃ x0 x1 x2, nums = [x0, x1, x2] ∧ (x0 < 18446744073709551616 ∧ x1 < 18446744073709551616 ∧ x2 < 18446744073709551616) ∧ ((kk = if x0 < 12 then x0 else 0) → er = faultOf b e long (decide (0 < kk)) →
      (er ≠ 0 → askedM bs = (noAsked, er.toNat) ∧ 0 ≤ er) ∧ (er = 0 → askedM bs = ((kk, zagZ x1, zagZ x2, t, row), 0))) := by
  obtain ⟨x0, b0, e0, h0⟩ : ∃ x b e, numR bs 0 = (x, b, e) := ⟨_, _, _, rfl⟩
  obtain ⟨x1, b1, e1, h1⟩ : ∃ x b e, numR b0 e0 = (x, b, e) := ⟨_, _, _, rfl⟩
  obtain ⟨x2, b2, e2, h2⟩ : ∃ x b e, numR b1 e1 = (x, b, e) := ⟨_, _, _, rfl⟩
  obtain ⟨t', b3, e3, h3⟩ : ∃ x b e, textR b2 e2 = (x, b, e) := ⟨_, _, _, rfl⟩
  obtain ⟨N, b4, e4, h4⟩ : ∃ x b e, numR b3 e3 = (x, b, e) := ⟨_, _, _, rfl⟩
  have hn3 : numsR 3 bs 0 = ([x0, x1, x2], b2, e2) := by
    simp only [numsR, h0, h1, h2, List.nil_append, List.cons_append]
  have hz4 := num_zero_of (bs := b3) (e := e3)
  have l0 := numR_lt bs 0
  have l1 := numR_lt b0 e0
  have l2 := numR_lt b1 e1
  rw [h0] at l0
  rw [h1] at l1
  rw [h2] at l2
  rw [h4] at hz4
  dsimp only at hz4 l0 l1 l2
  have hA : askedM bs = (if 4096 < N then (noAsked, 11) else
      let q := rowR N b4 e4
      if q.2.2 ≠ 0 then (noAsked, q.2.2) else if ¬ (1 ≤ x0 ∧ x0 ≤ 11) then (noAsked, 11) else if q.2.1 ≠ [] then (noAsked, 14) else ((x0, zagZ x1, zagZ x2, t', q.1), 0)) := by
    unfold askedM
    rw [h0]
    dsimp only
    rw [h1]
    dsimp only
    rw [h2]
    dsimp only
    rw [h3]
    dsimp only
    rw [h4]
  unfold readM at h
  dsimp only at h
  rw [hn3] at h
  dsimp only at h
  rw [h3] at h
  dsimp only at h
  rw [h4] at h
  dsimp only at h
  by_cases hbig : 4096 < N
  · rw [if_pos hbig] at h
    simp only [Prod.mk.injEq] at h
    obtain ⟨rfl, rfl, rfl, rfl, rfl, rfl⟩ := h
    refine ⟨x0, x1, x2, rfl, ⟨l0, l1, l2⟩, fun hk her => ?_⟩
    have he4 : e4 = 0 := by
      by_cases h9 : e4 = 0
      · exact h9
      · have := hz4 h9; omega
    have : er = 11 := by rw [her]; unfold faultOf; simp [he4]
    subst this
    rw [hA, if_pos hbig]
    exact ⟨fun _ => ⟨rfl, by omega⟩, fun h => by omega⟩
  · rw [if_neg hbig] at h
    simp only [Bool.false_eq_true, if_false, Prod.mk.injEq] at h
    obtain ⟨rfl, rfl, hr1, rfl, hr2, hr3⟩ := h
    refine ⟨x0, x1, x2, rfl, ⟨l0, l1, l2⟩, fun hk her => ?_⟩
    rw [hA, if_neg hbig]
    dsimp only
    rw [hr1, hr2, hr3]
    by_cases he : e = 0
    · subst he
      rw [if_neg (by simp)]
      by_cases hx : 1 ≤ x0 ∧ x0 ≤ 11
      · have hkx : kk = x0 := by rw [hk, if_pos (by omega)]
        subst hkx
        rw [if_neg (by simpa using hx)]
        have hd : decide (0 < kk) = true := decide_eq_true (by omega)
        rw [hd] at her
        by_cases hb : b = []
        · have : er = 0 := by rw [her]; unfold faultOf; simp [hb]
          subst this
          rw [if_neg (by simpa using hb)]
          exact ⟨fun h => absurd rfl h, fun _ => rfl⟩
        · have : er = 14 := by rw [her]; unfold faultOf; simp [hb]
          subst this
          rw [if_pos hb]
          exact ⟨fun _ => ⟨rfl, by omega⟩, fun h => by omega⟩
      · have hkx : kk = 0 := by
          rw [hk]
          split <;> omega
        subst hkx
        have : er = 11 := by rw [her]; unfold faultOf; simp
        subst this
        rw [if_pos hx]
        exact ⟨fun _ => ⟨rfl, by omega⟩, fun h => by omega⟩
    · have : er = (e : Int) := by rw [her]; exact if_pos he
      subst this
      rw [if_pos he]
      exact ⟨fun _ => ⟨by simp, by omega⟩, fun h => by omega⟩
end Go.Proofs.YtbgojfgapbcanaaDoor
