/- The document's Told, as mathematics. -/
import Derived.Test.YtbgojfgapbcanaaDoorEvP
namespace Go.Proofs.YtbgojfgapbcanaaDoor
open Go.RowKit
def rightT (x0 x1 x4 q : Nat) : Bool := decide (0 < x0 ∧ x0 < 12 ∧ x1 < 256 ∧ q = 5 ∧ x4 < 65)
theorem toldM_read {bs b : List UInt8} {t : List UInt8} {row : List (List UInt8)} {nums : List Nat} {long : Bool} {e : Nat} (h : readM bs 4 true = (nums, t, row, long, b, e)) :
    ∃ x0 x1 x2 x3 x4 q, (x0 < 18446744073709551616 ∧ x1 < 18446744073709551616 ∧ x2 < 18446744073709551616 ∧ x3 < 18446744073709551616 ∧ x4 < 18446744073709551616) ∧ ((q = 4 ∧ nums = [x0, x1, x2, x3]) ∨ (q = 5 ∧ nums = [x0, x1, x2, x3, x4])) ∧ (∀ er, er = faultOf b e long (rightT x0 x1 x4 q) →
      (er ≠ 0 → toldM bs = (noTold, er.toNat) ∧ 0 ≤ er) ∧ (er = 0 → rightT x0 x1 x4 q = true ∧ toldM bs = ((x0, x1, zagZ x2, zagZ x3, t, row, x4), 0))) := by
  obtain ⟨x0, b0, e0, h0⟩ : ∃ x b e, numR bs 0 = (x, b, e) := ⟨_, _, _, rfl⟩
  obtain ⟨x1, b1, e1, h1⟩ : ∃ x b e, numR b0 e0 = (x, b, e) := ⟨_, _, _, rfl⟩
  obtain ⟨x2, b2, e2, h2⟩ : ∃ x b e, numR b1 e1 = (x, b, e) := ⟨_, _, _, rfl⟩
  obtain ⟨x3, b2', e2', h2'⟩ : ∃ x b e, numR b2 e2 = (x, b, e) := ⟨_, _, _, rfl⟩
  obtain ⟨t', b3, e3, h3⟩ : ∃ x b e, textR b2' e2' = (x, b, e) := ⟨_, _, _, rfl⟩
  obtain ⟨N, b4, e4, h4⟩ : ∃ x b e, numR b3 e3 = (x, b, e) := ⟨_, _, _, rfl⟩
  obtain ⟨q1, b5, e5, h5⟩ : ∃ x b e, rowR N b4 e4 = (x, b, e) := ⟨_, _, _, rfl⟩
  obtain ⟨x4, b6, e6, h6⟩ : ∃ x b e, numR b5 e5 = (x, b, e) := ⟨_, _, _, rfl⟩
  have hn3 : numsR 4 bs 0 = ([x0, x1, x2, x3], b2', e2') := by
    simp only [numsR, h0, h1, h2, h2', List.nil_append, List.cons_append]
  have hz4 := num_zero_of (bs := b3) (e := e3)
  have l0 := numR_lt bs 0
  have l1 := numR_lt b0 e0
  have l2 := numR_lt b1 e1
  have l3 := numR_lt b2 e2
  have l4 := numR_lt b5 e5
  rw [h0] at l0
  rw [h1] at l1
  rw [h2] at l2
  rw [h2'] at l3
  rw [h6] at l4
  rw [h4] at hz4
  dsimp only at hz4 l0 l1 l2 l3 l4
  have hA : toldM bs = (if 4096 < N then (noTold, 11) else
      if e6 ≠ 0 then (noTold, e6) else if ¬ ((1 ≤ x0 ∧ x0 ≤ 11) ∧ x1 ≤ 255 ∧ x4 ≤ 64) then (noTold, 11) else if b6 ≠ [] then (noTold, 14) else ((x0, x1, zagZ x2, zagZ x3, t', q1, x4), 0)) := by
    unfold toldM
    rw [h0]
    dsimp only
    rw [h1]
    dsimp only
    rw [h2]
    dsimp only
    rw [h2']
    dsimp only
    rw [h3]
    dsimp only
    rw [h4]
    dsimp only
    rw [h5]
    dsimp only
    rw [h6]
  unfold readM at h
  dsimp only at h
  rw [hn3] at h
  dsimp only at h
  rw [h3] at h
  dsimp only at h
  rw [h4] at h
  dsimp only at h
  by_cases hbig : 4096 < N
  · rw [if_pos hbig] at h
    simp only [Prod.mk.injEq] at h
    obtain ⟨rfl, rfl, rfl, rfl, rfl, rfl⟩ := h
    refine ⟨x0, x1, x2, x3, 0, 4, ⟨l0, l1, l2, l3, by omega⟩, .inl ⟨rfl, rfl⟩, fun er her => ?_⟩
    have he4 : e4 = 0 := by
      by_cases h9 : e4 = 0
      · exact h9
      · have := hz4 h9; omega
    have : er = 11 := by rw [her]; unfold faultOf; simp [he4]
    subst this
    rw [hA, if_pos hbig]
    exact ⟨fun _ => ⟨rfl, by omega⟩, fun h => by omega⟩
  · rw [if_neg hbig, h5] at h
    dsimp only at h
    rw [h6] at h
    simp only [if_true, Prod.mk.injEq] at h
    obtain ⟨rfl, rfl, rfl, rfl, rfl, rfl⟩ := h
    refine ⟨x0, x1, x2, x3, x4, 5, ⟨l0, l1, l2, l3, l4⟩, .inr ⟨rfl, rfl⟩, fun er her => ?_⟩
    rw [hA, if_neg hbig]
    by_cases he : e6 = 0
    · subst he
      rw [if_neg (by simp)]
      by_cases hx : (1 ≤ x0 ∧ x0 ≤ 11) ∧ x1 ≤ 255 ∧ x4 ≤ 64
      · have hd : rightT x0 x1 x4 5 = true := decide_eq_true (by omega)
        rw [if_neg (fun hc => hc hx)]
        rw [hd] at her
        by_cases hb : b6 = []
        · have : er = 0 := by rw [her]; unfold faultOf; simp [hb]
          subst this
          rw [if_neg (by simpa using hb)]
          exact ⟨fun h => absurd rfl h, fun _ => ⟨hd, rfl⟩⟩
        · have : er = 14 := by rw [her]; unfold faultOf; simp [hb]
          subst this
          rw [if_pos hb]
          exact ⟨fun _ => ⟨rfl, by omega⟩, fun h => by omega⟩
      · have hd : rightT x0 x1 x4 5 = false := decide_eq_false (by omega)
        rw [hd] at her
        have : er = 11 := by rw [her]; unfold faultOf; simp
        subst this
        rw [if_pos hx]
        exact ⟨fun _ => ⟨rfl, by omega⟩, fun h => by omega⟩
    · have : er = (e6 : Int) := by rw [her]; exact if_pos he
      subst this
      rw [if_pos he]
      exact ⟨fun _ => ⟨by simp, by omega⟩, fun h => by omega⟩
end Go.Proofs.YtbgojfgapbcanaaDoor
