/- PAIRS OF TEXTS IN MEMORY (variables), and an Env as a value. No premises. -/
import Derived.Test.YtmijploffdoenaaDoorNa
import Derived.Test.YtmijploffdoenaaDoorEc
namespace Go.Proofs.YtmijploffdoenaaDoor
open Go.RowKit Go.Maps
namespace En
/-- The cells of pairs. -/
def prs (l : Vs) : List Value := l.flatMap fun p => [.string (mkS p.1), .string (mkS p.2)]
theorem prs_len (l : Vs) : (prs l).length = l.length * 2 := by
  induction l with
  | nil => rfl
  | cons p l ih => unfold prs at ih ⊢; rw [List.flatMap_cons, List.length_append, ih, List.length_cons]; simp; omega
theorem prs_app (a b : Vs) : prs (a ++ b) = prs a ++ prs b := by unfold prs; exact List.flatMap_append
theorem prs_one (a b : B) : prs [(a, b)] = [.string (mkS a), .string (mkS b)] := rfl
theorem prs_at : ∀ (l : Vs) (j : Nat) (h : j < l.length), (prs l)[j * 2]? = some (.string (mkS l[j].1)) ∧ (prs l)[j * 2 + 1]? = some (.string (mkS l[j].2))
  | [], j, h => by simp at h
  | y :: l, 0, _ => by simp [prs]
  | y :: l, j + 1, h => by
    have := prs_at l j (by simpa using h)
    have e : prs (y :: l) = [.string (mkS y.1), .string (mkS y.2)] ++ prs l := rfl
    rw [e, List.getElem?_append_right (by simp; omega), List.getElem?_append_right (by simp; omega)]
    simp only [List.length_cons, List.length_nil, List.getElem_cons_succ]
    rw [show (j + 1) * 2 - (0 + 1 + 1) = j * 2 by omega, show (j + 1) * 2 + 1 - (0 + 1 + 1) = j * 2 + 1 by omega]
    exact this
theorem prs_one_cell (l : Vs) : ∀ u ∈ prs l, u.oneCell' = true := by
  intro u hu
  obtain ⟨p, _, hp⟩ := List.mem_flatMap.1 hu
  simp at hp
  rcases hp with rfl | rfl <;> rfl
theorem prs_cell {l : Vs} {j : Nat} {u : Value} (h : (prs l)[j]? = some u) : ∃ k, ∃ hk : k < l.length, (j = k * 2 ∧ u = .string (mkS l[k].1)) ∨ (j = k * 2 + 1 ∧ u = .string (mkS l[k].2)) := by
  have hj := (List.getElem?_eq_some_iff.1 h).1
  rw [prs_len] at hj
  have hk : j / 2 < l.length := by omega
  obtain ⟨h1, h2⟩ := prs_at l (j / 2) hk
  refine ⟨j / 2, hk, ?_⟩
  rcases Nat.mod_two_eq_zero_or_one j with e | e
  · left
    rw [show j / 2 * 2 = j by omega, h] at h1
    exact ⟨by omega, by injection h1⟩
  · right
    rw [show j / 2 * 2 + 1 = j by omega, h] at h2
    exact ⟨by omega, by injection h2⟩
/-- A slice of pairs that reads as l; its block lies below B. It begins anywhere in its block. -/
structure RdP (w : World) (B : Nat) (v : Value) (l : Vs) : Prop where
  le : ∃ A c, v = .slice A l.length c ∧ l.length ≤ c ∧ c ≤ 9223372036854775807 ∧ (A = none → c = 0)
  at_ : 0 < l.length → ∃ g o c, v = .slice (some ⟨g, o, none⟩) l.length c ∧ g < B ∧ ∀ (k : Nat) (h : k < l.length), w.cell? ⟨g, o + k * 2, none⟩ = some (.string (mkS l[k].1)) ∧ w.cell? ⟨g, o + k * 2 + 1, none⟩ = some (.string (mkS l[k].2))
theorem RdP.nil (w : World) (B : Nat) : RdP w B (.slice none 0 0) [] := ⟨⟨none, 0, rfl, Nat.le_refl _, by omega, fun _ => rfl⟩, fun h => absurd h (by simp)⟩
theorem RdP.keep {w w' : World} {B : Nat} {v : Value} {l : Vs} (h : RdP w B v l) (hk : ∀ p : Addr, p.block < B → w'.cell? p = w.cell? p) : RdP w' B v l :=
  ⟨h.le, fun h0 => by
    obtain ⟨g, o, c, e, hb, hc⟩ := h.at_ h0
    exact ⟨g, o, c, e, hb, fun k hk2 => ⟨(hk _ hb).trans (hc k hk2).1, (hk _ hb).trans (hc k hk2).2⟩⟩⟩
theorem RdP.more {w : World} {B B' : Nat} {v : Value} {l : Vs} (h : RdP w B v l) (hB : B ≤ B') : RdP w B' v l :=
  ⟨h.le, fun h0 => by
    obtain ⟨g, o, c, e, hb, hc⟩ := h.at_ h0
    exact ⟨g, o, c, e, Nat.lt_of_lt_of_le hb hB, hc⟩⟩
theorem RdP.later {w w' : World} {v : Value} {l : Vs} (h : RdP w w.heap.size v l) (hl : Later w w') : RdP w' w'.heap.size v l := (h.keep fun _ hp => hl.cell hp).more hl.size
/-- Pairs of the call's own read as what they are. -/
theorem RdP.of_own {w : World} {base : Nat} {e : TypeId} {v : Value} {l : Vs} (h : w.ownsRow base e 2 v l.length (prs l)) : RdP w w.heap.size v l := by
  rcases h.2 with ⟨rfl, hx⟩ | ⟨g, cap, cur, rfl, hb, hh, hnc, hcm, _⟩
  · have h0 : l = [] := List.length_eq_zero_iff.1 hx
    subst h0
    exact RdP.nil _ _
  · refine ⟨⟨_, cap, rfl, hnc, ?_, fun e => by cases e⟩, fun _ => ⟨g, 0, cap, rfl, lt_of_block hh, fun k hk => ?_⟩⟩
    · simp only [maxLen] at hcm; omega
    · obtain ⟨h1, h2⟩ := prs_at l k hk
      have e1 := h.cells (g := g) rfl _ _ h1
      have e2 := h.cells (g := g) rfl _ _ h2
      rw [add_lit0] at e1 e2
      rw [Nat.zero_add]
      exact ⟨e1, e2⟩
/-- An Env as a value. -/
def RdE (w : World) (v : Value) (e : E) : Prop := ∃ va A n c, v = .agg #[va, .slice A n c, .int .i64 (e.status : Int), .string (mkS e.flags)] ∧ RdP w w.heap.size va e.vars ∧ Rd w w.heap.size A n (e.args.map fun x => .string (mkS x)) ∧ n ≤ c ∧ c ≤ 9223372036854775807
theorem RdE.later {w w' : World} {v : Value} {e : E} (h : RdE w v e) (hl : Later w w') : RdE w' v e := by
  obtain ⟨va, A, n, c, e1, h1, h2, h3, h4⟩ := h
  exact ⟨va, A, n, c, e1, h1.later hl, (h2.below hl).more hl.size, h3, h4⟩
theorem RdE.zero (w : World) : RdE w (.agg #[.slice none 0 0, .slice none 0 0, .int .i64 0, .string ⟨#[]⟩]) ⟨[], [], 0, []⟩ := ⟨_, none, 0, 0, rfl, RdP.nil _ _, Rd.nil_, Nat.le_refl _, by omega⟩
end En
end Go.Proofs.YtmijploffdoenaaDoor
