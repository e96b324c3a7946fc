/- Texts without signs, and quoted ones, are one part. No premises. -/
import Derived.Test.YtlenocpaalahbaaDoorWaw
namespace Go.Proofs.YtlenocpaalahbaaDoor
open Ws
namespace Wd
theorem put_put (k : Nat) (a b : B) (r : R) : put k a (put k b r) = put k (b ++ a) r := by
  unfold put
  by_cases h : k = r.k
  · simp [h]
  · simp [h]
theorem put_R0 {k : Nat} (hk : k ≠ 0) (t : B) : put k t R0 = ⟨[], k, t⟩ := by
  unfold put R0 close
  simp [hk]
theorem all_put {k : Nat} (hk : 0 < k) (t : B) : all (⟨[], k, t⟩ : R) = [.mk k t [] false []] := by
  unfold all close
  simp [hk]
def plainB (c : UInt8) : Bool := c != 92 && c != 39 && c != 34 && c != 36 && c != 126 && c != 96
theorem plain_ne {c : UInt8} (h : plainB c = true) : c ≠ 92 ∧ c ≠ 39 ∧ c ≠ 34 ∧ c ≠ 36 ∧ c ≠ 126 ∧ c ≠ 96 := by
  unfold plainB at h
  simp only [Bool.and_eq_true, bne_iff_ne, ne_eq] at h
  exact ⟨h.1.1.1.1.1, h.1.1.1.1.2, h.1.1.1.2, h.1.1.2, h.1.2, h.2⟩
theorem loop_plain (br : S → P × S) (e : Nat) : ∀ (s : B) (n : Nat) (r : R), s.all plainB = true → s.length ≤ n → loop left (part br) n (r, ⟨s, e⟩) = (if s = [] then r else put 1 s r, ⟨[], e⟩)
  | [], n, r, _, _ => loop_stop rfl
  | c :: s, 0, r, _, hn => by simp at hn
  | c :: s, n + 1, r, hp, hn => by
    rw [List.all_cons, Bool.and_eq_true] at hp
    obtain ⟨h1, h2, h3, h4, _, h6⟩ := plain_ne hp.1
    rw [loop, show left (⟨c :: s, e⟩ : S) = true from rfl, if_pos rfl, part_el (x := ⟨c :: s, e⟩) rfl h1 h2 h3 h4 h6, loop_plain br e s n _ hp.2 (by simpa using hn)]
    by_cases hs : s = []
    · subst hs; rfl
    · rw [if_neg hs, if_neg (by simp), put_put]; rfl
theorem start_ne {s : B} (h : s.head? ≠ some 126) : start s = (R0, ⟨s, 0⟩) := by
  unfold start
  rw [if_neg]
  rintro (e | e)
  · rw [e] at h; simp at h
  · cases s with
    | nil => simp [Lib.hasPrefix] at e
    | cons c t =>
      unfold Lib.hasPrefix at e
      simp only [List.isPrefixOf, Bool.and_eq_true, beq_iff_eq] at e
      rw [← e.1] at h
      simp at h
theorem parse_plain {s : B} (hp : s.all plainB = true) : parse s = if s = [] then ([], 0) else ([.mk 1 s [] false []], 0) := by
  have hst : start s = (R0, ⟨s, 0⟩) := start_ne fun e => by
    cases s with
    | nil => cases e
    | cons c t =>
      rw [List.all_cons, Bool.and_eq_true] at hp
      simp only [List.head?_cons, Option.some.injEq] at e
      exact (plain_ne hp.1).2.2.2.2.1 e
  unfold parse
  rw [hst, loop_plain (brace 8) 0 s s.length R0 hp (Nat.le_refl _)]
  by_cases hs : s = []
  · rw [if_pos hs, if_pos hs]; rfl
  · rw [if_neg hs, if_neg hs, put_R0 (by omega)]
    unfold told
    rw [if_neg (by simp), all_put (by omega)]
theorem index_at : ∀ (s t : B) (c : UInt8), c ∉ s → Lib.indexByte (s ++ c :: t) c = s.length
  | [], t, c, _ => by simp [Lib.indexByte]
  | b :: s, t, c, h => by
    have h1 : (b == c) = false := beq_eq_false_iff_ne.2 fun e => h (by simp [e])
    have ih := index_at s t c (fun e => h (by simp [e]))
    rw [List.cons_append, Lib.indexByte, h1, ih]
    have : ((s.length : Int) == -1) = false := by simp
    rw [this]
    simp
theorem upTo_at {s t : B} {c : UInt8} (h : c ∉ s) (e : Nat) : upTo c ⟨s ++ c :: t, e⟩ = (s, ⟨t, e⟩) := by
  unfold upTo
  rw [index_at s t c h, if_neg (by omega)]
  simp [skip]
theorem parse_single {s : B} (h : (39 : UInt8) ∉ s) : parse ([39] ++ s ++ [39]) = ([.mk 2 s [] false []], 0) := by
  have hst : start ([39] ++ s ++ [39]) = (R0, ⟨[39] ++ s ++ [39], 0⟩) := start_ne (by simp)
  unfold parse
  rw [hst]
  have hl : ([39] ++ s ++ [39] : B).length = (s.length + 1) + 1 := by simp
  rw [hl, loop, show left (⟨[39] ++ s ++ [39], 0⟩ : S) = true from rfl, if_pos rfl, part_sq (x := ⟨[39] ++ s ++ [39], 0⟩) (t := s ++ [39]) (by simp), upTo_at h, loop_stop rfl, put_R0 (by omega)]
  unfold told
  rw [if_neg (by simp), all_put (by omega)]
/-! ### double quotes -/
def spec (c : UInt8) : Bool := c == 34 || c == 92 || c == 36 || c == 96
def escB (c : UInt8) : B := if spec c then [92, c] else [c]
def esc (s : B) : B := s.flatMap escB
theorem esc_len (s : B) : (esc s).length ≤ 2 * s.length := by
  induction s with
  | nil => simp [esc]
  | cons c s ih =>
    unfold esc at ih ⊢
    rw [List.flatMap_cons, List.length_append]
    have : (escB c).length ≤ 2 := by unfold escB; split <;> simp
    simp only [List.length_cons]
    omega
theorem spec_bare {c : UInt8} (h : spec c = true) : bare inQuotes [c] = true := by
  unfold spec at h
  unfold bare inQuotes
  simp only [Bool.or_eq_true, beq_iff_eq] at h
  rcases h with ((rfl | rfl) | rfl) | rfl <;> decide
theorem more_q {c : UInt8} {t : B} {e : Nat} (h : c ≠ 34) : more [34] ⟨c :: t, e⟩ = true := by
  have h1 : ((34 : UInt8) == c) = false := beq_eq_false_iff_ne.2 fun e => h e.symm
  exact more_a (x := ⟨c :: t, e⟩) rfl ((ahead_one 34 c t e).trans h1)
theorem loop_esc (br : S → P × S) (e : Nat) : ∀ (s : B) (n : Nat) (r : R), s.length ≤ n → loop (more [34]) (content br inQuotes) n (r, ⟨esc s ++ [34], e⟩) = (if s = [] then r else put 2 s r, ⟨[34], e⟩)
  | [], n, r, _ => loop_stop (y := (r, ⟨[34], e⟩)) (more_a (x := ⟨[34], e⟩) rfl rfl)
  | c :: s, 0, r, hn => by simp at hn
  | c :: s, n + 1, r, hn => by
    have he : esc (c :: s) ++ [34] = escB c ++ (esc s ++ [34]) := by unfold esc; rw [List.flatMap_cons, List.append_assoc]
    have ih := fun r => loop_esc br e s n r (by simpa using hn)
    have fin : ∀ r, (if s = [] then put 2 [c] r else put 2 s (put 2 [c] r)) = put 2 (c :: s) r := fun r => by
      by_cases hs : s = []
      · subst hs; rfl
      · rw [if_neg hs, put_put]; rfl
    rw [he, if_neg (by simp)]
    unfold escB
    cases hs : spec c with
    | true =>
      rw [if_pos rfl, show ([92, c] : B) ++ (esc s ++ [34]) = 92 :: c :: (esc s ++ [34]) from rfl, loop, if_pos (more_q (by decide)), content_bs (x := ⟨92 :: c :: (esc s ++ [34]), e⟩) rfl, next_cons (x := ⟨c :: (esc s ++ [34]), e⟩) rfl, if_pos (spec_bare hs), ih, fin]
    | false =>
      unfold spec at hs
      simp only [Bool.or_eq_false_iff, beq_eq_false_iff_ne] at hs
      rw [if_neg (by simp), show ([c] : B) ++ (esc s ++ [34]) = c :: (esc s ++ [34]) from rfl, loop, if_pos (more_q hs.1.1.1), content_el (x := ⟨c :: (esc s ++ [34]), e⟩) rfl hs.1.1.2 hs.1.2 hs.2, ih, fin]
theorem parse_double (s : B) : parse ([34] ++ esc s ++ [34]) = ([.mk 2 s [] false []], 0) := by
  have hst : start ([34] ++ esc s ++ [34]) = (R0, ⟨[34] ++ esc s ++ [34], 0⟩) := start_ne (by simp)
  have hel : s.length ≤ (esc s ++ [34]).length := by
    have : s.length ≤ (esc s).length := by
      induction s with
      | nil => simp
      | cons c s ih =>
        unfold esc at ih ⊢
        rw [List.flatMap_cons, List.length_append]
        have h1 : 1 ≤ (escB c).length := by unfold escB; split <;> simp
        have := ih (start_ne (by simp))
        simp only [List.length_cons]
        omega
    simp; omega
  unfold parse
  rw [hst]
  have hl : ([34] ++ esc s ++ [34] : B).length = ((esc s).length + 1) + 1 := by simp
  rw [hl, loop, show left (⟨[34] ++ esc s ++ [34], 0⟩ : S) = true from rfl, if_pos rfl, part_dq (x := ⟨[34] ++ esc s ++ [34], 0⟩) (t := esc s ++ [34]) (by simp)]
  have hd : double (brace 8) (R0, ⟨esc s ++ [34], 0⟩) = (⟨[], 2, s⟩, ⟨[], 0⟩) := by
    unfold double
    dsimp only
    by_cases hs : s = []
    · subst hs; rfl
    · have ha : ahead [34] ⟨esc s ++ [34], 0⟩ = false := by
        cases s with
        | nil => exact absurd rfl hs
        | cons c s =>
          have he : esc (c :: s) ++ [34] = escB c ++ (esc s ++ [34]) := by unfold esc; rw [List.flatMap_cons, List.append_assoc]
          rw [he]
          unfold escB
          cases h1 : spec c with
          | true => rw [if_pos rfl]; exact ahead_one 34 92 _ 0
          | false =>
            rw [if_neg (by simp)]
            refine (ahead_one 34 c _ 0).trans (beq_eq_false_iff_ne.2 fun e => ?_)
            rw [← e] at h1
            cases h1
      rw [ha]
      simp only [Bool.false_eq_true, if_false]
      rw [loop_esc (brace 8) 0 s _ R0 hel, if_neg hs, put_R0 (by omega)]
      rfl
  rw [hd, loop_stop rfl]
  unfold told
  rw [if_neg (by simp), all_put (by omega)]
end Wd
end Go.Proofs.YtlenocpaalahbaaDoor
