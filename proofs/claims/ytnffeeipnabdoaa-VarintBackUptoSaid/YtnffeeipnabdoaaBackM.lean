/- What is put is read, one behind the other; what is cut is short: as plain mathematics. -/
import Derived.Test.YtnffeeipnabdoaaRdr
namespace Go.Proofs.Ytnffeeipnabdoaa
open Go.RowKit
theorem num_all {x : Nat} (hx : x < 18446744073709551616) (r : List UInt8) : numR (numL x ++ r) 0 = (x, r, 0) := by
  have h := takeM_numL hx r
  simp [numR, h]
theorem text_all {s : ByteArray} (hs : s.size < 18446744073709551616) (r : List UInt8) : textR (textL s ++ r) 0 = (s.data.toList, r, 0) := by
  have h : numR (textL s ++ r) 0 = (s.size, s.data.toList ++ r, 0) := by
    rw [textL, List.append_assoc]; exact num_all hs _
  have hl : s.data.toList.length = s.size := rfl
  simp only [textR, h]
  simp only [ne_eq, not_true_eq_false, if_false, List.length_append, hl]
  rw [if_neg (by omega)]
  rw [← hl, List.take_left, List.drop_left]
/-- Bytes that are cut within a number's are short. -/
theorem take_short {x m : Nat} (hx : x < 18446744073709551616) (h : m < (numL x).length) : takeM ((numL x).take m) = (0, 0, 10) := by
  have h10 := numL_ten hx
  have e := headsN_numL 10 x h10
  have hm : ((numL x).take m).length = m := by rw [List.length_take]; omega
  have hh : heads ((numL x).take m) = m := by
    apply Nat.le_antisymm
    · have := (heads_le ((numL x).take m)).2; omega
    · suffices ∀ k, k ≤ m → k ≤ heads ((numL x).take m) from this m (Nat.le_refl _)
      intro k
      induction k with
      | zero => intro _; omega
      | succ k ih =>
        intro hk
        obtain ⟨hl, hge⟩ := head_at (numL x) k (by unfold heads; omega)
        have hk' : k < ((numL x).take m).length := by omega
        exact (heads_at _ k hk' (by omega) (ih (by omega))).1 (by rw [List.getElem_take]; exact hge)
  unfold takeM
  rw [hh, hm, if_neg (by omega), if_pos rfl]
theorem num_cut {x m : Nat} (hx : x < 18446744073709551616) (r : List UInt8) (h : m < (numL x ++ r).length) :
    (∃ b, numR ((numL x ++ r).take m) 0 = (0, b, 10)) ∨ (∃ k, k < r.length ∧ numR ((numL x ++ r).take m) 0 = (x, r.take k, 0)) := by
  rcases Nat.lt_or_ge m (numL x).length with hm | hm
  · left
    have e : (numL x ++ r).take m = (numL x).take m := List.take_append_of_le_length (by omega)
    rw [e]
    exact ⟨_, by simp only [numR, take_short hx hm]; rfl⟩
  · right
    have e : (numL x ++ r).take m = numL x ++ r.take (m - (numL x).length) := by
      rw [List.take_append, List.take_of_length_le hm]
    rw [List.length_append] at h
    exact ⟨m - (numL x).length, by omega, by rw [e]; exact num_all hx _⟩
theorem text_cut {s : ByteArray} {m : Nat} (hs : s.size < 18446744073709551616) (r : List UInt8) (h : m < (textL s ++ r).length) :
    (∃ t b, textR ((textL s ++ r).take m) 0 = (t, b, 10)) ∨ (∃ t k, k < r.length ∧ textR ((textL s ++ r).take m) 0 = (t, r.take k, 0)) := by
  have hl : s.data.toList.length = s.size := rfl
  have e : textL s ++ r = numL s.size ++ (s.data.toList ++ r) := by rw [textL, List.append_assoc]
  rw [e] at h ⊢
  rcases num_cut hs (s.data.toList ++ r) h with ⟨b, hb⟩ | ⟨k, hk, hb⟩
  · left
    exact ⟨[], b, by simp [textR, hb]⟩
  · rcases Nat.lt_or_ge k s.size with hks | hks
    · left
      refine ⟨[], (s.data.toList ++ r).take k, ?_⟩
      simp only [textR, hb]
      rw [if_neg (by simp), if_pos (by rw [List.length_take]; omega)]
    · right
      rw [List.length_append, hl] at hk
      refine ⟨s.data.toList, k - s.size, by omega, ?_⟩
      have e2 : (s.data.toList ++ r).take k = s.data.toList ++ r.take (k - s.size) := by
        rw [List.take_append, List.take_of_length_le (by omega), hl]
      simp only [textR, hb]
      rw [e2, if_neg (by simp), if_neg (by rw [List.length_append]; omega), ← hl, List.take_left, List.drop_left]
theorem num_stop (b : List UInt8) : numR b 10 = (0, b, 10) := rfl
theorem text_stop (b : List UInt8) : textR b 10 = ([], b, 10) := rfl
theorem putL_drop (l : List Nat) (k : Nat) (h : k < l.length) : putL (l.drop k) = numL l[k] ++ putL (l.drop (k + 1)) := by
  show (l.drop k).flatMap numL = _
  rw [List.drop_eq_getElem_cons h, List.flatMap_cons]; rfl
theorem textsL_drop (l : List ByteArray) (k : Nat) (h : k < l.length) : textsL (l.drop k) = textL l[k] ++ textsL (l.drop (k + 1)) := by
  show (l.drop k).flatMap textL = _
  rw [List.drop_eq_getElem_cons h, List.flatMap_cons]; rfl
theorem textsL_len : ∀ (l : List ByteArray), (∀ s ∈ l, s.size < 18446744073709551616) → (textsL l).length ≤ (l.map ByteArray.size).sum + 10 * l.length
  | [], _ => by simp [textsL]
  | s :: l, h => by
    have h1 := textsL_len l fun x hx => h x (List.mem_cons_of_mem _ hx)
    have h3 := numL_ten (h s (List.mem_cons_self ..))
    have e : textsL (s :: l) = textL s ++ textsL l := by simp [textsL]
    rw [e, List.length_append, textL_len, List.length_cons, List.map_cons, List.sum_cons]
    omega
end Go.Proofs.Ytnffeeipnabdoaa
