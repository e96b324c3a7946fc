/- Frames as plain mathematics: a row's frame, what bytes begin with, what they are scanned as; cut, and turned. No premises. -/
import Derived.Test.YtemokpnepnmmkaaMa
import Derived.Test.YtemokpnepnmmkaaCm
namespace Go.Proofs.Ytemokpnepnmmkaa
theorem tailL_length (x : Nat) : (tailL x).length = 4 := rfl
/-- Any four bytes are a number's. -/
theorem four_tail (D : List UInt8) (h : D.length = 4) : ∃ t, t < 4294967296 ∧ D = tailL t := by
  match D, h with
  | [a, b, c, d], _ =>
    have ha := a.toNat_lt
    have hb := b.toNat_lt
    have hc := c.toNat_lt
    have hd := d.toNat_lt
    refine ⟨a.toNat + 256 * b.toNat + 65536 * c.toNat + 16777216 * d.toNat, by omega, ?_⟩
    have e : ∀ (x : UInt8) (n : Nat), n = x.toNat → x = UInt8.ofNat n := fun x n h => by subst h; simp
    simp only [tailL]
    rw [← e a _ (by omega), ← e b _ (by omega), ← e c _ (by omega), ← e d _ (by omega)]
theorem tailL_same {x y : Nat} (hx : x < 4294967296) (hy : y < 4294967296) (h : tailL x = tailL y) : x = y := by
  have h1 := (tailL_bits hx).1
  rw [h, (tailL_bits hy).1] at h1
  exact h1.symm
/-- A row with how many bytes it has ahead. -/
def headL (r : List UInt8) : List UInt8 := numL r.length ++ r
/-- A row's frame. -/
def frameL (r : List UInt8) : List UInt8 := headL r ++ tailL (crcL (headL r))
/-- What is put. -/
def putF (l : List (List UInt8)) : List UInt8 := if l.any (fun r => decide (65536 < r.length)) then [] else l.flatMap frameL
/-- What bytes begin with: the row, its frame's length, the error. -/
def takeF (b : List UInt8) : List UInt8 × Nat × Nat :=
  if (takeM b).2.2 ≠ 0 then ([], 0, (takeM b).2.2) else if 65536 < (takeM b).1 then ([], 0, 13)
  else if b.length < (takeM b).2.1 + (takeM b).1 + 4 then ([], 0, 10)
  else if (b.drop ((takeM b).2.1 + (takeM b).1)).take 4 ≠ tailL (crcL (b.take ((takeM b).2.1 + (takeM b).1))) then ([], 0, 12)
  else ((b.drop (takeM b).2.1).take (takeM b).1, (takeM b).2.1 + (takeM b).1 + 4, 0)
/-- What bytes are scanned as: the rows, how many bytes they have, the error. -/
def scanF : Nat → List UInt8 → List (List UInt8) × Nat × Nat
  | 0, _ => ([], 0, 0)
  | f + 1, b => if b = [] then ([], 0, 0) else if (takeF b).2.2 ≠ 0 then ([], 0, (takeF b).2.2)
    else ((takeF b).1 :: (scanF f (b.drop (takeF b).2.1)).1, (takeF b).2.1 + (scanF f (b.drop (takeF b).2.1)).2.1, (scanF f (b.drop (takeF b).2.1)).2.2)
theorem frameL_len (r : List UInt8) : (frameL r).length = (numL r.length).length + r.length + 4 := by simp [frameL, headL, tailL_length]; omega
theorem frameL_pos (r : List UInt8) : 5 ≤ (frameL r).length := by have := numL_ne r.length; rw [frameL_len]; omega
theorem frame_ne (r x : List UInt8) : frameL r ++ x ≠ [] := by
  intro h
  have h1 := frameL_pos r
  have h2 := congrArg List.length h
  rw [List.length_append, List.length_nil] at h2
  omega
theorem frame_take_ne (r : List UInt8) (k : Nat) (h : k ≠ 0) : (frameL r).take k ≠ [] := by
  intro he
  have h1 := frameL_pos r
  have h2 := congrArg List.length he
  rw [List.length_take, List.length_nil] at h2
  omega
/-- A frame is taken, whatever stands behind. -/
theorem takeF_frame (r rest : List UInt8) (hr : r.length ≤ 65536) : takeF (frameL r ++ rest) = (r, (frameL r).length, 0) := by
  have hm : takeM (frameL r ++ rest) = (r.length, (numL r.length).length, 0) := by
    rw [frameL, headL, List.append_assoc, List.append_assoc]
    exact takeM_numL (by omega) _
  have hl := frameL_len r
  have h1 : (frameL r ++ rest).take ((numL r.length).length + r.length) = headL r := by
    rw [frameL, List.append_assoc, show (numL r.length).length + r.length = (headL r).length by simp [headL]]
    exact List.take_left ..
  have h2 : ((frameL r ++ rest).drop ((numL r.length).length + r.length)).take 4 = tailL (crcL (headL r)) := by
    rw [frameL, List.append_assoc, show (numL r.length).length + r.length = (headL r).length by simp [headL], List.drop_left, ← tailL_length (crcL (headL r))]
    exact List.take_left ..
  have h3 : ((frameL r ++ rest).drop (numL r.length).length).take r.length = r := by
    rw [frameL, headL, List.append_assoc, List.append_assoc, List.drop_left]
    exact List.take_left ..
  unfold takeF
  rw [hm]
  dsimp only
  rw [if_neg (by omega), if_neg (by omega), if_neg (by rw [List.length_append]; omega), h1, h2, if_neg (by simp), h3, hl]
theorem drop_frame (r rest : List UInt8) : (frameL r ++ rest).drop (frameL r).length = rest := List.drop_left ..
/-- A frame that is cut is short. -/
theorem takeF_cut (r : List UInt8) (k : Nat) (hr : r.length ≤ 65536) (hk : k < (frameL r).length) : takeF ((frameL r).take k) = ([], 0, 10) := by
  have hl := frameL_len r
  by_cases h : k < (numL r.length).length
  · have hm : takeM ((frameL r).take k) = (0, 0, 10) := by
      rw [frameL, headL, List.append_assoc, List.take_append_of_le_length (by omega)]
      exact take_short (by omega) h
    unfold takeF
    rw [hm]; rfl
  · have hm : takeM ((frameL r).take k) = (r.length, (numL r.length).length, 0) := by
      rw [frameL, headL, List.append_assoc, List.take_append, List.take_of_length_le (by omega)]
      exact takeM_numL (by omega) _
    unfold takeF
    rw [hm]
    dsimp only
    rw [if_neg (by omega), if_neg (by omega), if_pos (by rw [List.length_take]; omega)]
/-- Where a row of rows is cut: how many frames are whole, where they end. -/
def wholeF : List (List UInt8) → Nat → Nat
  | [], _ => 0
  | r :: l, k => if k < (frameL r).length then 0 else wholeF l (k - (frameL r).length) + 1
theorem flatF_cons (r : List UInt8) (l : List (List UInt8)) : (r :: l).flatMap frameL = frameL r ++ l.flatMap frameL := by simp
theorem scan_cut : ∀ (l : List (List UInt8)) (k f : Nat), (∀ r ∈ l, r.length ≤ 65536) → k ≤ (l.flatMap frameL).length → k ≤ f →
    scanF f ((l.flatMap frameL).take k) = (l.take (wholeF l k), ((l.take (wholeF l k)).flatMap frameL).length, if k = ((l.take (wholeF l k)).flatMap frameL).length then 0 else 10)
  | [], k, f, _, hk, _ => by
    have : k = 0 := by simpa using hk
    subst this
    cases f <;> simp [scanF, wholeF]
  | r :: l, k, f, hr, hk, hf => by
    have hrl := hr r (List.mem_cons_self ..)
    have hpos := frameL_pos r
    rw [flatF_cons] at hk ⊢
    by_cases h0 : k = 0
    · subst h0
      have hw : wholeF (r :: l) 0 = 0 := by unfold wholeF; rw [if_pos (by omega)]
      rw [hw]
      cases f <;> simp [scanF]
    · obtain ⟨f, rfl⟩ : ∃ g, f = g + 1 := ⟨f - 1, by omega⟩
      by_cases h : k < (frameL r).length
      · have hw : wholeF (r :: l) k = 0 := by unfold wholeF; rw [if_pos h]
        rw [hw, List.take_append_of_le_length (by omega), scanF, if_neg (frame_take_ne r k h0), takeF_cut r k hrl h]
        simp [h0]
      · have hw : wholeF (r :: l) k = wholeF l (k - (frameL r).length) + 1 := by rw [wholeF, if_neg h]
        have hx : (frameL r ++ l.flatMap frameL).take k = frameL r ++ (l.flatMap frameL).take (k - (frameL r).length) := by
          rw [List.take_append, List.take_of_length_le (by omega)]
        have ih := scan_cut l (k - (frameL r).length) f (fun x hx => hr x (List.mem_cons_of_mem _ hx)) (by rw [List.length_append] at hk; omega) (by omega)
        rw [hw, hx, scanF, if_neg (frame_ne r _), takeF_frame r _ hrl]
        dsimp only
        rw [if_neg (by omega), drop_frame, ih]
        dsimp only
        rw [List.take_succ_cons, flatF_cons, List.length_append]
        congr 2
        by_cases he : k - (frameL r).length = ((l.take (wholeF l (k - (frameL r).length))).flatMap frameL).length
        · rw [if_pos he, if_pos (by omega)]
        · rw [if_neg he, if_neg (by omega)]
theorem scan_all (l : List (List UInt8)) (f : Nat) (hr : ∀ r ∈ l, r.length ≤ 65536) (hf : (l.flatMap frameL).length ≤ f) : scanF f (l.flatMap frameL) = (l, (l.flatMap frameL).length, 0) := by
  have hw : ∀ l : List (List UInt8), wholeF l (l.flatMap frameL).length = l.length := by
    intro l
    induction l with
    | nil => rfl
    | cons r l ih =>
      rw [flatF_cons, List.length_append, wholeF, if_neg (by omega), Nat.add_sub_cancel_left, ih]; rfl
  have h := scan_cut l (l.flatMap frameL).length f hr (Nat.le_refl _) hf
  rw [List.take_of_length_le (Nat.le_refl _), hw, List.take_of_length_le (Nat.le_refl _)] at h
  simpa using h
/-- Frames ahead are scanned, whatever stands behind them. -/
theorem scan_ahead : ∀ (l : List (List UInt8)) (rest : List UInt8) (f : Nat), (∀ r ∈ l, r.length ≤ 65536) → l.length ≤ f →
    scanF f (l.flatMap frameL ++ rest) = (l ++ (scanF (f - l.length) rest).1, (l.flatMap frameL).length + (scanF (f - l.length) rest).2.1, (scanF (f - l.length) rest).2.2)
  | [], rest, f, _, _ => by simp
  | r :: l, rest, f, hr, hf => by
    obtain ⟨f, rfl⟩ : ∃ g, f = g + 1 := ⟨f - 1, by simp at hf; omega⟩
    have hrl := hr r (List.mem_cons_self ..)
    have hpos := frameL_pos r
    have ih := scan_ahead l rest f (fun x hx => hr x (List.mem_cons_of_mem _ hx)) (by simpa using hf)
    rw [flatF_cons, List.append_assoc, scanF, if_neg (frame_ne r _), takeF_frame r _ hrl]
    dsimp only
    rw [if_neg (by omega), drop_frame, ih]
    dsimp only
    simp only [List.length_cons, Nat.add_sub_add_right, List.cons_append, List.length_append]
    congr 2
    omega
/-- A frame of which up to 32 bits on end, behind the length, are others, isn't taken. -/
theorem takeF_turned (r m rest : List UInt8) (b t : Nat) (hr : r.length ≤ 65536) (hml : m.length = r.length + 4) (hb : b + 32 ≤ 8 * (r.length + 4)) (ht0 : t ≠ 0) (ht : t < 4294967296)
    (h : ∀ p, p < 8 * (r.length + 4) → bitAt m p = (bitAt (r ++ tailL (crcL (headL r))) p ^^ (decide (b ≤ p ∧ p < b + 32) && t.testBit (p - b)))) :
    takeF (numL r.length ++ m ++ rest) = ([], 0, 12) := by
  have hm : takeM (numL r.length ++ m ++ rest) = (r.length, (numL r.length).length, 0) := by
    rw [List.append_assoc]; exact takeM_numL (by omega) _
  have hmt : m = m.take r.length ++ m.drop r.length := (List.take_append_drop ..).symm
  have h1 : (numL r.length ++ m ++ rest).take ((numL r.length).length + r.length) = numL r.length ++ m.take r.length := by
    rw [List.append_assoc, List.take_append, List.take_of_length_le (by omega), Nat.add_sub_cancel_left, List.take_append_of_le_length (by omega)]
  have h2 : ((numL r.length ++ m ++ rest).drop ((numL r.length).length + r.length)).take 4 = m.drop r.length := by
    rw [List.append_assoc, ← List.drop_drop, List.drop_left, List.drop_append_of_le_length (by omega), List.take_append_of_le_length (by simp; omega), List.take_of_length_le (by simp; omega)]
  obtain ⟨t1, ht1, hD⟩ := four_tail (m.drop r.length) (by rw [List.length_drop]; omega)
  have hne : t1 ≠ crcL (numL r.length ++ m.take r.length) := by
    have hsh : ∀ (a l : List UInt8) (p : Nat), bitAt (a ++ l) (8 * a.length + p) = bitAt l p := by
      intro a l p
      unfold bitAt
      rw [show (8 * a.length + p) / 8 = a.length + p / 8 by omega, show (8 * a.length + p) % 8 = p % 8 by omega]
      congr 2
      simp [List.getD, List.getElem?_append_right]
    have hlo : ∀ (a l : List UInt8) (p : Nat), p < 8 * a.length → bitAt (a ++ l) p = bitAt a p := by
      intro a l p hp
      unfold bitAt
      rw [getD_append_left a l (p / 8) (by omega)]
    refine turned_tail (headL r) (numL r.length ++ m.take r.length) t1 (numL r.length ++ m) (8 * (numL r.length).length + b) t ?_ (by simp [headL]; omega) (by simp [headL]; omega) ht0 ht ?_
    · rw [List.append_assoc, ← hD, ← hmt]
    · intro p hp
      have hp' : p < 8 * ((numL r.length).length + r.length + 4) := by simpa [headL] using hp
      rw [show headL r ++ tailL (crcL (headL r)) = numL r.length ++ (r ++ tailL (crcL (headL r))) by simp [headL]]
      by_cases hpn : p < 8 * (numL r.length).length
      · rw [hlo _ _ p hpn, hlo _ _ p hpn]
        have : decide (8 * (numL r.length).length + b ≤ p ∧ p < 8 * (numL r.length).length + b + 32) = false := decide_eq_false (by omega)
        rw [this]; simp
      · obtain ⟨q, rfl⟩ : ∃ q, p = 8 * (numL r.length).length + q := ⟨p - 8 * (numL r.length).length, by omega⟩
        rw [hsh, hsh, h q (by omega)]
        congr 2
        · rw [decide_eq_decide]; omega
        · congr 1; omega
  unfold takeF
  rw [hm]
  dsimp only
  rw [if_neg (by omega), if_neg (by omega), if_neg (by simp; omega), h1, h2, hD, if_pos ?_]
  intro he
  exact hne (tailL_same ht1 (crcL_lt _) he)
end Go.Proofs.Ytemokpnepnmmkaa
