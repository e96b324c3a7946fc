/- Numbers as bytes, as plain mathematics: a number's bytes, what bytes begin with, what a reader tells. No premises. -/
import Derived.Tactics
namespace Go.Proofs.Yteljmlodbnfhbaa
/-- A number's bytes. -/
def numL (x : Nat) : List UInt8 := if x < 128 then [UInt8.ofNat x] else UInt8.ofNat (x % 128 + 128) :: numL (x / 128)
termination_by x
decreasing_by omega
/-- How many bytes at the beginning go on, so many at most. -/
def headsN : Nat → List UInt8 → Nat
  | 0, _ => 0
  | _ + 1, [] => 0
  | n + 1, c :: r => if 128 ≤ c.toNat then headsN n r + 1 else 0
/-- How many bytes at the beginning go on, ten at most. -/
def heads (b : List UInt8) : Nat := headsN 10 b
/-- The number of a row of sevens of bits. -/
def val : List UInt8 → Nat
  | [] => 0
  | c :: r => c.toNat % 128 + 128 * val r
/-- What bytes begin with: the number, how many bytes, the error. -/
def takeM (b : List UInt8) : Nat × Nat × Nat :=
  if heads b = 10 then (0, 0, 11) else if heads b = b.length then (0, 0, 10)
  else if (0 < heads b ∧ (b.getD (heads b) 0).toNat = 0) ∨ (heads b = 9 ∧ 1 < (b.getD (heads b) 0).toNat) then (0, 0, 11)
  else (val (b.take (heads b + 1)), heads b + 1, 0)

theorem numL_lt {x : Nat} (h : x < 128) : numL x = [UInt8.ofNat x] := by rw [numL, if_pos h]
theorem numL_ge {x : Nat} (h : 128 ≤ x) : numL x = UInt8.ofNat (x % 128 + 128) :: numL (x / 128) := by rw [numL, if_neg (by omega)]
theorem numL_ne (x : Nat) : 1 ≤ (numL x).length := by
  rw [numL]; split <;> simp
theorem numL_le : ∀ (k x : Nat), x < 128 ^ k → 0 < k → (numL x).length ≤ k := by
  intro k
  induction k with
  | zero => intro x _ h; omega
  | succ k ih =>
    intro x hx _
    by_cases h : x < 128
    · rw [numL_lt h]; simp
    · rw [numL_ge (by omega)]
      have : (numL (x / 128)).length ≤ k := by
        apply ih
        · rw [Nat.pow_succ] at hx; omega
        · rcases Nat.eq_zero_or_pos k with rfl | hk
          · simp at hx; omega
          · exact hk
      simp; omega
theorem numL_ten {x : Nat} (h : x < 18446744073709551616) : (numL x).length ≤ 10 := numL_le 10 x (by omega) (by omega)

theorem headsN_le : ∀ (n : Nat) (b : List UInt8), headsN n b ≤ n ∧ headsN n b ≤ b.length := by
  intro n
  induction n with
  | zero => intro b; simp [headsN]
  | succ n ih =>
    intro b
    cases b with
    | nil => simp [headsN]
    | cons c r => have := ih r; simp only [headsN, List.length_cons]; split <;> omega
theorem heads_le (b : List UInt8) : heads b ≤ 10 ∧ heads b ≤ b.length := headsN_le 10 b
theorem headsN_at : ∀ (n : Nat) (b : List UInt8) (k : Nat) (hk : k < b.length), k < n → k ≤ headsN n b →
    (128 ≤ b[k].toNat → k + 1 ≤ headsN n b) ∧ (b[k].toNat < 128 → headsN n b = k) := by
  intro n
  induction n with
  | zero => intro b k _ h; omega
  | succ n ih =>
    intro b k hk hn hle
    cases b with
    | nil => simp at hk
    | cons c r =>
      simp only [headsN] at hle ⊢
      cases k with
      | zero => simp only [List.getElem_cons_zero]; constructor <;> intro h <;> split <;> omega
      | succ k =>
        simp only [List.getElem_cons_succ]
        by_cases hc : 128 ≤ c.toNat
        · simp only [hc, if_true] at hle ⊢
          have := ih r k (by simpa using hk) (by omega) (by omega)
          exact ⟨fun h => by have := this.1 h; omega, fun h => by have := this.2 h; omega⟩
        · simp [hc] at hle
theorem heads_at (b : List UInt8) (k : Nat) (hk : k < b.length) (h10 : k < 10) (hle : k ≤ heads b) :
    (128 ≤ b[k].toNat → k + 1 ≤ heads b) ∧ (b[k].toNat < 128 → heads b = k) := headsN_at 10 b k hk h10 hle
theorem headsN_append : ∀ (n : Nat) (a b : List UInt8), headsN n a < a.length ∨ headsN n a = n → headsN n (a ++ b) = headsN n a := by
  intro n
  induction n with
  | zero => intro a b _; simp [headsN]
  | succ n ih =>
    intro a b h
    cases a with
    | nil => simp [headsN] at h
    | cons c r =>
      simp only [headsN, List.cons_append, List.length_cons] at h ⊢
      by_cases hc : 128 ≤ c.toNat
      · simp only [hc, if_true] at h ⊢
        rw [ih r b (by omega)]
      · simp [hc]
theorem head_at (b : List UInt8) (k : Nat) (hk : k < heads b) : ∃ h : k < b.length, 128 ≤ b[k].toNat := by
  have hl := heads_le b
  refine ⟨by omega, ?_⟩
  by_cases h : 128 ≤ b[k].toNat
  · exact h
  · have := (heads_at b k (by omega) (by omega) (by omega)).2 (by omega); omega

theorem val_append (a b : List UInt8) : val (a ++ b) = val a + 128 ^ a.length * val b := by
  induction a with
  | nil => simp [val]
  | cons c a ih => simp only [List.cons_append, val, ih, List.length_cons, Nat.pow_succ]; rw [Nat.mul_add, ← Nat.mul_assoc, Nat.mul_comm 128 (128 ^ a.length), Nat.add_assoc]
theorem val_lt (a : List UInt8) : val a < 128 ^ a.length := by
  induction a with
  | nil => simp [val]
  | cons c a ih => simp only [val, List.length_cons, Nat.pow_succ]; omega
theorem val_snoc (b : List UInt8) (k : Nat) (h : k < b.length) : val (b.take (k + 1)) = val (b.take k) + 128 ^ k * (b[k].toNat % 128) := by
  rw [List.take_succ_eq_append_getElem h, val_append]
  simp [val, Nat.min_eq_left (Nat.le_of_lt h)]
theorem val_cons_drop (b : List UInt8) (i m : Nat) (h : i < b.length) : val ((b.drop i).take (m + 1)) = b[i].toNat % 128 + 128 * val ((b.drop (i + 1)).take m) := by
  rw [List.drop_eq_getElem_cons h, List.take_succ_cons]; rfl

theorem byte_of {n : Nat} (h : n < 256) : (UInt8.ofNat n).toNat = n := by simp; omega
theorem val_numL (x : Nat) : val (numL x) = x := by
  induction x using Nat.strongRecOn with
  | _ x ih =>
    by_cases h : x < 128
    · rw [numL_lt h]; simp only [val]; rw [byte_of (by omega)]; omega
    · rw [numL_ge (by omega)]; simp only [val]; rw [ih (x / 128) (by omega), byte_of (by omega)]; omega
/-- All bytes of a number but the last one go on. -/
theorem headsN_numL : ∀ (n x : Nat), (numL x).length ≤ n → headsN n (numL x) = (numL x).length - 1 := by
  intro n
  induction n with
  | zero => intro x h; have := numL_ne x; omega
  | succ n ih =>
    intro x h
    by_cases hx : x < 128
    · rw [numL_lt hx]; simp only [headsN]; rw [byte_of (by omega)]; simp; omega
    · rw [numL_ge (by omega)] at h ⊢
      have hn := numL_ne (x / 128)
      simp only [headsN, List.length_cons] at h ⊢
      rw [byte_of (by omega), if_pos (by omega), ih _ (by omega)]; omega
theorem numL_last : ∀ (x : Nat), ((numL x).getD ((numL x).length - 1) 0).toNat < 128 ∧ (1 < (numL x).length → ((numL x).getD ((numL x).length - 1) 0).toNat ≠ 0) := by
  intro x
  induction x using Nat.strongRecOn with
  | _ x ih =>
    by_cases h : x < 128
    · rw [numL_lt h]; simp; omega
    · rw [numL_ge (by omega)]
      have hn := numL_ne (x / 128)
      have e : (UInt8.ofNat (x % 128 + 128) :: numL (x / 128)).length - 1 = ((numL (x / 128)).length - 1) + 1 := by simp; omega
      rw [e, List.getD_cons_succ]
      have := ih (x / 128) (by omega)
      refine ⟨this.1, fun _ => ?_⟩
      by_cases h1 : 1 < (numL (x / 128)).length
      · exact this.2 h1
      · have hl : (numL (x / 128)).length = 1 := by omega
        by_cases h2 : x / 128 < 128
        · rw [numL_lt h2]; simp only [List.length_singleton]; rw [List.getD_cons_zero, byte_of (by omega)]; omega
        · rw [numL_ge (by omega)] at hl; have := numL_ne (x / 128 / 128); simp only [List.length_cons] at hl; omega
theorem getD_append_left (a b : List UInt8) (k : Nat) (h : k < a.length) : (a ++ b).getD k 0 = a.getD k 0 := by
  simp [List.getD, List.getElem?_append_left h]
theorem numL_tenth {x : Nat} (h : x < 18446744073709551616) (h10 : (numL x).length = 10) : ((numL x).getD 9 0).toNat ≤ 1 := by
  have hv := val_numL x
  have hs := val_snoc (numL x) 9 (by omega)
  rw [List.take_of_length_le (by omega), hv] at hs
  have hl := (numL_last x).1
  rw [h10, show 10 - 1 = 9 from rfl] at hl
  have e : (numL x).getD 9 0 = (numL x)[9]'(by omega) := by simp [List.getD, List.getElem?_eq_getElem (show 9 < (numL x).length by omega)]
  rw [e] at hl ⊢
  omega
/-- What was put is taken, whatever stands behind. -/
theorem takeM_numL {x : Nat} (h : x < 18446744073709551616) (r : List UInt8) : takeM (numL x ++ r) = (x, (numL x).length, 0) := by
  have h10 := numL_ten h
  have h1 := numL_ne x
  have hh : heads (numL x ++ r) = (numL x).length - 1 := by
    have e := headsN_numL 10 x h10
    unfold heads
    rw [headsN_append _ _ _ (by omega), e]
  have hl := numL_last x
  unfold takeM
  rw [hh, getD_append_left _ _ _ (by omega), if_neg (by omega), if_neg (by simp; omega), if_neg, List.take_append_of_le_length (by omega), List.take_of_length_le (by omega), val_numL,
    show (numL x).length - 1 + 1 = (numL x).length by omega]
  rintro (⟨a, b⟩ | ⟨a, b⟩)
  · exact hl.2 (by omega) b
  · have := numL_tenth h (by omega)
    rw [a] at b; omega
/-- Bytes that go on, but for the last one, which isn't 0 unless it is alone, are those of their number. -/
theorem numL_val : ∀ (b : List UInt8), b ≠ [] → headsN b.length b = b.length - 1 → (1 < b.length → (b.getD (b.length - 1) 0).toNat ≠ 0) → numL (val b) = b := by
  intro b
  induction b with
  | nil => intro h; exact absurd rfl h
  | cons c r ih =>
    intro _ hh hz
    simp only [headsN, List.length_cons] at hh
    have hc := c.toNat_lt
    cases r with
    | nil =>
      simp [headsN] at hh
      simp only [val]
      rw [show c.toNat % 128 + 128 * 0 = c.toNat by omega, numL_lt (by omega)]; simp
    | cons d r =>
      simp only [List.length_cons] at hh hz ih
      by_cases hc' : 128 ≤ c.toNat
      · rw [if_pos hc'] at hh
        have hz' := hz (by omega)
        rw [show r.length + 1 + 1 - 1 = r.length + 1 by omega, List.getD_cons_succ] at hz'
        have h1 := ih (by simp) (by omega) (fun _ => by rw [show r.length + 1 - 1 = r.length by omega]; exact hz')
        have hv : 128 ≤ val (c :: d :: r) := by
          rcases Nat.lt_or_ge 0 (val (d :: r)) with hp | hp
          · simp only [val] at hp ⊢; omega
          · exfalso
            have : val (d :: r) = 0 := by omega
            rw [this, numL_lt (by omega)] at h1
            cases r with
            | nil => simp only [List.length_nil, List.getD_cons_zero] at hz'; simp at h1; rw [← h1] at hz'; simp at hz'
            | cons => simp at h1
        rw [numL_ge hv]
        have e1 : val (c :: d :: r) / 128 = val (d :: r) := by rw [val]; omega
        have e2 : val (c :: d :: r) % 128 = c.toNat % 128 := by rw [val]; omega
        rw [e1, e2, h1, show c.toNat % 128 + 128 = c.toNat by omega]; simp
      · rw [if_neg hc'] at hh; omega
theorem headsN_take : ∀ (n m : Nat) (b : List UInt8), headsN n b < m → headsN m (b.take m) = headsN n b ∨ n < m := by
  intro n
  induction n with
  | zero => intro m b h; omega
  | succ n ih =>
    intro m b h
    cases m with
    | zero => omega
    | succ m =>
      cases b with
      | nil => left; simp [headsN]
      | cons c r =>
        simp only [headsN, List.take_succ_cons] at h ⊢
        by_cases hc : 128 ≤ c.toNat
        · simp only [hc, if_true] at h ⊢
          rcases ih m r (by omega) with e | e
          · left; rw [e]
          · right; omega
        · left; simp [hc]
theorem takeM_cases (b : List UInt8) : ((takeM b).2.2 = 0 ∧ (takeM b).2.1 = heads b + 1 ∧ heads b < b.length ∧ heads b < 10 ∧ (takeM b).1 = val (b.take (heads b + 1)) ∧ (takeM b).1 < 18446744073709551616 ∧
      (0 < heads b → (b.getD (heads b) 0).toNat ≠ 0) ∧ (heads b = 9 → (b.getD (heads b) 0).toNat ≤ 1)) ∨
    (((takeM b).2.2 = 10 ∨ (takeM b).2.2 = 11) ∧ (takeM b).1 = 0 ∧ (takeM b).2.1 = 0) := by
  have hl := heads_le b
  unfold takeM
  split
  · right; simp
  · split
    · right; simp
    · split
      · right; simp
      · rename_i h1 h2 h3
        left
        refine ⟨rfl, rfl, by omega, by omega, rfl, ?_, fun h => fun hh => h3 (.inl ⟨h, hh⟩), fun h => Nat.le_of_not_lt fun hh => h3 (.inr ⟨h, hh⟩)⟩
        show val (b.take (heads b + 1)) < _
        rw [val_snoc b (heads b) (by omega)]
        have hv := val_lt (b.take (heads b))
        rw [List.length_take, Nat.min_eq_left (by omega)] at hv
        by_cases h9 : heads b = 9
        · have : (b[heads b]'(by omega)).toNat ≤ 1 := by
            have := Nat.le_of_not_lt fun hh => h3 (.inr ⟨h9, hh⟩)
            simpa [List.getD, List.getElem?_eq_getElem (show heads b < b.length by omega)] using this
          have e : 128 ^ heads b = 9223372036854775808 := by rw [h9]
          rw [e] at hv ⊢
          have : 9223372036854775808 * ((b[heads b]'(by omega)).toNat % 128) ≤ 9223372036854775808 * 1 := Nat.mul_le_mul_left _ (by omega)
          omega
        · have h8 : 128 ^ (heads b) ≤ 128 ^ 8 := Nat.pow_le_pow_right (by omega) (by omega)
          have h7 : 128 ^ heads b * ((b[heads b]'(by omega)).toNat % 128) ≤ 128 ^ heads b * 127 := Nat.mul_le_mul_left _ (by omega)
          omega
/-- Bytes that are taken are those that their number is put as. -/
theorem numL_takeM {b : List UInt8} (h : (takeM b).2.2 = 0) : numL (takeM b).1 = b.take (takeM b).2.1 := by
  rcases takeM_cases b with ⟨_, h2, h3, h4, h5, _, h7, _⟩ | ⟨h1, _⟩
  · rw [h5, h2]
    have hlen : (b.take (heads b + 1)).length = heads b + 1 := by simp; omega
    apply numL_val
    · intro e; rw [e] at hlen; simp at hlen
    · rw [hlen]
      rcases headsN_take 10 (heads b + 1) b (by unfold heads; omega) with e | e
      · rw [e]; unfold heads; omega
      · omega
    · intro h1
      rw [hlen, show heads b + 1 - 1 = heads b by omega] at *
      have := h7 (by omega)
      simpa [List.getD, List.getElem?_take] using this
  · omega
/-- Bytes that are cut within a number's are short. -/
theorem take_short {x m : Nat} (hx : x < 18446744073709551616) (h : m < (numL x).length) : takeM ((numL x).take m) = (0, 0, 10) := by
  have h10 := numL_ten hx
  have e := headsN_numL 10 x h10
  have hm : ((numL x).take m).length = m := by rw [List.length_take]; omega
  have hh : heads ((numL x).take m) = m := by
    apply Nat.le_antisymm
    · have := (heads_le ((numL x).take m)).2; omega
    · suffices ∀ k, k ≤ m → k ≤ heads ((numL x).take m) from this m (Nat.le_refl _)
      intro k
      induction k with
      | zero => intro _; omega
      | succ k ih =>
        intro hk
        obtain ⟨hl, hge⟩ := head_at (numL x) k (by unfold heads; omega)
        have hk' : k < ((numL x).take m).length := by omega
        exact (heads_at _ k hk' (by omega) (ih (by omega))).1 (by rw [List.getElem_take]; exact hge)
  unfold takeM
  rw [hh, hm, if_neg (by omega), if_pos rfl]
end Go.Proofs.Yteljmlodbnfhbaa
