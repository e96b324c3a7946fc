/- A run that ends well does the same with a quote, and more, behind. No program. -/
import Derived.Test.YtlenocpaalahbaaDoorWdT
namespace Go.Proofs.YtlenocpaalahbaaDoor
open Ws
namespace Wd
/-- .. with a quote and z behind. -/
def pl (z : B) (s : S) : S := ⟨s.l ++ 39 :: z, s.e⟩
section
variable {z : B}
theorem pre_pl : ∀ (t l : B), (39 : UInt8) ∉ t → Lib.hasPrefix (l ++ 39 :: z) t = Lib.hasPrefix l t
  | [], l, _ => by unfold Lib.hasPrefix; cases l <;> rfl
  | c :: t, [], h => by
    have h1 : (c == 39) = false := beq_eq_false_iff_ne.2 fun e => h (by simp [e])
    unfold Lib.hasPrefix
    simp [List.isPrefixOf, h1]
  | c :: t, b :: l, h => by
    have ih := pre_pl t l (fun e => h (by simp [e]))
    unfold Lib.hasPrefix at ih ⊢
    simp only [List.cons_append, List.isPrefixOf, ih]
theorem ahead_pl {t : B} (h : (39 : UInt8) ∉ t) (s : S) : ahead t (pl z s) = ahead t s := pre_pl t s.l h
theorem skip_pl {n : Nat} {s : S} (h : n ≤ s.l.length) : skip n (pl z s) = pl z (skip n s) := by
  unfold skip pl
  dsimp only
  rw [List.drop_append_of_le_length h]
theorem ahead_le {t : B} {s : S} (h : ahead t s = true) : t.length ≤ s.l.length := by
  unfold ahead Lib.hasPrefix at h
  exact (List.isPrefixOf_iff_prefix.1 h).length_le
theorem fail_nz {n : Nat} (hn : n ≠ 0) (s : S) : (fail n s).e ≠ 0 := by
  unfold fail
  dsimp only
  split
  · exact hn
  · assumption
theorem next_pl {s : S} (h : (next s).2.e = 0) : next (pl z s) = ((next s).1, pl z (next s).2) := by
  unfold next at h ⊢
  cases hl : s.l with
  | nil =>
    rw [hl] at h
    exact absurd h (fail_nz (by omega) s)
  | cons c t =>
    unfold pl
    simp [hl]
theorem next_st {s : S} (h : (next s).2.e = 0) : s.e = 0 := by
  unfold next at h
  cases hl : s.l with
  | nil => rw [hl] at h; exact absurd h (fail_nz (by omega) s)
  | cons c t => rw [hl] at h; exact h
theorem need_pl {t : B} (ht : (39 : UInt8) ∉ t) {s : S} (h : (need t s).e = 0) : need t (pl z s) = pl z (need t s) := by
  unfold need at h ⊢
  rw [ahead_pl ht]
  by_cases ha : ahead t s = true
  · rw [if_pos ha, if_pos ha]
    exact skip_pl (ahead_le ha)
  · rw [if_neg ha] at h
    exact absurd h (fail_nz (by omega) s)
theorem need_st {t : B} {s : S} (h : (need t s).e = 0) : s.e = 0 ∧ ahead t s = true := by
  unfold need at h
  by_cases ha : ahead t s = true
  · rw [if_pos ha] at h
    exact ⟨h, ha⟩
  · rw [if_neg ha] at h
    exact absurd h (fail_nz (by omega) s)
theorem index_pl : ∀ (l : B), 0 ≤ Lib.indexByte l 39 → Lib.indexByte (l ++ 39 :: z) 39 = Lib.indexByte l 39
  | [], h => by simp [Lib.indexByte] at h
  | b :: l, h => by
    rw [List.cons_append]
    unfold Lib.indexByte at h ⊢
    by_cases hb : (b == 39) = true
    · rw [if_pos hb, if_pos hb]
    · rw [if_neg hb] at h
      rw [if_neg hb, if_neg hb]
      by_cases h1 : (Lib.indexByte l 39 == -1) = true
      · rw [if_pos h1] at h; omega
      · rw [if_neg h1] at h ⊢
        have hge := Lib.indexByte_ge l 39
        have h2 : Lib.indexByte l 39 ≠ -1 := fun e => h1 (by rw [e]; rfl)
        rw [index_pl l (by omega), if_neg h1]
theorem upTo_pl {s : S} (h : (upTo 39 s).2.e = 0) : upTo 39 (pl z s) = ((upTo 39 s).1, pl z (upTo 39 s).2) := by
  unfold upTo at h ⊢
  by_cases h0 : Lib.indexByte s.l 39 < 0
  · rw [if_pos h0] at h
    exact absurd h (fail_nz (by omega) s)
  · have hi := index_pl (z := z) s.l (by omega)
    have hlt := index_lt s.l 39
    have e1 : (pl z s).l = s.l ++ 39 :: z := rfl
    rw [e1, hi, if_neg h0, if_neg h0, skip_pl (by omega), List.take_append_of_le_length (by omega)]
theorem upTo_st {s : S} (h : (upTo 39 s).2.e = 0) : s.e = 0 := by
  unfold upTo at h
  by_cases h0 : Lib.indexByte s.l 39 < 0
  · rw [if_pos h0] at h
    exact absurd h (fail_nz (by omega) s)
  · rw [if_neg h0] at h
    exact h
theorem while_pl {p : UInt8 → Bool} (hp : p 39 = false) : ∀ l : B, (l ++ 39 :: z).takeWhile p = l.takeWhile p
  | [] => by simp [hp]
  | c :: l => by
    rw [List.cons_append, List.takeWhile_cons, List.takeWhile_cons, while_pl hp l]
theorem param_pl (l : B) : param (l ++ 39 :: z) = param l := by
  cases l with
  | nil =>
    show (if singles.contains 39 then [39] else (39 :: z).takeWhile nm) = []
    rw [if_neg (by decide)]
    simp [show nm 39 = false by decide]
  | cons c l =>
    show (if singles.contains c then [c] else (c :: l ++ 39 :: z).takeWhile nm) = if singles.contains c then [c] else (c :: l).takeWhile nm
    rw [while_pl (by decide)]
theorem digits_pl (l : B) : digits (l ++ 39 :: z) = digits l := while_pl (by decide) l
theorem trim_pl (l : B) : Lib.trimPrefix (l ++ 39 :: z) [35] = Lib.trimPrefix l [35] ++ 39 :: z := by
  unfold Lib.trimPrefix
  rw [pre_pl [35] l (by decide)]
  by_cases h : Lib.hasPrefix l [35] = true
  · rw [if_pos h, if_pos h]
    have : 1 ≤ l.length := by
      unfold Lib.hasPrefix at h
      exact (List.isPrefixOf_iff_prefix.1 h).length_le
    show List.drop 1 (l ++ 39 :: z) = List.drop 1 l ++ 39 :: z
    rw [List.drop_append_of_le_length this]
  · rw [if_neg h, if_neg h]
theorem mem_while {p : UInt8 → Bool} {c : UInt8} : ∀ l : B, c ∈ l.takeWhile p → p c = true
  | [], h => by simp at h
  | b :: l, h => by
    rw [List.takeWhile_cons] at h
    split at h
    · rename_i hb
      rcases List.mem_cons.1 h with rfl | h2
      · exact hb
      · exact mem_while l h2
    · simp at h
theorem param_no (l : B) : (39 : UInt8) ∉ param l := by
  unfold param
  cases l with
  | nil => simp
  | cons c l =>
    dsimp only
    split
    · rename_i h
      intro e
      simp only [List.mem_singleton] at e
      rw [← e] at h
      revert h
      decide
    · intro e
      have := mem_while _ e
      revert this
      decide
theorem digits_no (l : B) : (39 : UInt8) ∉ digits l := fun e => by
  have := mem_while _ e
  revert this
  decide
theorem measured_pl (s : S) : measured (pl z s) = ((measured s).1, pl z (measured s).2) := by
  have e1 : (pl z s).l = s.l ++ 39 :: z := rfl
  unfold measured
  rw [e1, trim_pl, param_pl]
  split
  · rfl
  · rename_i hn
    rw [ahead_pl (by
      intro e
      simp only [List.mem_append, List.mem_singleton] at e
      rcases e with (e | e) | e
      · revert e; decide
      · exact param_no _ e
      · revert e; decide)]
    split
    · rename_i ha
      have := ahead_le ha
      rw [skip_pl (by simp at this ⊢; omega)]
    · rfl
theorem measured_st {s : S} (h : (measured s).2.e = 0) : s.e = 0 := by
  unfold measured at h
  repeat' split at h
  all_goals exact h
theorem nameOf_pl (l : B) : nameOf (l ++ 39 :: z) = nameOf l := by unfold nameOf; rw [digits_pl, param_pl]
theorem nameOf_no (l : B) : (39 : UInt8) ∉ nameOf l := by
  unfold nameOf
  split
  · exact param_no l
  · exact digits_no l
theorem named_st {s : S} (h : (named s).2.e = 0) : s.e = 0 ∧ nameOf s.l ≠ [] := by
  have h1 : (named s).2 = need (nameOf s.l) (if nameOf s.l = [] then fail 11 s else s) := rfl
  rw [h1] at h
  obtain ⟨h2, _⟩ := need_st h
  by_cases hn : nameOf s.l = []
  · rw [if_pos hn] at h2
    exact absurd h2 (fail_nz (by omega) s)
  · rw [if_neg hn] at h2
    exact ⟨h2, hn⟩
theorem named_pl {s : S} (h : (named s).2.e = 0) : named (pl z s) = ((named s).1, pl z (named s).2) := by
  obtain ⟨_, hn⟩ := named_st h
  have e1 : (pl z s).l = s.l ++ 39 :: z := rfl
  unfold named at h ⊢
  rw [e1, nameOf_pl]
  rw [if_neg hn] at h ⊢
  rw [if_neg hn]
  dsimp only at h ⊢
  rw [need_pl (nameOf_no _) h]
theorem op_pl {s : S} (h : (op s).2.e = 0) : op (pl z s) = ((op s).1, pl z (op s).2) := by
  have hall : ∀ o ∈ ops, (39 : UInt8) ∉ o := by decide
  have e1 : ops.find? (fun o => ahead o (pl z s)) = ops.find? fun o => ahead o s := Lib.find_congr fun o ho => ahead_pl (hall o ho) s
  unfold op at h ⊢
  rw [e1]
  cases hf : ops.find? fun o => ahead o s with
  | none => rw [hf] at h; exact absurd h (fail_nz (by omega) s)
  | some o =>
    dsimp only
    have ha : ahead o s = true := List.find?_some (p := fun o => ahead o s) hf
    rw [skip_pl (ahead_le ha)]
theorem op_st {s : S} (h : (op s).2.e = 0) : s.e = 0 := by
  unfold op at h
  cases hf : ops.find? fun o => ahead o s with
  | none => rw [hf] at h; exact absurd h (fail_nz (by omega) s)
  | some o => rw [hf] at h; exact h
theorem rk_pl : ∀ (n n' o : Nat) (s : S), s.l.length ≤ n → (pl z s).l.length ≤ n' → (rk n o s).e = 0 → ahead [41, 41] (rk n o s) = true → rk n' o (pl z s) = pl z (rk n o s) ∧ s.e = 0
  | 0, n', o, s, hn, _, he, ha => by
    have h0 : s.l = [] := List.eq_nil_of_length_eq_zero (by omega)
    have := ahead_le ha
    rw [show rk 0 o s = s from rfl, h0] at this
    simp at this
  | n + 1, n', o, s, hn, hn', he, ha => by
    have h41 : (39 : UInt8) ∉ ([41] : B) := by decide
    rw [rk] at he ha ⊢
    by_cases hc : s.l ≠ [] ∧ (0 < o ∨ ahead [41] s = false)
    · rw [if_pos hc] at he ha ⊢
      cases n' with
      | zero => unfold pl at hn'; simp at hn'
      | succ n' =>
        rw [rk, if_pos ⟨by unfold pl; simp, by rw [ahead_pl h41]; exact hc.2⟩]
        obtain ⟨c, t, hct⟩ : ∃ c t, s.l = c :: t := by
          cases hl : s.l with
          | nil => exact absurd hl hc.1
          | cons c t => exact ⟨c, t, rfl⟩
        have hnx : (next s) = ([c], ⟨t, s.e⟩) := next_cons hct
        have hnp : next (pl z s) = ([c], pl z ⟨t, s.e⟩) := by unfold pl; exact next_cons (by simp [hct])
        rw [hnx] at he ha ⊢
        rw [hnp]
        have ih := rk_pl n n' (if ([c] : B) = [40] then o + 1 else if ([c] : B) = [41] then o - 1 else o) ⟨t, s.e⟩ (by rw [hct] at hn; simpa using hn) (by unfold pl at hn' ⊢; rw [hct] at hn'; simp at hn' ⊢; omega) he ha
        exact ih
    · rw [if_neg hc] at he ha ⊢
      have hl : s.l ≠ [] := fun e => by
        have := ahead_le ha
        rw [e] at this
        simp at this
      refine ⟨?_, he⟩
      cases n' with
      | zero => rfl
      | succ n' =>
        rw [rk, if_neg]
        rintro ⟨_, h⟩
        rw [ahead_pl h41] at h
        exact hc ⟨hl, h⟩
theorem reckoned_pl {s : S} (h : (reckoned s).2.e = 0) : reckoned (pl z s) = ((reckoned s).1, pl z (reckoned s).2) ∧ s.e = 0 := by
  have h1 : (reckoned s).2 = need [41, 41] (rk s.l.length 0 s) := rfl
  rw [h1] at h
  obtain ⟨h2, h3⟩ := need_st h
  obtain ⟨h4, h5⟩ := rk_pl (z := z) s.l.length (pl z s).l.length 0 s (Nat.le_refl _) (Nat.le_refl _) h2 h3
  refine ⟨?_, h5⟩
  unfold reckoned
  rw [h4, need_pl (by decide) h]
  have hle := rk_len s.l.length 0 s
  have e1 : (pl z s).l.length - (pl z (rk s.l.length 0 s)).l.length = s.l.length - (rk s.l.length 0 s).l.length := by unfold pl; simp; omega
  rw [e1]
  unfold pl
  dsimp only
  rw [List.take_append_of_le_length (by omega)]
theorem pl_skip {t : B} {s : S} (h : ahead t s = true) : skip t.length (pl z s) = pl z (skip t.length s) := skip_pl (ahead_le h)
/-- A brace's run that ends well. -/
def Bs (br : S → P × S) : Prop := ∀ (z : B) (s : S), (br s).2.e = 0 → br (pl z s) = ((br s).1, pl z (br s).2) ∧ s.e = 0
section
variable {br : S → P × S} (hb : Bs br)
include hb
theorem value_pl {s : S} (h : (value br s).2.e = 0) : value br (pl z s) = ((value br s).1, pl z (value br s).2) ∧ s.e = 0 := by
  unfold value at h ⊢
  rw [ahead_pl (t := [123]) (by decide), ahead_pl (t := [40, 40]) (by decide)]
  by_cases h1 : ahead [123] s = true
  · rw [if_pos h1] at h ⊢
    rw [if_pos h1]
    have := hb z (skip 1 s) h
    rw [show skip 1 (pl z s) = pl z (skip 1 s) from pl_skip (t := [123]) h1]
    exact this
  · rw [if_neg h1] at h ⊢
    rw [if_neg h1]
    by_cases h2 : ahead [40, 40] s = true
    · rw [if_pos h2] at h ⊢
      rw [if_pos h2]
      rw [show skip 2 (pl z s) = pl z (skip 2 s) from pl_skip (t := [40, 40]) h2]
      obtain ⟨a, b⟩ := reckoned_pl (z := z) (s := skip 2 s) h
      rw [a]
      exact ⟨rfl, b⟩
    · rw [if_neg h2] at h ⊢
      rw [if_neg h2]
      by_cases h3 : ahead [40] s = true
      · have hp : paren s = fail 11 s := by unfold paren; rw [if_pos h3]
        rw [hp, show (fail 11 s).l = [] from rfl, if_pos (show param [] = [] from rfl)] at h
        exact absurd h (fail_nz (by omega) s)
      · have hp : paren s = s := by unfold paren; rw [if_neg h3]
        have hp2 : paren (pl z s) = pl z s := by unfold paren; rw [ahead_pl (by decide), if_neg h3]
        rw [hp] at h ⊢
        rw [hp2, show (pl z s).l = s.l ++ 39 :: z from rfl, param_pl]
        by_cases h4 : param s.l = []
        · rw [if_pos h4] at h ⊢
          rw [if_pos h4]
          exact ⟨rfl, h⟩
        · rw [if_neg h4] at h ⊢
          rw [if_neg h4]
          rw [need_pl (param_no _) h]
          exact ⟨rfl, (need_st h).1⟩
theorem dollar_pl {k : Nat} {r : R} {s : S} (h : (dollar br k (r, s)).2.e = 0) : dollar br k (r, pl z s) = ((dollar br k (r, s)).1, pl z (dollar br k (r, s)).2) ∧ s.e = 0 := by
  have h1 : (dollar br k (r, s)).2 = (value br s).2 := by unfold dollar; dsimp only; split <;> rfl
  rw [h1] at h
  obtain ⟨h2, h3⟩ := value_pl hb (z := z) h
  refine ⟨?_, h3⟩
  rw [h1]
  unfold dollar
  dsimp only
  rw [h2]
  dsimp only
  split <;> rfl
theorem content_pl {B0 : B} {r : R} {s : S} (h : (content br B0 (r, s)).2.e = 0) : content br B0 (r, pl z s) = ((content br B0 (r, s)).1, pl z (content br B0 (r, s)).2) ∧ s.e = 0 := by
  have key : (next s).2.e = 0 := by
    unfold content at h
    dsimp only at h
    repeat' split at h
    · exact next_st h
    · exact next_st h
    · exact (dollar_pl hb (z := z) h).2
    · exact absurd h (fail_nz (by omega) _)
    · exact h
  refine ⟨?_, next_st key⟩
  have hn := next_pl (z := z) key
  unfold content at h ⊢
  dsimp only at h ⊢
  rw [hn]
  dsimp only
  by_cases c1 : (next s).1 = [92]
  · rw [if_pos c1] at h ⊢
    rw [if_pos c1]
    have h2 : (next (next s).2).2.e = 0 := by split at h <;> exact h
    rw [next_pl h2]
    dsimp only
    split <;> rfl
  · rw [if_neg c1] at h ⊢
    rw [if_neg c1]
    by_cases c2 : (next s).1 = [36]
    · rw [if_pos c2] at h ⊢
      rw [if_pos c2]
      exact (dollar_pl hb h).1
    · rw [if_neg c2] at h ⊢
      rw [if_neg c2]
      by_cases c3 : (next s).1 = [96]
      · rw [if_pos c3] at h
        exact absurd h (fail_nz (by omega) _)
      · rw [if_neg c3, if_neg c3]
end
end
end Wd
end Go.Proofs.YtlenocpaalahbaaDoor
