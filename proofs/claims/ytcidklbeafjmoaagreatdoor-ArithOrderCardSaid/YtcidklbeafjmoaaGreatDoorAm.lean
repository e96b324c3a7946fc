/- Numbers that are reckoned: states of a reader, and what each of its functions makes of them, as relations. No premises. -/
import Derived.Test.YtcidklbeafjmoaaGreatDoorAn
import Derived.Test.YtcidklbeafjmoaaGreatDoorAh
namespace Go.Proofs.YtcidklbeafjmoaaGreatDoor
open Go.RowKit Go.Maps
namespace Ar
def blank (c : UInt8) : Bool := [32, 9, 10].contains c
def longs : List L := [[124, 124], [38, 38], [61, 61], [33, 61], [60, 61], [62, 61], [60, 60], [62, 62], [36, 123]]
def rows : List (List L) := [[[124, 124]], [[38, 38]], [[124]], [[94]], [[38]], [[61, 61], [33, 61]], [[60], [60, 61], [62], [62, 61]], [[60, 60], [62, 62]], [[43], [45]], [[42], [47], [37]]]
/-- How many bytes the token has that a text begins with. -/
def size (l : L) : Nat := if longs.any (Lib.hasPrefix l ·) then 2 else max (l.takeWhile nm).length (min l.length 1)
structure St where
  tok : L
  left : L
  deep : Nat
  idle : Nat
  ft : Nat
def pass (s : St) : St := { s with tok := (s.left.dropWhile blank).take (size (s.left.dropWhile blank)), left := (s.left.dropWhile blank).drop (size (s.left.dropWhile blank)) }
def enter (s : St) : St := pass { s with deep := s.deep + 1 }
def leave (s : St) : St := { s with deep := s.deep - 1 }
def blame (e : Nat) (s : St) : St := if s.idle = 0 then { s with ft := if s.ft = 0 then e else s.ft } else s
def rest (s : St) (b : Bool) : St := if b then s else { s with idle := s.idle + 1 }
def back (s : St) (b : Bool) : St := if b then s else { s with idle := s.idle - 1 }
def rowOf (t : L) : Int := match rows.findIdx? (·.contains t) with
  | some i => i
  | none => -1
def bit (b : Bool) : Int := if b then 1 else 0
/-- What a sign between two numbers does. -/
def op2 (t : L) (a b : Int) : Int :=
  if t = [124, 124] then bit (a != 0 || b != 0) else if t = [38, 38] then bit (a != 0 && b != 0)
  else if t = [124] then bits .or .i64 a b else if t = [94] then bits .xor .i64 a b else if t = [38] then bits .and .i64 a b
  else if t = [61, 61] then bit (a == b) else if t = [33, 61] then bit (a != b)
  else if t = [60] then bit (decide (a < b)) else if t = [60, 61] then bit (decide (a ≤ b)) else if t = [62] then bit (decide (b < a)) else if t = [62, 61] then bit (decide (b ≤ a))
  else if t = [60, 60] then wrap64 (a * 2 ^ (bits .and .i64 b 63).toNat) else if t = [62, 62] then a / 2 ^ (bits .and .i64 b 63).toNat
  else if t = [43] then wrap64 (a + b) else if t = [45] then wrap64 (a - b) else if t = [42] then wrap64 (a * b)
  else if t = [47] then wrap64 (a.tdiv (if b = 0 then 1 else b)) else a.tmod (if b = 0 then 1 else b)
/-- What it leaves: a division by 0 is a fault. -/
def div0 (t : L) (b : Int) (s : St) : St := if (t = [47] ∨ t = [37]) ∧ b = 0 then blame 22 s else s
def op1 (t : L) (a : Int) : Int := if t = [33] then bit (a == 0) else if t = [126] then bits .xor .i64 (-1) a else if t = [43] then a else wrap64 (-a)
def needs (t : L) (n : Int) : Bool := if t = [124, 124] then n == 0 else if t = [38, 38] then n != 0 else true
/-- A digit's worth. -/
def dv (c : UInt8) : Nat := if dig c then c.toNat - 48 else (c ||| 32).toNat - 87
def isD (b : Nat) (c : UInt8) : Bool := (dig c || (decide (97 ≤ c ||| 32) && decide (c ||| 32 ≤ 122))) && decide (dv c < b)
def val (b : Nat) (l : L) : Nat := l.foldl (fun n c => n * b + dv c) 0
def num (l : L) : Option Nat :=
  let (d, b) := if Lib.hasPrefix l [48, 120] || Lib.hasPrefix l [48, 88] then (l.drop 2, 16) else if Lib.hasPrefix l [48] then (l, 8) else (l, 10)
  if d ≠ [] ∧ d.all (isD b) = true ∧ val b d < 9223372036854775808 then some (val b d) else none
def trim (l : L) : L := Lib.trimS l [32, 9, 10]
def numV (l : L) : Option Int :=
  let t := trim l
  if t = [] then some 0 else if Lib.hasPrefix t [45] then (num (Lib.trimPrefix t [45])).map (fun n : Nat => wrap64 (-(n : Int))) else (num (Lib.trimPrefix t [43])).map (fun n : Nat => (n : Int))
abbrev Vars := List (L × L)
def find (vs : Vars) (t : L) : Option L := (vs.find? (·.1 == t)).map (·.2)
/-- What a name comes to. -/
def look (vs : Vars) (t : L) : Option Int := match find vs t with
  | none => some 0
  | some v => numV v
mutual
/-- A whole expression. -/
inductive Ex (vs : Vars) : Nat → St → Int → St → Prop
  | plain {k j : Nat} {s t : St} {n : Int} : j < k → Bt vs j 0 s n t → t.tok ≠ [63] → Ex vs k s n t
  | cond {k j i l : Nat} {s t u v : St} {n y z : Int} : j < k → i < k → l < k → Bt vs j 0 s n t → t.tok = [63] → t.deep < 40 → Ex vs i (rest (enter t) (n != 0)) y u → u.tok = [58] → Ex vs l (rest (pass (back u (n != 0))) (n == 0)) z v → Ex vs k s (if n != 0 then y else z) (leave (back v (n == 0)))
/-- What the signs of a row, and of those that bind more, stand between. -/
inductive Bt (vs : Vars) : Nat → Nat → St → Int → St → Prop
  | mk {k j i least : Nat} {s t u : St} {n m : Int} : j < k → i < k → Sg vs j s n t → Lp vs i least n t m u → Bt vs k least s m u
inductive Lp (vs : Vars) : Nat → Nat → Int → St → Int → St → Prop
  | done {k least : Nat} {n : Int} {s : St} : rowOf s.tok < least → Lp vs k least n s n s
  | more {k j i least row : Nat} {n m x : Int} {s t u : St} : j < k → i < k → rowOf s.tok = row → least ≤ row → Bt vs j (row + 1) (rest (pass s) (needs s.tok n)) m t → Lp vs i least (op2 s.tok n m) (div0 s.tok m (back t (needs s.tok n))) x u → Lp vs k least n s x u
/-- Something with the signs ahead of it. -/
inductive Sg (vs : Vars) : Nat → St → Int → St → Prop
  | un {k j : Nat} {s t : St} {n : Int} : j < k → s.tok ∈ [[33], [126], [43], [45]] → s.deep < 40 → Sg vs j (enter s) n t → Sg vs k s (op1 s.tok n) (leave t)
  | par {k j : Nat} {s t : St} {n : Int} : j < k → s.tok = [40] → s.deep < 40 → Ex vs j (enter s) n t → t.tok = [41] → Sg vs k s n (leave (pass t))
  | name {k : Nat} {s : St} {n : Int} : nameB s.tok = true → look vs s.tok = some n → Sg vs k s n (pass s)
  | dol {k : Nat} {s : St} {n : Int} : s.tok = [36] → nameB (pass s).tok = true → look vs (pass s).tok = some n → Sg vs k s n (pass (pass s))
  | brace {k : Nat} {s : St} {n : Int} : s.tok = [36, 123] → nameB (pass s).tok = true → look vs (pass s).tok = some n → (pass (pass s)).tok = [125] → Sg vs k s n (pass (pass (pass s)))
  | num {k : Nat} {s : St} {n : Nat} : num s.tok = some n → Sg vs k s n (pass s)
end
/-- How much is left to be read. -/
def m (s : St) : Nat := s.tok.length + s.left.length
theorem m_pass (s : St) : m (pass s) ≤ s.left.length := by
  unfold m pass
  simp only [List.length_take, List.length_drop]
  have : (s.left.dropWhile blank).length ≤ s.left.length := (List.dropWhile_suffix _).length_le
  omega
theorem pass_le (s : St) : m (pass s) ≤ m s := by have := m_pass s; unfold m at *; omega
theorem m_rest (s : St) (b : Bool) : m (rest s b) = m s := by unfold rest; split <;> rfl
theorem m_back (s : St) (b : Bool) : m (back s b) = m s := by unfold back; split <;> rfl
theorem m_leave (s : St) : m (leave s) = m s := rfl
theorem m_blame (e : Nat) (s : St) : m (blame e s) = m s := by unfold blame; split <;> rfl
theorem m_div0 (t : L) (b : Int) (s : St) : m (div0 t b s) = m s := by unfold div0; split; exact m_blame _ _; rfl
theorem m_enter (s : St) : m (enter s) ≤ m s := pass_le _
theorem m_all (vs : Vars) : ∀ k, (∀ s n t, Ex vs k s n t → m t ≤ m s) ∧ (∀ l s n t, Bt vs k l s n t → m t ≤ m s) ∧ (∀ l a s n t, Lp vs k l a s n t → m t ≤ m s) ∧ (∀ s n t, Sg vs k s n t → m t ≤ m s) := by
  intro k
  induction k using Nat.strongRecOn with
  | ind k ih =>
    refine ⟨fun s n t h => ?_, fun l s n t h => ?_, fun l a s n t h => ?_, fun s n t h => ?_⟩
    · cases h with
      | plain hj h _ => exact (ih _ hj).2.1 _ _ _ _ h
      | @cond _ j i l _ t u v n y z hj hi hl h _ _ h1 _ h2 =>
        have a1 := (ih _ hj).2.1 _ _ _ _ h
        have a2 := (ih _ hi).1 _ _ _ h1
        have a3 := (ih _ hl).1 _ _ _ h2
        rw [m_rest] at a2 a3
        have a4 := pass_le (back u (n != 0))
        rw [m_back] at a4
        rw [m_leave, m_back]
        have := m_enter t
        omega
    · cases h with
      | mk hj hi h1 h2 => exact Nat.le_trans ((ih _ hi).2.2.1 _ _ _ _ _ h2) ((ih _ hj).2.2.2 _ _ _ h1)
    · cases h with
      | done => exact Nat.le_refl _
      | more hj hi _ _ h1 h2 =>
        have a1 := (ih _ hj).2.1 _ _ _ _ h1
        have a2 := (ih _ hi).2.2.1 _ _ _ _ _ h2
        rw [m_rest] at a1
        rw [m_div0, m_back] at a2
        have := pass_le s
        omega
    · cases h with
      | un hj _ _ h =>
        have a1 := (ih _ hj).2.2.2 _ _ _ h
        have := m_enter s
        rw [m_leave]
        omega
      | @par _ _ _ t _ hj _ _ h _ =>
        have a1 := (ih _ hj).1 _ _ _ h
        have := m_enter s
        have := pass_le t
        rw [m_leave]
        omega
      | name => exact pass_le _
      | dol => exact Nat.le_trans (pass_le _) (pass_le _)
      | brace => exact Nat.le_trans (pass_le _) (Nat.le_trans (pass_le _) (pass_le _))
      | num => exact pass_le _
theorem Bt.m {vs : Vars} {k l : Nat} {s t : St} {n : Int} (h : Bt vs k l s n t) : Ar.m t ≤ Ar.m s := (m_all vs k).2.1 _ _ _ _ h
theorem idle_rest_back {s t : St} {b : Bool} (h : t.idle = (rest s b).idle) : (back t b).idle = s.idle := by
  unfold rest back at *
  cases b
  · simp only [Bool.false_eq_true, if_false] at *; omega
  · exact h
theorem deep_rest (s : St) (b : Bool) : (rest s b).deep = s.deep := by unfold rest; split <;> rfl
theorem deep_back (s : St) (b : Bool) : (back s b).deep = s.deep := by unfold back; split <;> rfl
theorem div0_idle (t : L) (b : Int) (s : St) : (div0 t b s).idle = s.idle ∧ (div0 t b s).deep = s.deep := by unfold div0 blame; split; split <;> exact ⟨rfl, rfl⟩; exact ⟨rfl, rfl⟩
theorem keep_all (vs : Vars) : ∀ k, (∀ s n t, Ex vs k s n t → t.idle = s.idle ∧ t.deep = s.deep) ∧ (∀ l s n t, Bt vs k l s n t → t.idle = s.idle ∧ t.deep = s.deep) ∧ (∀ l a s n t, Lp vs k l a s n t → t.idle = s.idle ∧ t.deep = s.deep) ∧ (∀ s n t, Sg vs k s n t → t.idle = s.idle ∧ t.deep = s.deep) := by
  intro k
  induction k using Nat.strongRecOn with
  | ind k ih =>
    refine ⟨fun s n t h => ?_, fun l s n t h => ?_, fun l a s n t h => ?_, fun s n t h => ?_⟩
    · cases h with
      | plain hj h _ => exact (ih _ hj).2.1 _ _ _ _ h
      | @cond _ j i l _ t u v n y z hj hi hl h _ _ h1 _ h2 =>
        have a1 := (ih _ hj).2.1 _ _ _ _ h
        have a2 := (ih _ hi).1 _ _ _ h1
        have a3 := (ih _ hl).1 _ _ _ h2
        have b1 := idle_rest_back a2.1
        have b2 := idle_rest_back a3.1
        rw [deep_rest] at a2 a3
        have c1 : (pass (back u (n != 0))).deep = (back u (n != 0)).deep := rfl
        have c2 := deep_back u (n != 0)
        have c3 := deep_back v (n == 0)
        have c4 : (enter t).deep = t.deep + 1 := rfl
        have c5 : (enter t).idle = t.idle := rfl
        have c6 : (pass (back u (n != 0))).idle = (back u (n != 0)).idle := rfl
        show (back v (n == 0)).idle = _ ∧ (back v (n == 0)).deep - 1 = _
        omega
    · cases h with
      | mk hj hi h1 h2 =>
        have a1 := (ih _ hj).2.2.2 _ _ _ h1
        have a2 := (ih _ hi).2.2.1 _ _ _ _ _ h2
        omega
    · cases h with
      | done => exact ⟨rfl, rfl⟩
      | @more _ j i _ row _ m _ _ t _ hj hi _ _ h1 h2 =>
        have a1 := (ih _ hj).2.1 _ _ _ _ h1
        have a2 := (ih _ hi).2.2.1 _ _ _ _ _ h2
        have b1 := idle_rest_back a1.1
        rw [deep_rest] at a1
        have c2 := deep_back t (needs s.tok a)
        have c3 := div0_idle s.tok m (back t (needs s.tok a))
        have c1 : (pass s).deep = s.deep := rfl
        have c4 : (pass s).idle = s.idle := rfl
        omega
    · cases h with
      | @un _ j _ t _ hj _ _ h =>
        have a1 := (ih _ hj).2.2.2 _ _ _ h
        have c1 : (enter s).deep = s.deep + 1 := rfl
        have c2 : (enter s).idle = s.idle := rfl
        show t.idle = _ ∧ t.deep - 1 = _
        omega
      | @par _ _ _ t _ hj _ _ h _ =>
        have a1 := (ih _ hj).1 _ _ _ h
        have c1 : (enter s).deep = s.deep + 1 := rfl
        have c2 : (enter s).idle = s.idle := rfl
        show t.idle = _ ∧ t.deep - 1 = _
        omega
      | name => exact ⟨rfl, rfl⟩
      | dol => exact ⟨rfl, rfl⟩
      | brace => exact ⟨rfl, rfl⟩
      | num => exact ⟨rfl, rfl⟩
end Ar
end Go.Proofs.YtcidklbeafjmoaaGreatDoor
