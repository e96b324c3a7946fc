/- What test comes to, by the chapter; the small functions. The listed variables: their condition. -/
import Derived.Test.YtjidclefpmcgoaaDoorYg
namespace Go.Proofs.YtjidclefpmcgoaaDoor
open Go.RowKit Go.Maps
namespace Ar
/-- True is 0, false 1. -/
def t01 (b : Bool) : Int := if b then 0 else 1
theorem t01_t : t01 true = 0 := rfl
theorem t01_f : t01 false = 1 := rfl
/-- How two numbers compare, by a sign. -/
def cmpF (op : L) : Option (Int → Int → Bool) :=
  if op = [45, 101, 113] then some (fun a b => a == b) else
  if op = [45, 110, 101] then some (fun a b => a != b) else
  if op = [45, 108, 116] then some (fun a b => decide (a < b)) else
  if op = [45, 108, 101] then some (fun a b => decide (a ≤ b)) else
  if op = [45, 103, 116] then some (fun a b => decide (b < a)) else
  if op = [45, 103, 101] then some (fun a b => decide (b ≤ a)) else
  none
/-- What a sign in the middle comes to. -/
def mid (op a c : L) : Option Int :=
  if op = [61] then some (t01 (a == c)) else if op = [33, 61] then some (t01 (a != c)) else
  match cmpF op with
  | none => none
  | some f => match tnum a, tnum c with
    | some x, some y => some (t01 (f x y))
    | _, _ => some 2
/-- Is it such a sign? -/
def isOp (op : L) : Bool := op == [61] || op == [33, 61] || (cmpF op).isSome
theorem mid_isOp (op a c : L) : (mid op a c).isSome = isOp op := by
  unfold mid isOp
  by_cases h1 : op = [61]
  · simp [h1]
  · by_cases h2 : op = [33, 61]
    · simp [h2]
    · rw [if_neg h1, if_neg h2]
      cases h3 : cmpF op with
      | none => simp [h1, h2]
      | some f => simp only; cases tnum a <;> cases tnum c <;> simp
/-- What comes out; else what a file is asked for. -/
structure D where
  n : Int
  nt : Bool
  op : L
  path : L
  asks : Bool
def val0 (n : Int) : D := ⟨n, false, [], [], false⟩
def turn (d : D) : D := if d.asks then { d with nt := !d.nt } else { d with n := if d.n = 2 then 2 else t01 (d.n == 1) }
def ahead (op s : L) : D :=
  if op = [45, 110] then val0 (t01 (s != [])) else if op = [45, 122] then val0 (t01 (s == [])) else
  if op = [45, 101] ∨ op = [45, 102] ∨ op = [45, 100] then ⟨0, false, op, s, true⟩ else val0 2
def dec : List L → D
  | [] => val0 1
  | [a] => val0 (t01 (a != []))
  | [a, b] => if a = [33] then turn (val0 (t01 (b != []))) else ahead a b
  | [a, b, c] => match mid b a c with
    | some n => val0 n
    | none => if a = [33] then turn (dec [b, c]) else val0 2
  | [a, b, c, d] => if a = [33] then turn (dec [b, c, d]) else val0 2
  | _ => val0 2
/-- An Ask as a value; what Decide tells. -/
def askV (d : D) : Value := .agg #[.bool d.nt, .string (mkS d.op), .string (mkS d.path)]
def decV (d : D) : Value := .tuple #[.int .i64 d.n, askV d, .bool d.asks]
/-- The document's. -/
def refV (d : D) : Value := .agg #[.int .i64 d.n, .bool d.asks, .bool d.nt, .string (mkS d.op), .string (mkS d.path)]
/-- What comes out is one of three; where something is asked, 0. -/
def D.Ok (d : D) : Prop := (d.n = 0 ∨ d.n = 1 ∨ d.n = 2) ∧ (d.asks = true → d.n = 0) ∧ (d.asks = false → d.nt = false ∧ d.op = [] ∧ d.path = [])
theorem t01_or (b : Bool) : t01 b = 0 ∨ t01 b = 1 := by cases b <;> simp [t01]
theorem ok_val {n : Int} (h : n = 0 ∨ n = 1 ∨ n = 2) : (val0 n).Ok := ⟨h, (fun h => by cases h), fun _ => ⟨rfl, rfl, rfl⟩⟩
theorem ok_t01 (b : Bool) : (val0 (t01 b)).Ok := ok_val (by rcases t01_or b with h | h <;> rw [h] <;> simp)
theorem ok_turn {d : D} (h : d.Ok) : (turn d).Ok := by
  unfold turn
  cases ha : d.asks with
  | true => exact ⟨h.1, fun _ => h.2.1 ha, fun e => by simp at e⟩
  | false =>
    simp only [Bool.false_eq_true, if_false]
    refine ⟨?_, (fun e => by simp at e), fun _ => h.2.2 ha⟩
    simp only
    split
    · simp
    · rcases t01_or (d.n == 1) with e | e <;> rw [e] <;> simp
theorem ok_ahead (a b : L) : (ahead a b).Ok := by
  unfold ahead
  split
  · exact ok_t01 _
  · split
    · exact ok_t01 _
    · split
      · exact ⟨.inl rfl, fun _ => rfl, fun e => by simp at e⟩
      · exact ok_val (by simp)
theorem ok_mid {op a c : L} {n : Int} (h : mid op a c = some n) : n = 0 ∨ n = 1 ∨ n = 2 := by
  have t : ∀ b, t01 b = 0 ∨ t01 b = 1 ∨ t01 b = 2 := fun b => by rcases t01_or b with e | e <;> rw [e] <;> simp
  unfold mid at h
  split at h
  · cases h; exact t _
  · split at h
    · cases h; exact t _
    · split at h
      · cases h
      · split at h
        · cases h; exact t _
        · cases h; simp
theorem ok_dec2 (a b : L) : (dec [a, b]).Ok := by
  unfold dec
  split
  · exact ok_turn (ok_t01 _)
  · exact ok_ahead _ _
theorem ok_dec3 (a b c : L) : (dec [a, b, c]).Ok := by
  unfold dec
  split
  · next n h => exact ok_val (ok_mid h)
  · split
    · exact ok_turn (ok_dec2 _ _)
    · exact ok_val (by simp)
theorem ok_dec : ∀ l : List L, (dec l).Ok
  | [] => ok_val (by simp)
  | [a] => ok_t01 _
  | [a, b] => ok_dec2 a b
  | [a, b, c] => ok_dec3 a b c
  | [a, b, c, d] => by
    unfold dec
    split
    · exact ok_turn (ok_dec3 _ _ _)
    · exact ok_val (by simp)
  | a :: b :: c :: d :: e :: l => ok_val (by simp)
set_option maxRecDepth 100000 in
theorem told_v (b : Bool) (W : World) : Calls Tryd.prog 11 #[.bool b] W fun e W' => e = .returned (.int .i64 (t01 b)) ∧ W' = W := by
  cases b
  all_goals (
    go_enter Tryd.func11, Tryd.ntmps11
    go_wp2
    go_ret
    exact ⟨rfl, rfl⟩)
set_option maxRecDepth 100000 in
theorem nan_v (x : Int) (W : World) : Calls Tryd.prog 35 #[.int .i64 x] W fun e W' => e = .returned (.bool false) ∧ W' = W := by
  have h : (x == x) = true := by simp
  go_enter Tryd.func35, Tryd.ntmps35
  go_wp2
  go_ret
  exact ⟨by first | rfl | simp, rfl⟩
/-- How two numbers stand. -/
def ord3 (x y : Int) : Int := if x < y then -1 else if y < x then 1 else 0
set_option maxRecDepth 100000 in
theorem compare_v (x y : Int) (W : World) : Calls Tryd.prog 31 #[.int .i64 x, .int .i64 y] W fun e W' => e = .returned (.int .i64 (ord3 x y)) ∧ W' = W := by
  unfold ord3
  by_cases h1 : x < y
  · rw [if_pos h1]
    go_enter Tryd.func31, Tryd.ntmps31
    go_wp2_with (go_at_call 35; (with_reducible refine (nan_v _ _).mono ?_); rintro e w1 ⟨rfl, rfl⟩)
    go_ret
    exact ⟨rfl, rfl⟩
  · rw [if_neg h1]
    by_cases h2 : y < x
    · rw [if_pos h2]
      go_enter Tryd.func31, Tryd.ntmps31
      go_wp2_with (go_at_call 35; (with_reducible refine (nan_v _ _).mono ?_); rintro e w1 ⟨rfl, rfl⟩)
      go_ret
      exact ⟨rfl, rfl⟩
    · rw [if_neg h2]
      go_enter Tryd.func31, Tryd.ntmps31
      go_wp2_with (go_at_call 35; (with_reducible refine (nan_v _ _).mono ?_); rintro e w1 ⟨rfl, rfl⟩)
      go_ret
      exact ⟨rfl, rfl⟩
set_option maxRecDepth 100000 in
theorem holds3 (x : Int) (W : World) : Calls Tryd.prog 22 #[.int .i64 x] W fun e W' => e = .returned (.bool (x == 0)) ∧ W' = W := by
  go_enter Tryd.func22, Tryd.ntmps22
  go_wp2
  go_ret
  exact ⟨rfl, rfl⟩
set_option maxRecDepth 100000 in
theorem holds4 (x : Int) (W : World) : Calls Tryd.prog 23 #[.int .i64 x] W fun e W' => e = .returned (.bool (x != 0)) ∧ W' = W := by
  go_enter Tryd.func23, Tryd.ntmps23
  go_wp2
  go_ret
  exact ⟨rfl, rfl⟩
set_option maxRecDepth 100000 in
theorem holds5 (x : Int) (W : World) : Calls Tryd.prog 24 #[.int .i64 x] W fun e W' => e = .returned (.bool (decide (x < 0))) ∧ W' = W := by
  by_cases h : x < 0
  · rw [decide_eq_true h]
    go_enter Tryd.func24, Tryd.ntmps24
    go_wp2
    go_ret
    exact ⟨rfl, rfl⟩
  · rw [decide_eq_false h]
    go_enter Tryd.func24, Tryd.ntmps24
    go_wp2
    go_ret
    exact ⟨rfl, rfl⟩
set_option maxRecDepth 100000 in
theorem holds6 (x : Int) (W : World) : Calls Tryd.prog 25 #[.int .i64 x] W fun e W' => e = .returned (.bool (decide (x ≤ 0))) ∧ W' = W := by
  by_cases h : x ≤ 0
  · rw [decide_eq_true h]
    go_enter Tryd.func25, Tryd.ntmps25
    go_wp2
    go_ret
    exact ⟨rfl, rfl⟩
  · rw [decide_eq_false h]
    go_enter Tryd.func25, Tryd.ntmps25
    go_wp2
    go_ret
    exact ⟨rfl, rfl⟩
set_option maxRecDepth 100000 in
theorem holds7 (x : Int) (W : World) : Calls Tryd.prog 26 #[.int .i64 x] W fun e W' => e = .returned (.bool (decide (0 < x))) ∧ W' = W := by
  by_cases h : 0 < x
  · rw [decide_eq_true h]
    go_enter Tryd.func26, Tryd.ntmps26
    go_wp2
    go_ret
    exact ⟨rfl, rfl⟩
  · rw [decide_eq_false h]
    go_enter Tryd.func26, Tryd.ntmps26
    go_wp2
    go_ret
    exact ⟨rfl, rfl⟩
set_option maxRecDepth 100000 in
theorem holds8 (x : Int) (W : World) : Calls Tryd.prog 27 #[.int .i64 x] W fun e W' => e = .returned (.bool (decide (0 ≤ x))) ∧ W' = W := by
  by_cases h : 0 ≤ x
  · rw [decide_eq_true h]
    go_enter Tryd.func27, Tryd.ntmps27
    go_wp2
    go_ret
    exact ⟨rfl, rfl⟩
  · rw [decide_eq_false h]
    go_enter Tryd.func27, Tryd.ntmps27
    go_wp2
    go_ret
    exact ⟨rfl, rfl⟩
/-- A closure over an order, by a sign. -/
def HoldsOk (F : Nat) (g : Int → Int → Bool) : Prop := ∀ (x y : Int) (W : World), Calls Tryd.prog F #[.int .i64 (ord3 x y)] W fun e W' => e = .returned (.bool (g x y)) ∧ W' = W
theorem holdsOk3 : HoldsOk 22 (fun a b => a == b) := by
  intro x y W
  have h := holds3 (ord3 x y) W
  rwa [show (ord3 x y == 0) = (x == y) by unfold ord3; by_cases h1 : x < y <;> by_cases h2 : y < x <;> simp [h1, h2] <;> omega] at h
theorem holdsOk4 : HoldsOk 23 (fun a b => a != b) := by
  intro x y W
  have h := holds4 (ord3 x y) W
  rwa [show (ord3 x y != 0) = (x != y) by unfold ord3; by_cases h1 : x < y <;> by_cases h2 : y < x <;> simp [h1, h2] <;> omega] at h
theorem holdsOk5 : HoldsOk 24 (fun a b => decide (a < b)) := by
  intro x y W
  have h := holds5 (ord3 x y) W
  rwa [show (decide (ord3 x y < 0)) = (decide (x < y)) by unfold ord3; by_cases h1 : x < y <;> by_cases h2 : y < x <;> simp [h1, h2] <;> omega] at h
theorem holdsOk6 : HoldsOk 25 (fun a b => decide (a ≤ b)) := by
  intro x y W
  have h := holds6 (ord3 x y) W
  rwa [show (decide (ord3 x y ≤ 0)) = (decide (x ≤ y)) by unfold ord3; by_cases h1 : x < y <;> by_cases h2 : y < x <;> simp [h1, h2] <;> omega] at h
theorem holdsOk7 : HoldsOk 26 (fun a b => decide (b < a)) := by
  intro x y W
  have h := holds7 (ord3 x y) W
  rwa [show (decide (0 < ord3 x y)) = (decide (y < x)) by unfold ord3; by_cases h1 : x < y <;> by_cases h2 : y < x <;> simp [h1, h2] <;> omega] at h
theorem holdsOk8 : HoldsOk 27 (fun a b => decide (b ≤ a)) := by
  intro x y W
  have h := holds8 (ord3 x y) W
  rwa [show (decide (0 ≤ ord3 x y)) = (decide (y ≤ x)) by unfold ord3; by_cases h1 : x < y <;> by_cases h2 : y < x <;> simp [h1, h2] <;> omega] at h
end Ar
end Go.Proofs.YtjidclefpmcgoaaDoor
