/- Patterns by the chapter: signs, what they tell, the best beginning, and how a text and a mask are read as signs. No premises. -/
namespace Go.Proofs.YtdfnbanbofnabaaDoor.Gl
abbrev L := List UInt8
inductive Sg where
  | star : Sg
  | one : Sg
  | lit (b : UInt8) : Sg
  | set (t : Bool) (ms : List (UInt8 × UInt8)) : Sg
def tk : Sg → UInt8 → Bool
  | .star, _ => true
  | .one, _ => true
  | .lit b, c => b == c
  | .set t ms, c => (ms.any fun m => decide (m.1 ≤ c) && decide (c ≤ m.2)) != t
def isStar : Sg → Bool
  | .star => true
  | _ => false
def isLit : Sg → Bool
  | .lit _ => true
  | _ => false
/-- What signs tell, one behind the other. -/
def Tells : List Sg → L → Prop
  | [], s => s = []
  | x :: g, s => (isStar x = true ∧ ∃ k, k ≤ s.length ∧ Tells g (s.drop k)) ∨ (isStar x = false ∧ ∃ c s', s = c :: s' ∧ tk x c = true ∧ Tells g s')
theorem tells_star {x : Sg} {g : List Sg} {s : L} (h : isStar x = true) : Tells (x :: g) s ↔ ∃ k, k ≤ s.length ∧ Tells g (s.drop k) := by
  simp [Tells, h]
theorem tells_one {x : Sg} {g : List Sg} {s : L} (h : isStar x = false) : Tells (x :: g) s ↔ ∃ c s', s = c :: s' ∧ tk x c = true ∧ Tells g s' := by
  simp [Tells, h]
theorem tells_star_more {x : Sg} {g : List Sg} {s : L} (h : isStar x = true) : Tells (x :: g) s ↔ Tells g s ∨ ∃ c s', s = c :: s' ∧ Tells (x :: g) s' := by
  rw [tells_star h]
  constructor
  · rintro ⟨k, hk, ht⟩
    cases k with
    | zero => exact .inl (by simpa using ht)
    | succ k =>
      cases s with
      | nil => simp at hk
      | cons c s' => exact .inr ⟨c, s', rfl, (tells_star h).2 ⟨k, by simpa using hk, by simpa using ht⟩⟩
  · rintro (ht | ⟨c, s', rfl, ht⟩)
    · exact ⟨0, Nat.zero_le _, by simpa using ht⟩
    · obtain ⟨k, hk, ht⟩ := (tells_star h).1 ht
      exact ⟨k + 1, by simpa using hk, by simpa using ht⟩
theorem tells_app {h : List Sg} : ∀ (g : List Sg) (s : L), Tells (g ++ h) s ↔ ∃ k, k ≤ s.length ∧ Tells g (s.take k) ∧ Tells h (s.drop k)
  | [], s => by
    constructor
    · intro ht; exact ⟨0, Nat.zero_le _, by simp [Tells], by simpa using ht⟩
    · rintro ⟨k, hk, h1, h2⟩
      have h1 : s.take k = [] := h1
      rw [List.take_eq_nil_iff] at h1
      rcases h1 with rfl | rfl
      · simpa using h2
      · simpa using h2
  | x :: g, s => by
    have ih := tells_app (h := h) g
    cases hx : isStar x with
    | true =>
      rw [List.cons_append, tells_star hx]
      constructor
      · rintro ⟨j, hj, ht⟩
        obtain ⟨k, hk, h1, h2⟩ := (ih _).1 ht
        rw [List.length_drop] at hk
        refine ⟨j + k, by omega, (tells_star hx).2 ⟨j, by rw [List.length_take]; omega, ?_⟩, by rwa [List.drop_drop] at h2⟩
        rw [List.drop_take, show j + k - j = k by omega]
        exact h1
      · rintro ⟨k, hk, h1, h2⟩
        obtain ⟨j, hj, h3⟩ := (tells_star hx).1 h1
        rw [List.length_take] at hj
        refine ⟨j, by omega, (ih _).2 ⟨k - j, by rw [List.length_drop]; omega, ?_, ?_⟩⟩
        · rwa [List.drop_take] at h3
        · rw [List.drop_drop, show j + (k - j) = k by omega]; exact h2
    | false =>
      rw [List.cons_append, tells_one hx]
      constructor
      · rintro ⟨c, s', rfl, hc, ht⟩
        obtain ⟨k, hk, h1, h2⟩ := (ih _).1 ht
        exact ⟨k + 1, by simpa using hk, (tells_one hx).2 ⟨c, s'.take k, by simp, hc, h1⟩, by simpa using h2⟩
      · rintro ⟨k, hk, h1, h2⟩
        obtain ⟨c, u, h3, hc, h4⟩ := (tells_one hx).1 h1
        cases k with
        | zero => simp at h3
        | succ k =>
          cases s with
          | nil => simp at hk
          | cons c' s' =>
            simp only [List.take_succ_cons, List.cons.injEq] at h3
            obtain ⟨rfl, rfl⟩ := h3
            exact ⟨c', s', rfl, hc, (ih _).2 ⟨k, by simpa using hk, h4, by simpa using h2⟩⟩
theorem tells_single {x : Sg} {s : L} : Tells [x] s.reverse ↔ Tells [x] s := by
  cases hx : isStar x with
  | true =>
    rw [tells_star hx, tells_star hx]
    exact ⟨fun _ => ⟨s.length, Nat.le_refl _, by simp [Tells]⟩, fun _ => ⟨s.reverse.length, Nat.le_refl _, by rw [List.drop_length]; exact rfl⟩⟩
  | false =>
    rw [tells_one hx, tells_one hx]
    constructor
    · rintro ⟨c, u, h1, h2, h3⟩
      have h3 : u = [] := h3
      subst h3
      exact ⟨c, [], by have := congrArg List.reverse h1; simpa using this, h2, rfl⟩
    · rintro ⟨c, u, h1, h2, h3⟩
      have h3 : u = [] := h3
      subst h3
      exact ⟨c, [], by rw [h1]; rfl, h2, rfl⟩
theorem tells_reverse : ∀ (g : List Sg) (s : L), Tells g.reverse s.reverse ↔ Tells g s
  | [], s => by
    show s.reverse = [] ↔ s = []
    simp
  | x :: g, s => by
    rw [List.reverse_cons, tells_app, show x :: g = [x] ++ g from rfl, tells_app]
    constructor
    · rintro ⟨k, hk, h1, h2⟩
      rw [List.length_reverse] at hk
      rw [List.take_reverse] at h1
      rw [List.drop_reverse] at h2
      exact ⟨s.length - k, by omega, tells_single.1 h2, (tells_reverse g _).1 h1⟩
    · rintro ⟨k, hk, h1, h2⟩
      refine ⟨s.length - k, by rw [List.length_reverse]; omega, ?_, ?_⟩
      · rw [List.take_reverse, show s.length - (s.length - k) = k by omega]
        exact (tells_reverse g _).2 h2
      · rw [List.drop_reverse, show s.length - (s.length - k) = k by omega]
        exact tells_single.2 h1
/-- A run of signs without stars tells a text's first bytes. -/
def bg : List Sg → L → Bool
  | [], _ => true
  | _ :: _, [] => false
  | x :: r, c :: s => tk x c && bg r s
def Free (r : List Sg) : Prop := ∀ x ∈ r, isStar x = false
theorem bg_len : ∀ (r : List Sg) (s : L), bg r s = true → r.length ≤ s.length
  | [], _, _ => Nat.zero_le _
  | _ :: _, [], h => by simp [bg] at h
  | x :: r, c :: s, h => by
    simp only [bg, Bool.and_eq_true] at h
    have := bg_len r s h.2
    simpa using this
theorem free_app {h : List Sg} : ∀ (r : List Sg) (s : L), Free r → (Tells (r ++ h) s ↔ bg r s = true ∧ Tells h (s.drop r.length))
  | [], s, _ => by simp [bg]
  | x :: r, s, hf => by
    have hx := hf x (List.mem_cons_self ..)
    have ih := fun s => free_app (h := h) r s fun y hy => hf y (List.mem_cons_of_mem _ hy)
    rw [List.cons_append, tells_one hx]
    cases s with
    | nil => simp [bg]
    | cons c s =>
      simp only [bg, Bool.and_eq_true, List.length_cons, List.drop_succ_cons]
      constructor
      · rintro ⟨c', s', h1, h2, h3⟩
        simp only [List.cons.injEq] at h1
        obtain ⟨rfl, rfl⟩ := h1
        exact ⟨⟨h2, ((ih _).1 h3).1⟩, ((ih _).1 h3).2⟩
      · rintro ⟨⟨h1, h2⟩, h3⟩
        exact ⟨c, s, rfl, h1, (ih _).2 ⟨h2, h3⟩⟩
theorem bg_take : ∀ (r : List Sg) (s : L) (n : Nat), bg r (s.take n) = true ↔ bg r s = true ∧ r.length ≤ n
  | [], _, _ => by simp [bg]
  | x :: r, [], n => by simp [bg]
  | x :: r, c :: s, 0 => by simp [bg]
  | x :: r, c :: s, n + 1 => by
    have ih := bg_take r s n
    simp only [List.take_succ_cons, bg, Bool.and_eq_true, List.length_cons, Nat.add_le_add_iff_right]
    rw [ih]
    exact and_assoc.symm
theorem bg_at : ∀ (r : List Sg) (s : L), bg r s = true ↔ r.length ≤ s.length ∧ ∀ (i : Nat) (x : Sg) (c : UInt8), r[i]? = some x → s[i]? = some c → tk x c = true
  | [], s => by simp [bg]
  | x :: r, [] => by simp [bg]
  | x :: r, c :: s => by
    have ih := bg_at r s
    simp only [bg, Bool.and_eq_true, List.length_cons, Nat.add_le_add_iff_right]
    rw [ih]
    constructor
    · rintro ⟨h1, h2, h3⟩
      refine ⟨h2, fun i y d hy hd => ?_⟩
      cases i with
      | zero => simp at hy hd; subst hy hd; exact h1
      | succ i => exact h3 i y d (by simpa using hy) (by simpa using hd)
    · rintro ⟨h1, h2⟩
      exact ⟨h2 0 x c rfl rfl, h1, fun i y d hy hd => h2 (i + 1) y d (by simpa using hy) (by simpa using hd)⟩
/-- The best number of which a word holds: the least one, or the greatest one. -/
def Best (l : Bool) (p : Nat → Prop) : Option Nat → Prop
  | none => ∀ n, ¬ p n
  | some n => p n ∧ ∀ m, p m → if l = true then m ≤ n else n ≤ m
theorem Best.one {l : Bool} {p : Nat → Prop} {a b : Option Nat} (ha : Best l p a) (hb : Best l p b) : a = b := by
  cases a <;> cases b
  · rfl
  · exact absurd hb.1 (ha _)
  · exact absurd ha.1 (hb _)
  · rename_i a b
    have h1 := ha.2 _ hb.1
    have h2 := hb.2 _ ha.1
    cases l <;> simp at h1 h2 <;> (congr 1; omega)
theorem Best.iff {l : Bool} {p q : Nat → Prop} {a : Option Nat} (h : ∀ n, p n ↔ q n) (ha : Best l p a) : Best l q a := by
  cases a with
  | none => exact fun n hn => ha n ((h n).2 hn)
  | some a => exact ⟨(h a).1 ha.1, fun m hm => ha.2 m ((h m).2 hm)⟩
/-- Where a run stands in a text. -/
def Occ (r : List Sg) (s : L) (k : Nat) : Prop := k + r.length ≤ s.length ∧ bg r (s.drop k) = true
def tailS (rest : List (List Sg)) : List Sg := rest.flatMap fun r => .star :: r
def PB (rest : List (List Sg)) (s : L) (n : Nat) : Prop := n ≤ s.length ∧ Tells (tailS rest) (s.take n)
def QB (g : List Sg) (s : L) (n : Nat) : Prop := n ≤ s.length ∧ Tells g (s.take n)
theorem pb_nil {s : L} {n : Nat} : PB [] s n ↔ n = 0 := by
  constructor
  · rintro ⟨h1, h2⟩
    have h2 : s.take n = [] := h2
    rw [List.take_eq_nil_iff] at h2
    rcases h2 with h2 | rfl
    · exact h2
    · simpa using h1
  · rintro rfl
    exact ⟨Nat.zero_le _, by simp [tailS, Tells]⟩
theorem pb_cons {r : List Sg} {rest : List (List Sg)} {s : L} {n : Nat} (hr : Free r) : PB (r :: rest) s n ↔ ∃ k, Occ r s k ∧ k + r.length ≤ n ∧ PB rest (s.drop (k + r.length)) (n - (k + r.length)) := by
  unfold PB
  rw [show tailS (r :: rest) = .star :: (r ++ tailS rest) from rfl, tells_star rfl]
  constructor
  · rintro ⟨hn, k, hk, ht⟩
    rw [List.length_take] at hk
    obtain ⟨h1, h2⟩ := (free_app r _ hr).1 ht
    rw [List.drop_take, bg_take] at h1
    rw [List.drop_drop, List.drop_take] at h2
    have h3 := bg_len _ _ h1.1
    rw [List.length_drop] at h3
    have h4 := h1.2
    exact ⟨k, ⟨by omega, h1.1⟩, by omega, by rw [List.length_drop]; omega, h2⟩
  · rintro ⟨k, ⟨h1, h2⟩, h3, h4, h5⟩
    rw [List.length_drop] at h4
    refine ⟨by omega, k, by rw [List.length_take]; omega, (free_app r _ hr).2 ⟨?_, ?_⟩⟩
    · rw [List.drop_take, bg_take]
      exact ⟨h2, by omega⟩
    · rw [List.drop_drop, List.drop_take]
      exact h5
theorem pb_less {r : List Sg} {rest : List (List Sg)} {s : L} {a b n : Nat} (hab : a ≤ b) (hb : b ≤ n) (hs : n ≤ s.length) (h : PB (r :: rest) (s.drop b) (n - b)) : PB (r :: rest) (s.drop a) (n - a) := by
  obtain ⟨h1, h2⟩ := h
  rw [List.length_drop] at h1
  rw [show tailS (r :: rest) = .star :: (r ++ tailS rest) from rfl, tells_star rfl] at h2
  obtain ⟨k, hk, ht⟩ := h2
  rw [List.length_take, List.length_drop] at hk
  refine ⟨by rw [List.length_drop]; omega, ?_⟩
  rw [show tailS (r :: rest) = .star :: (r ++ tailS rest) from rfl, tells_star rfl]
  refine ⟨b - a + k, by rw [List.length_take, List.length_drop]; omega, ?_⟩
  rw [List.drop_take, List.drop_drop] at ht ⊢
  rw [show a + (b - a + k) = b + k by omega, show n - a - (b - a + k) = n - b - k by omega]
  exact ht
/-- One run is found; more follow: none but its first place is ever wanted. -/
theorem best_more {l : Bool} {r r2 : List Sg} {rest : List (List Sg)} {s : L} {k : Nat} {v : Option Nat} (hr : Free r) (hk : Best false (Occ r s) (some k)) (hv : Best l (PB (r2 :: rest) (s.drop (k + r.length))) v) :
    Best l (PB (r :: r2 :: rest) s) (v.map (· + (k + r.length))) := by
  have key : ∀ n, PB (r :: r2 :: rest) s n ↔ k + r.length ≤ n ∧ PB (r2 :: rest) (s.drop (k + r.length)) (n - (k + r.length)) := by
    intro n
    rw [pb_cons hr]
    constructor
    · rintro ⟨j, h1, h2, h3⟩
      have h4 := hk.2 j h1
      simp only [Bool.false_eq_true, if_false] at h4
      have h5 := h3.1
      rw [List.length_drop] at h5
      have h6 := h1.1
      exact ⟨by omega, pb_less (by omega) h2 (by omega) h3⟩
    · rintro ⟨h1, h2⟩
      exact ⟨k, hk.1, h1, h2⟩
  cases v with
  | none => exact fun n hn => hv _ ((key n).1 hn).2
  | some v =>
    refine ⟨(key (v + (k + r.length))).2 ⟨by omega, by rw [Nat.add_sub_cancel]; exact hv.1⟩, fun m hm => ?_⟩
    obtain ⟨h1, h2⟩ := (key m).1 hm
    have h3 := hv.2 _ h2
    cases l <;> simp at h3 ⊢ <;> omega
theorem best_last {l : Bool} {r : List Sg} {s : L} {k : Nat} {v : Option Nat} (hr : Free r) (hk : Best l (Occ r s) (some k)) (hv : Best l (PB [] (s.drop (k + r.length))) v) :
    Best l (PB [r] s) (v.map (· + (k + r.length))) := by
  have h0 : v = some 0 := by
    cases v with
    | none => exact absurd (pb_nil.2 rfl) (hv 0)
    | some v => rw [pb_nil.1 hv.1]
  subst h0
  have key : ∀ n, PB [r] s n ↔ ∃ j, Occ r s j ∧ n = j + r.length := by
    intro n
    rw [pb_cons hr]
    constructor
    · rintro ⟨j, h1, h2, h3⟩
      have := pb_nil.1 h3
      exact ⟨j, h1, by omega⟩
    · rintro ⟨j, h1, rfl⟩
      exact ⟨j, h1, Nat.le_refl _, pb_nil.2 (by omega)⟩
  refine ⟨(key _).2 ⟨k, hk.1, by simp⟩, fun m hm => ?_⟩
  obtain ⟨j, h1, rfl⟩ := (key m).1 hm
  have := hk.2 j h1
  cases l <;> simp at this ⊢ <;> omega
theorem best_none {l b : Bool} {r : List Sg} {rest : List (List Sg)} {s : L} (hr : Free r) (hk : Best b (Occ r s) none) : Best l (PB (r :: rest) s) none := by
  intro n hn
  obtain ⟨j, h1, _⟩ := (pb_cons hr).1 hn
  exact hk j h1
theorem best_first {l : Bool} {r : List Sg} {rest : List (List Sg)} {s : L} {v : Option Nat} (hr : Free r) (hb : bg r s = true) (hv : Best l (PB rest (s.drop r.length)) v) :
    Best l (QB (r ++ tailS rest) s) (v.map (· + r.length)) := by
  have hl := bg_len _ _ hb
  have key : ∀ n, QB (r ++ tailS rest) s n ↔ r.length ≤ n ∧ PB rest (s.drop r.length) (n - r.length) := by
    intro n
    unfold QB PB
    rw [free_app r _ hr, bg_take, List.length_drop, List.drop_take]
    constructor
    · rintro ⟨h1, ⟨h2, h3⟩, h4⟩
      exact ⟨h3, by omega, h4⟩
    · rintro ⟨h1, h2, h3⟩
      exact ⟨by omega, ⟨hb, h1⟩, h3⟩
  cases v with
  | none => exact fun n hn => hv _ ((key n).1 hn).2
  | some v =>
    refine ⟨(key (v + r.length)).2 ⟨by omega, by rw [Nat.add_sub_cancel]; exact hv.1⟩, fun m hm => ?_⟩
    obtain ⟨h1, h2⟩ := (key m).1 hm
    have h3 := hv.2 _ h2
    cases l <;> simp at h3 ⊢ <;> omega
theorem best_not {l : Bool} {r : List Sg} {rest : List (List Sg)} {s : L} (hr : Free r) (hb : bg r s = false) : Best l (QB (r ++ tailS rest) s) none := by
  rintro n ⟨_, h⟩
  obtain ⟨h1, _⟩ := (free_app r _ hr).1 h
  rw [((bg_take r s n).1 h1).1] at hb
  cases hb
/-- The whole text is told just if the longest beginning is all of it. -/
theorem best_all {g : List Sg} {s : L} {v : Option Nat} (h : Best true (QB g s) v) : v = some s.length ↔ Tells g s := by
  constructor
  · rintro rfl
    have := h.1.2
    rwa [List.take_length] at this
  · intro ht
    have hq : QB g s s.length := ⟨Nat.le_refl _, by rwa [List.take_length]⟩
    cases v with
    | none => exact absurd hq (h _)
    | some v =>
      have h1 := h.1.1
      have h2 := h.2 _ hq
      simp at h2
      congr 1
      omega
/-- Signs without the stars between them. -/
def runsOf : List Sg → List (List Sg)
  | [] => [[]]
  | x :: g => if isStar x = true then [] :: runsOf g else match runsOf g with
    | [] => [[x]]
    | r :: rest => (x :: r) :: rest
theorem runsOf_eq : ∀ g : List Sg, ∃ r rest, runsOf g = r :: rest ∧ (∀ q ∈ r :: rest, Free q) ∧ g = r ++ tailS rest
  | [] => ⟨[], [], rfl, by intro q hq; simp at hq; subst hq; intro x hx; simp at hx, rfl⟩
  | x :: g => by
    obtain ⟨r, rest, h1, h2, h3⟩ := runsOf_eq g
    cases hx : isStar x with
    | true =>
      refine ⟨[], r :: rest, by rw [runsOf, if_pos hx, h1], ?_, ?_⟩
      · intro q hq
        rcases List.mem_cons.1 hq with rfl | hq
        · intro y hy; simp at hy
        · exact h2 q hq
      · have : x = .star := by cases x <;> simp [isStar] at hx ⊢
        rw [this, h3]
        rfl
    | false =>
      refine ⟨x :: r, rest, by rw [runsOf, if_neg (by simp [hx]), h1], ?_, by rw [h3]; rfl⟩
      intro q hq
      rcases List.mem_cons.1 hq with rfl | hq
      · intro y hy
        rcases List.mem_cons.1 hy with rfl | hy
        · exact hx
        · exact h2 r (List.mem_cons_self ..) y hy
      · exact h2 q (List.mem_cons_of_mem _ hq)
def joinR (cur : List Sg) : List (List Sg) → List (List Sg)
  | [] => [cur]
  | r :: rest => (cur ++ r) :: rest
theorem runs_star {x : Sg} {h cur : List Sg} (hx : isStar x = true) : joinR cur (runsOf (x :: h)) = cur :: joinR [] (runsOf h) := by
  obtain ⟨r, rest, h1, _⟩ := runsOf_eq h
  rw [runsOf, if_pos hx, h1]
  simp [joinR]
theorem runs_one {x : Sg} {h cur : List Sg} (hx : isStar x = false) : joinR cur (runsOf (x :: h)) = joinR (cur ++ [x]) (runsOf h) := by
  obtain ⟨r, rest, h1, _⟩ := runsOf_eq h
  rw [runsOf, if_neg (by simp [hx]), h1]
  simp [joinR]
theorem runs_end {cur : List Sg} : joinR cur (runsOf []) = [cur] := by simp [runsOf, joinR]
theorem runs_begin (g : List Sg) : runsOf g = joinR [] (runsOf g) := by
  obtain ⟨r, rest, h1, _⟩ := runsOf_eq g
  rw [h1]
  simp [joinR]
/-- Does a sign stand at a place? -/
def isAt (t m : L) (i : Nat) (c : UInt8) : Bool := t[i]? == some c && !(m[i]? == some 113)
theorem isAt_lt {t m : L} {i : Nat} {c : UInt8} (h : isAt t m i c = true) : i < t.length := by
  unfold isAt at h
  simp only [Bool.and_eq_true, beq_iff_eq] at h
  exact (List.getElem?_eq_some_iff.1 h.1).1
theorem isAt_get {t m : L} {i : Nat} {c : UInt8} (h : isAt t m i c = true) : t.getD i 0 = c := by
  unfold isAt at h
  simp only [Bool.and_eq_true, beq_iff_eq] at h
  rw [List.getD_eq_getElem?_getD, h.1]
  rfl
theorem isAt_one {t m : L} {i : Nat} {c d : UInt8} (h : isAt t m i c = true) (hd : isAt t m i d = true) : c = d := by
  rw [← isAt_get h, isAt_get hd]
/-- The first place of what may end a set. -/
def clo (t m : L) : Nat → Nat → Option Nat
  | 0, _ => none
  | f + 1, k => if isAt t m k 93 = true then some k else clo t m f (k + 1)
theorem clo_some {t m : L} : ∀ {f k e : Nat}, clo t m f k = some e → k ≤ e ∧ isAt t m e 93 = true ∧ ∀ j, k ≤ j → j < e → isAt t m j 93 = false
  | 0, _, _, h => by simp [clo] at h
  | f + 1, k, e, h => by
    unfold clo at h
    by_cases hc : isAt t m k 93 = true
    · rw [if_pos hc] at h
      injection h with h
      subst h
      exact ⟨Nat.le_refl _, hc, fun j h1 h2 => by omega⟩
    · rw [if_neg hc] at h
      obtain ⟨h1, h2, h3⟩ := clo_some h
      refine ⟨by omega, h2, fun j h4 h5 => ?_⟩
      by_cases hj : j = k
      · subst hj; simpa using hc
      · exact h3 j (by omega) h5
theorem clo_none {t m : L} : ∀ {f k : Nat}, t.length ≤ f + k → clo t m f k = none → ∀ j, k ≤ j → isAt t m j 93 = false
  | 0, k, hf, _, j, hj => by
    cases h : isAt t m j 93 with
    | false => rfl
    | true => have := isAt_lt h; omega
  | f + 1, k, hf, h, j, hj => by
    unfold clo at h
    by_cases hc : isAt t m k 93 = true
    · rw [if_pos hc] at h; cases h
    · rw [if_neg hc] at h
      by_cases hjk : j = k
      · subst hjk; simpa using hc
      · exact clo_none (by omega) h j (by omega)
def close (t m : L) (k : Nat) : Option Nat := clo t m t.length k
theorem close_some {t m : L} {k e : Nat} : close t m k = some e ↔ k ≤ e ∧ isAt t m e 93 = true ∧ ∀ j, k ≤ j → j < e → isAt t m j 93 = false := by
  constructor
  · exact clo_some
  · rintro ⟨h1, h2, h3⟩
    cases h : close t m k with
    | none => rw [clo_none (by omega) h e h1] at h2; cases h2
    | some e' =>
      obtain ⟨g1, g2, g3⟩ := clo_some h
      congr 1
      by_cases ha : e < e'
      · rw [g3 e h1 ha] at h2; cases h2
      · by_cases hb : e' < e
        · rw [h3 e' g1 hb] at g2; cases g2
        · omega
theorem close_none {t m : L} {k : Nat} : close t m k = none ↔ ∀ j, k ≤ j → isAt t m j 93 = false := by
  constructor
  · exact clo_none (by omega)
  · intro h
    cases hc : close t m k with
    | none => rfl
    | some e => obtain ⟨g1, g2, g3⟩ := close_some.1 hc; rw [h e g1] at g2; cases g2
/-- A set's members. -/
def mem (t m : L) (e : Nat) : Nat → Nat → List (UInt8 × UInt8)
  | 0, _ => []
  | f + 1, a => if a < e then (if isAt t m (a + 1) 45 = true ∧ a + 2 < e then (t.getD a 0, t.getD (a + 2) 0) :: mem t m e f (a + 3) else (t.getD a 0, t.getD a 0) :: mem t m e f (a + 1)) else []
theorem mem_more {t m : L} {e : Nat} : ∀ {f f' a : Nat}, e ≤ f + a → e ≤ f' + a → mem t m e f a = mem t m e f' a
  | 0, f', a, h1, h2 => by
    cases f' with
    | zero => rfl
    | succ f' => unfold mem; rw [if_neg (by omega)]
  | f + 1, 0, a, h1, h2 => by
    unfold mem
    rw [if_neg (by omega)]
  | f + 1, f' + 1, a, h1, h2 => by
    unfold mem
    rw [mem_more (f := f) (f' := f') (a := a + 3) (by omega) (by omega), mem_more (f := f) (f' := f') (a := a + 1) (by omega) (by omega)]
def mems (t m : L) (a e : Nat) : List (UInt8 × UInt8) := mem t m e (e - a) a
theorem mems_end {t m : L} {a e : Nat} (h : e ≤ a) : mems t m a e = [] := by
  unfold mems
  rw [show e - a = 0 by omega]
  rfl
theorem mems_two {t m : L} {a e : Nat} (h1 : isAt t m (a + 1) 45 = true) (h2 : a + 2 < e) : mems t m a e = (t.getD a 0, t.getD (a + 2) 0) :: mems t m (a + 3) e := by
  unfold mems
  rw [show e - a = (e - a - 1) + 1 by omega, mem, if_pos (by omega), if_pos ⟨h1, h2⟩, mem_more (f := e - a - 1) (f' := e - (a + 3)) (by omega) (by omega)]
theorem mems_one {t m : L} {a e : Nat} (h : a < e) (h1 : ¬ (isAt t m (a + 1) 45 = true ∧ a + 2 < e)) : mems t m a e = (t.getD a 0, t.getD a 0) :: mems t m (a + 1) e := by
  unfold mems
  rw [show e - a = (e - a - 1) + 1 by omega, mem, if_pos h, if_neg h1, mem_more (f := e - a - 1) (f' := e - (a + 1)) (by omega) (by omega)]
/-- Where a set's members begin. -/
def fst (t m : L) (i : Nat) : Nat := if isAt t m (i + 1) 33 = true then i + 2 else i + 1
/-- The sign at a place, and the place behind it. -/
def sgAt (t m : L) (i : Nat) : Sg × Nat :=
  if isAt t m i 42 = true then (.star, i + 1) else if isAt t m i 63 = true then (.one, i + 1) else if isAt t m i 91 = true then
    match close t m (fst t m i + 1) with
    | none => (.lit 91, i + 1)
    | some e => (.set (isAt t m (i + 1) 33) (mems t m (fst t m i) e), e + 1)
  else (.lit (t.getD i 0), i + 1)
theorem fst_gt (t m : L) (i : Nat) : i < fst t m i ∧ fst t m i ≤ i + 2 := by unfold fst; split <;> omega
theorem sgAt_next {t m : L} {i : Nat} (hi : i < t.length) : i < (sgAt t m i).2 ∧ (sgAt t m i).2 ≤ t.length := by
  unfold sgAt
  have := fst_gt t m i
  split
  · simp; omega
  · split
    · simp; omega
    · split
      · split
        · simp; omega
        · rename_i e he
          obtain ⟨h1, h2, _⟩ := close_some.1 he
          have := isAt_lt h2
          simp; omega
      · simp; omega
/-- The signs from a place on. -/
def sgs (t m : L) : Nat → Nat → List Sg
  | 0, _ => []
  | f + 1, i => if i < t.length then (sgAt t m i).1 :: sgs t m f (sgAt t m i).2 else []
theorem sgs_more {t m : L} : ∀ {f f' i : Nat}, t.length ≤ f + i → t.length ≤ f' + i → sgs t m f i = sgs t m f' i
  | 0, f', i, h1, h2 => by
    cases f' with
    | zero => rfl
    | succ f' => unfold sgs; rw [if_neg (by omega)]
  | f + 1, 0, i, h1, h2 => by
    unfold sgs
    rw [if_neg (by omega)]
  | f + 1, f' + 1, i, h1, h2 => by
    unfold sgs
    by_cases hi : i < t.length
    · have := sgAt_next (m := m) hi
      rw [if_pos hi, if_pos hi, sgs_more (f := f) (f' := f') (i := (sgAt t m i).2) (by omega) (by omega)]
    · rw [if_neg hi, if_neg hi]
def sgF (t m : L) (i : Nat) : List Sg := sgs t m t.length i
theorem sgF_end {t m : L} {i : Nat} (h : t.length ≤ i) : sgF t m i = [] := by
  unfold sgF
  cases hl : t.length with
  | zero => rfl
  | succ n => rw [sgs, if_neg (by omega)]
theorem sgF_at {t m : L} {i : Nat} (h : i < t.length) : sgF t m i = (sgAt t m i).1 :: sgF t m (sgAt t m i).2 := by
  unfold sgF
  have := sgAt_next (m := m) h
  cases hl : t.length with
  | zero => omega
  | succ n => rw [sgs, if_pos h, sgs_more (f := n) (f' := n + 1) (i := (sgAt t m i).2) (by omega) (by omega)]
end Go.Proofs.YtdfnbanbofnabaaDoor.Gl
