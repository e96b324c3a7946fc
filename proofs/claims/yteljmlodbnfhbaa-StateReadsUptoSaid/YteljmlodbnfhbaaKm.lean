/- State as bytes: what puts things, and what reads them again: as plain mathematics. No premises. -/
import Derived.Test.YteljmlodbnfhbaaRm
namespace Go.Proofs.Yteljmlodbnfhbaa
namespace Ks
abbrev B := List UInt8
/-- How things of a kind are put and read: what is put is read again, and what is read was put; what is cut is short. -/
structure Cd (α : Type) where
  put : α → B
  get : B → Except Nat (α × B)
  ok : α → Prop
  back : ∀ {a : α} (r : B), ok a → get (put a ++ r) = .ok (a, r)
  own : ∀ {b r : B} {a : α}, get b = .ok (a, r) → b = put a ++ r ∧ ok a
  cut : ∀ {a : α} {m : Nat}, ok a → m < (put a).length → get ((put a).take m) = .error 10
  errs : ∀ {b : B} {e : Nat}, get b = .error e → e = 10 ∨ e = 11
/-- The number without a sign of one with a sign, and back. -/
def zig (x : Int) : Int := if x < 0 then 2 * -(x + 1) + 1 else 2 * x
def zag (x : Nat) : Int := if x % 2 = 1 then -((x / 2 : Nat) : Int) - 1 else ((x / 2 : Nat) : Int)
theorem zig_zag (x : Nat) : (zig (zag x)).toNat = x := by unfold zig zag; split <;> split <;> omega
theorem zag_zig (x : Int) : zag (zig x).toNat = x := by unfold zig zag; split <;> split <;> omega
theorem zig_nat {x : Int} (h1 : -9223372036854775808 ≤ x) (h2 : x ≤ 9223372036854775807) : (zig x).toNat < 18446744073709551616 := by unfold zig; split <;> omega
theorem zag_in {x : Nat} (h : x < 18446744073709551616) : -9223372036854775808 ≤ zag x ∧ zag x ≤ 9223372036854775807 := by unfold zag; split <;> omega
theorem num_cases (b : B) : (numR b 0).2.2 = 0 ∨ (numR b 0).2.2 = 10 ∨ (numR b 0).2.2 = 11 := by
  rcases takeM_cases b with h | h
  · exact .inl (by simp [numR, h.1])
  · exact .inr (by simpa [numR] using h.1)
/-- A number of 64 bits with its sign. -/
def numP (x : Int) : B := numL (zig x).toNat
def numG (b : B) : Except Nat (Int × B) := if (numR b 0).2.2 = 0 then .ok (zag (numR b 0).1, (numR b 0).2.1) else .error (numR b 0).2.2
def I64 (x : Int) : Prop := -9223372036854775808 ≤ x ∧ x ≤ 9223372036854775807
def num : Cd Int where
  put := numP
  get := numG
  ok := I64
  back := by
    intro a r h
    have h1 := num_all (zig_nat h.1 h.2) r
    simp only [numG, numP, h1, if_pos, zag_zig]
  own := by
    intro b r a h
    unfold numG at h
    by_cases h0 : (numR b 0).2.2 = 0
    · rw [if_pos h0] at h
      simp only [Except.ok.injEq, Prod.mk.injEq] at h
      obtain ⟨h1, h2⟩ := num_eats (triple h0)
      refine ⟨?_, ?_⟩
      · rw [numP, ← h.1, zig_zag, ← h.2]; exact h1
      · rw [← h.1]; exact zag_in h2
    · rw [if_neg h0] at h; cases h
  cut := by
    intro a m h hm
    have h1 : numR ((numP a).take m) 0 = (0, (numP a).take m, 10) := by
      simp only [numR, numP, take_short (zig_nat h.1 h.2) hm]; rfl
    simp only [numG, h1]
    rfl
  errs := by
    intro b e h
    unfold numG at h
    by_cases h0 : (numR b 0).2.2 = 0
    · rw [if_pos h0] at h; cases h
    · rw [if_neg h0] at h
      cases h
      rcases num_cases b with h | h | h
      · exact absurd h h0
      · exact .inl h
      · exact .inr h
/-- A text. -/
def txtG (b : B) : Except Nat (B × B) := if (textR b 0).2.2 = 0 then .ok ((textR b 0).1, (textR b 0).2.1) else .error (textR b 0).2.2
theorem txt_cases (b : B) : (textR b 0).2.2 = 0 ∨ (textR b 0).2.2 = 10 ∨ (textR b 0).2.2 = 11 := by
  unfold textR
  dsimp only
  split
  · exact num_cases b
  · split
    · exact .inr (.inl rfl)
    · exact .inl rfl
def txt : Cd B where
  put := textB
  get := txtG
  ok t := t.length < 18446744073709551616
  back := by
    intro a r h
    simp only [txtG, text_all' h r, if_pos]
  own := by
    intro b r a h
    unfold txtG at h
    by_cases h0 : (textR b 0).2.2 = 0
    · rw [if_pos h0] at h
      simp only [Except.ok.injEq, Prod.mk.injEq] at h
      obtain ⟨h1, h2⟩ := text_eats (triple h0)
      rw [← h.1, ← h.2]
      exact ⟨h1, h2⟩
    · rw [if_neg h0] at h; cases h
  cut := by
    intro a m h hm
    have h1 := text_cut' (m := m) h [] (by simpa using hm)
    simp only [List.append_nil] at h1
    rcases h1 with ⟨u, b, h1⟩ | ⟨k, hk, _⟩
    · simp only [txtG, h1]; rfl
    · exact absurd hk (by simp)
  errs := by
    intro b e h
    unfold txtG at h
    by_cases h0 : (textR b 0).2.2 = 0
    · rw [if_pos h0] at h; cases h
    · rw [if_neg h0] at h
      cases h
      rcases txt_cases b with h | h | h
      · exact absurd h h0
      · exact .inl h
      · exact .inr h
/-- A truth. -/
def bitP (x : Bool) : B := numP (if x = true then 1 else 0)
def bitG (b : B) : Except Nat (Bool × B) :=
  match numG b with
  | .error e => .error e
  | .ok (x, r) => if x = 1 then .ok (true, r) else if x = 0 then .ok (false, r) else .error 11
theorem bit_ok (x : Bool) : I64 (if x = true then 1 else 0) := by cases x <;> constructor <;> decide
def bit : Cd Bool where
  put := bitP
  get := bitG
  ok _ := True
  back := by
    intro a r _
    have h : numG (bitP a ++ r) = .ok (_, r) := num.back r (bit_ok a)
    rw [bitG, h]
    cases a <;> rfl
  own := by
    intro b r a h
    unfold bitG at h
    cases hn : numG b with
    | error e => rw [hn] at h; cases h
    | ok p =>
      obtain ⟨x, r1⟩ := p
      obtain ⟨h1, _⟩ := num.own hn
      rw [hn] at h
      dsimp only at h
      refine ⟨?_, trivial⟩
      by_cases hx : x = 1
      · rw [if_pos hx] at h
        cases h
        rw [h1, hx]; rfl
      · rw [if_neg hx] at h
        by_cases hy : x = 0
        · rw [if_pos hy] at h
          cases h
          rw [h1, hy]; rfl
        · rw [if_neg hy] at h; cases h
  cut := by
    intro a m _ hm
    have h : numG ((bitP a).take m) = .error 10 := num.cut (bit_ok a) hm
    rw [bitG, h]
  errs := by
    intro b e h
    unfold bitG at h
    cases hn : numG b with
    | error e1 => rw [hn] at h; cases h; exact num.errs hn
    | ok p =>
      obtain ⟨x, r1⟩ := p
      rw [hn] at h
      dsimp only at h
      split at h
      · cases h
      · split at h <;> cases h
        exact .inr rfl
/-- One thing, and another one behind it. -/
def seqG {α β : Type} (c : Cd α) (d : Cd β) (b : B) : Except Nat ((α × β) × B) :=
  match c.get b with
  | .error e => .error e
  | .ok (x, r) => match d.get r with
    | .error e => .error e
    | .ok (y, r) => .ok ((x, y), r)
def seq {α β : Type} (c : Cd α) (d : Cd β) : Cd (α × β) where
  put x := c.put x.1 ++ d.put x.2
  get := seqG c d
  ok x := c.ok x.1 ∧ d.ok x.2
  back := by
    intro a r h
    rw [seqG, List.append_assoc, c.back _ h.1]
    dsimp only
    rw [d.back _ h.2]
  own := by
    intro b r a h
    unfold seqG at h
    cases hc : c.get b with
    | error e => rw [hc] at h; cases h
    | ok p =>
      obtain ⟨x, r1⟩ := p
      rw [hc] at h
      dsimp only at h
      cases hd : d.get r1 with
      | error e => rw [hd] at h; cases h
      | ok q =>
        obtain ⟨y, r2⟩ := q
        rw [hd] at h
        cases h
        obtain ⟨h1, h2⟩ := c.own hc
        obtain ⟨h3, h4⟩ := d.own hd
        exact ⟨by rw [h1, h3, List.append_assoc], h2, h4⟩
  cut := by
    intro a m h hm
    rw [seqG]
    by_cases hl : m < (c.put a.1).length
    · rw [List.take_append_of_le_length (by omega), c.cut h.1 hl]
    · rw [List.take_append, List.take_of_length_le (by omega), c.back _ h.1]
      dsimp only
      rw [List.length_append] at hm
      rw [d.cut h.2 (by omega)]
  errs := by
    intro b e h
    unfold seqG at h
    cases hc : c.get b with
    | error e1 => rw [hc] at h; cases h; exact c.errs hc
    | ok p =>
      obtain ⟨x, r1⟩ := p
      rw [hc] at h
      dsimp only at h
      cases hd : d.get r1 with
      | error e1 => rw [hd] at h; cases h; exact d.errs hd
      | ok q =>
        obtain ⟨y, r2⟩ := q
        rw [hd] at h; cases h
/-- So many things, one behind the other. -/
def manyP {α : Type} (c : Cd α) (l : List α) : B := l.flatMap c.put
theorem manyP_cons {α : Type} (c : Cd α) (a : α) (l : List α) : manyP c (a :: l) = c.put a ++ manyP c l := by simp [manyP]
def manyG {α : Type} (c : Cd α) : Nat → B → Except Nat (List α × B)
  | 0, b => .ok ([], b)
  | k + 1, b => match c.get b with
    | .error e => .error e
    | .ok (x, r) => match manyG c k r with
      | .error e => .error e
      | .ok (l, r) => .ok (x :: l, r)
theorem many_back {α : Type} (c : Cd α) : ∀ (l : List α) (r : B), (∀ a ∈ l, c.ok a) → manyG c l.length (manyP c l ++ r) = .ok (l, r)
  | [], r, _ => rfl
  | a :: l, r, h => by
    rw [List.length_cons, manyG, manyP_cons, List.append_assoc, c.back _ (h a (List.mem_cons_self ..))]
    dsimp only
    rw [many_back c l r fun x hx => h x (List.mem_cons_of_mem _ hx)]
theorem many_own {α : Type} (c : Cd α) : ∀ (k : Nat) {b r : B} {l : List α}, manyG c k b = .ok (l, r) → b = manyP c l ++ r ∧ (∀ a ∈ l, c.ok a) ∧ l.length = k
  | 0, b, r, l, h => by
    cases h
    exact ⟨rfl, fun _ h => absurd h List.not_mem_nil, rfl⟩
  | k + 1, b, r, l, h => by
    unfold manyG at h
    cases hc : c.get b with
    | error e => rw [hc] at h; cases h
    | ok p =>
      obtain ⟨x, r1⟩ := p
      rw [hc] at h
      dsimp only at h
      cases hd : manyG c k r1 with
      | error e => rw [hd] at h; cases h
      | ok q =>
        obtain ⟨y, r2⟩ := q
        rw [hd] at h
        cases h
        obtain ⟨h1, h2⟩ := c.own hc
        obtain ⟨h3, h4, h5⟩ := many_own c k hd
        refine ⟨by rw [h1, h3, manyP_cons, List.append_assoc], ?_, by simp [h5]⟩
        intro a ha
        rcases List.mem_cons.1 ha with rfl | ha
        · exact h2
        · exact h4 a ha
theorem many_cut {α : Type} (c : Cd α) : ∀ (l : List α) (m : Nat), (∀ a ∈ l, c.ok a) → m < (manyP c l).length → manyG c l.length ((manyP c l).take m) = .error 10
  | [], m, _, h => absurd h (by simp [manyP])
  | a :: l, m, h, hm => by
    rw [List.length_cons, manyG, manyP_cons]
    rw [manyP_cons, List.length_append] at hm
    by_cases hl : m < (c.put a).length
    · rw [List.take_append_of_le_length (by omega), c.cut (h a (List.mem_cons_self ..)) hl]
    · rw [List.take_append, List.take_of_length_le (by omega), c.back _ (h a (List.mem_cons_self ..))]
      dsimp only
      rw [many_cut c l _ (fun x hx => h x (List.mem_cons_of_mem _ hx)) (by omega)]
theorem many_errs {α : Type} (c : Cd α) : ∀ (k : Nat) {b : B} {e : Nat}, manyG c k b = .error e → e = 10 ∨ e = 11
  | 0, b, e, h => by cases h
  | k + 1, b, e, h => by
    unfold manyG at h
    cases hc : c.get b with
    | error e1 => rw [hc] at h; cases h; exact c.errs hc
    | ok p =>
      obtain ⟨x, r1⟩ := p
      rw [hc] at h
      dsimp only at h
      cases hd : manyG c k r1 with
      | error e1 => rw [hd] at h; cases h; exact many_errs c k hd
      | ok q =>
        obtain ⟨y, r2⟩ := q
        rw [hd] at h; cases h
/-- One thing more. -/
theorem many_snoc {α : Type} (c : Cd α) : ∀ (k : Nat) (b : B), manyG c (k + 1) b = (match manyG c k b with
    | .error e => .error e
    | .ok (l, r) => match c.get r with
      | .error e => .error e
      | .ok (x, r) => .ok (l ++ [x], r))
  | 0, b => by
    rw [manyG]
    simp only [manyG]
    cases c.get b with
    | error e => rfl
    | ok p => rfl
  | k + 1, b => by
    rw [manyG]
    cases hc : c.get b with
    | error e => rw [manyG, hc]
    | ok p =>
      obtain ⟨x, r1⟩ := p
      dsimp only
      rw [many_snoc c k r1, manyG, hc]
      dsimp only
      cases hd : manyG c k r1 with
      | error e => rfl
      | ok q =>
        obtain ⟨l, r2⟩ := q
        dsimp only
        cases c.get r2 with
        | error e => rfl
        | ok p => rfl
/-- A row: how many things, and these. -/
def rowG {α : Type} (c : Cd α) (b : B) : Except Nat (List α × B) :=
  match numG b with
  | .error e => .error e
  | .ok (n, r) => if n < 0 ∨ 100000 < n then .error 11 else manyG c n.toNat r
def rowP {α : Type} (c : Cd α) (l : List α) : B := numP l.length ++ manyP c l
theorem len_ok {α : Type} {l : List α} (h : l.length ≤ 100000) : I64 l.length := by constructor <;> omega
def row {α : Type} (c : Cd α) : Cd (List α) where
  put := rowP c
  get := rowG c
  ok l := l.length ≤ 100000 ∧ ∀ a ∈ l, c.ok a
  back := by
    intro a r h
    rw [rowG, rowP, List.append_assoc, show numG (numP a.length ++ (manyP c a ++ r)) = .ok (_, _) from num.back _ (len_ok h.1)]
    dsimp only
    rw [if_neg (by omega)]
    exact many_back c a r h.2
  own := by
    intro b r a h
    unfold rowG at h
    cases hn : numG b with
    | error e => rw [hn] at h; cases h
    | ok p =>
      obtain ⟨n, r1⟩ := p
      rw [hn] at h
      dsimp only at h
      by_cases hb : n < 0 ∨ 100000 < n
      · rw [if_pos hb] at h; cases h
      · rw [if_neg hb] at h
        obtain ⟨h1, h2, h3⟩ := many_own c _ h
        obtain ⟨h4, _⟩ := num.own hn
        refine ⟨?_, by omega, h2⟩
        rw [h4, rowP, h3, h1, List.append_assoc, show ((n.toNat : Nat) : Int) = n by omega]
        rfl
  cut := by
    intro a m h hm
    rw [rowG, rowP]
    by_cases hl : m < (numP a.length).length
    · rw [List.take_append_of_le_length (by omega), show numG ((numP a.length).take m) = .error 10 from num.cut (len_ok h.1) hl]
    · rw [List.take_append, List.take_of_length_le (by omega), show numG (numP a.length ++ _) = .ok (_, _) from num.back _ (len_ok h.1)]
      dsimp only
      rw [if_neg (by omega)]
      rw [rowP, List.length_append] at hm
      exact many_cut c a _ h.2 (by omega)
  errs := by
    intro b e h
    unfold rowG at h
    cases hn : numG b with
    | error e1 => rw [hn] at h; cases h; exact num.errs hn
    | ok p =>
      obtain ⟨n, r1⟩ := p
      rw [hn] at h
      dsimp only at h
      by_cases hb : n < 0 ∨ 100000 < n
      · rw [if_pos hb] at h; cases h; exact .inr rfl
      · rw [if_neg hb] at h; exact many_errs c _ h
/-- The same things under another name. -/
def isoG {α β : Type} (c : Cd α) (f : α → β) (b : B) : Except Nat (β × B) :=
  match c.get b with
  | .error e => .error e
  | .ok (x, r) => .ok (f x, r)
def iso {α β : Type} (c : Cd α) (f : α → β) (g : β → α) (h1 : ∀ a, g (f a) = a) (h2 : ∀ b, f (g b) = b) : Cd β where
  put x := c.put (g x)
  get := isoG c f
  ok x := c.ok (g x)
  back := by
    intro a r h
    rw [isoG, c.back r h]
    dsimp only
    rw [h2]
  own := by
    intro b r a h
    unfold isoG at h
    cases hc : c.get b with
    | error e => rw [hc] at h; cases h
    | ok p =>
      obtain ⟨x, r1⟩ := p
      rw [hc] at h
      cases h
      rw [h1]
      exact c.own hc
  cut := by
    intro a m h hm
    rw [isoG, c.cut h hm]
  errs := by
    intro b e h
    unfold isoG at h
    cases hc : c.get b with
    | error e1 => rw [hc] at h; cases h; exact c.errs hc
    | ok p => rw [hc] at h; cases h
/-- All of the bytes. -/
def whole {α : Type} (c : Cd α) (b : B) : Except Nat α :=
  match c.get b with
  | .error e => .error e
  | .ok (x, r) => if r = [] then .ok x else .error 14
theorem whole_put {α : Type} (c : Cd α) {a : α} (h : c.ok a) : whole c (c.put a) = .ok a := by
  have h1 := c.back [] h
  rw [List.append_nil] at h1
  rw [whole, h1]
  exact if_pos rfl
theorem whole_more {α : Type} (c : Cd α) {a : α} {r : B} (h : c.ok a) (hr : r ≠ []) : whole c (c.put a ++ r) = .error 14 := by
  rw [whole, c.back r h]
  exact if_neg hr
theorem whole_cut {α : Type} (c : Cd α) {a : α} {m : Nat} (h : c.ok a) (hm : m < (c.put a).length) : whole c ((c.put a).take m) = .error 10 := by
  rw [whole, c.cut h hm]
theorem whole_own {α : Type} (c : Cd α) {a : α} {b : B} (h : whole c b = .ok a) : b = c.put a ∧ c.ok a := by
  unfold whole at h
  cases hc : c.get b with
  | error e => rw [hc] at h; cases h
  | ok p =>
    obtain ⟨x, r⟩ := p
    rw [hc] at h
    dsimp only at h
    by_cases hr : r = []
    · rw [if_pos hr] at h
      cases h
      rw [hr] at hc
      obtain ⟨h1, h2⟩ := c.own hc
      exact ⟨by rw [h1, List.append_nil], h2⟩
    · rw [if_neg hr] at h; cases h
theorem whole_errs {α : Type} (c : Cd α) {b : B} {e : Nat} (h : whole c b = .error e) : e = 10 ∨ e = 11 ∨ e = 14 := by
  unfold whole at h
  cases hc : c.get b with
  | error e1 => rw [hc] at h; cases h; rcases c.errs hc with h | h <;> simp [h]
  | ok p =>
    obtain ⟨x, r⟩ := p
    rw [hc] at h
    dsimp only at h
    by_cases hr : r = []
    · rw [if_pos hr] at h; cases h
    · rw [if_neg hr] at h; cases h; simp
/-- Different things have different bytes. -/
theorem put_inj {α : Type} (c : Cd α) {a b : α} (ha : c.ok a) (hb : c.ok b) (h : c.put a = c.put b) : a = b := by
  have h1 := whole_put c ha
  rw [h, whole_put c hb] at h1
  cases h1
  rfl
end Ks
end Go.Proofs.Yteljmlodbnfhbaa
