/- THE CHAPTER'S ENV AS MATHEMATICS: variables that rise, arguments, flags. No premises. -/
import Derived.Sort.Walk0
import Derived.Lib.Hide
import Derived.Lib.ItoaNum
namespace Go.Proofs.YtmijploffdoenaaDoor
namespace En
abbrev B := List UInt8
/-- Variables: names and values. -/
abbrev Vs := List (B × B)
/-- Names rise. -/
def Rises (l : Vs) : Prop := (l.map Prod.fst).Pairwise (· < ·)
/-- A variable's value, if it is there. -/
def var : Vs → B → Option B
  | [], _ => none
  | p :: l, n => if p.1 = n then some p.2 else var l n
def unset (l : Vs) (n : B) : Vs := l.filter fun p => !decide (p.1 = n)
/-- A variable put in at its place. -/
def put : Vs → B → B → Vs
  | [], n, v => [(n, v)]
  | p :: l, n, v => if p.1 < n then p :: put l n v else (n, v) :: p :: l
def setV (l : Vs) (n v : B) : Vs := put (unset l n) n v
theorem lt_irrefl (a : B) : ¬ a < a := List.lt_irrefl a
theorem lt_trans {a b c : B} (h1 : a < b) (h2 : b < c) : a < c := List.lt_trans h1 h2
theorem lt_ne {a b : B} (h : a < b) : a ≠ b := fun e => by subst e; exact lt_irrefl _ h
theorem lt_of {a b : B} (h : ¬ a < b) (hn : a ≠ b) : b < a := by
  by_cases h1 : b < a
  · exact h1
  · exact absurd (List.le_antisymm (show a ≤ b from h1) (show b ≤ a from h)) hn
theorem Rises.tail {p : B × B} {l : Vs} (h : Rises (p :: l)) : Rises l := (List.pairwise_cons.1 h).2
theorem Rises.head {p : B × B} {l : Vs} (h : Rises (p :: l)) : ∀ q ∈ l, p.1 < q.1 := fun q hq => (List.pairwise_cons.1 h).1 q.1 (List.mem_map.2 ⟨q, hq, rfl⟩)
theorem Rises.cons {p : B × B} {l : Vs} (h : Rises l) (h2 : ∀ q ∈ l, p.1 < q.1) : Rises (p :: l) := List.pairwise_cons.2 ⟨fun a ha => by obtain ⟨q, hq, rfl⟩ := List.mem_map.1 ha; exact h2 q hq, h⟩
theorem Rises.nil : Rises [] := List.Pairwise.nil
theorem Rises.filter {l : Vs} (h : Rises l) (f : B × B → Bool) : Rises (l.filter f) := by
  unfold Rises at *
  exact List.Pairwise.sublist (List.Sublist.map _ (List.filter_sublist)) h
theorem Rises.unset {l : Vs} (h : Rises l) (n : B) : Rises (unset l n) := h.filter _
theorem mem_put {l : Vs} {n v : B} {q : B × B} : q ∈ put l n v ↔ q = (n, v) ∨ q ∈ l := by
  induction l with
  | nil => simp [put]
  | cons p l ih =>
    unfold put
    split
    · rw [List.mem_cons, ih, List.mem_cons]
      constructor
      · rintro (h | h | h)
        · exact .inr (.inl h)
        · exact .inl h
        · exact .inr (.inr h)
      · rintro (h | h | h)
        · exact .inr (.inl h)
        · exact .inl h
        · exact .inr (.inr h)
    · rw [List.mem_cons]
theorem mem_unset {l : Vs} {n : B} {q : B × B} : q ∈ unset l n ↔ q ∈ l ∧ q.1 ≠ n := by
  unfold unset
  rw [List.mem_filter]
  simp
theorem Rises.put {l : Vs} {n v : B} (h : Rises l) (hn : ∀ q ∈ l, q.1 ≠ n) : Rises (put l n v) := by
  induction l with
  | nil => exact Rises.cons .nil (by simp)
  | cons p l ih =>
    unfold En.put
    split
    · rename_i hp
      refine Rises.cons (ih h.tail fun q hq => hn q (List.mem_cons_of_mem _ hq)) fun q hq => ?_
      rcases mem_put.1 hq with rfl | hq
      · exact hp
      · exact h.head q hq
    · rename_i hp
      have h1 := lt_of hp (hn p (List.mem_cons_self ..))
      refine Rises.cons h fun q hq => ?_
      rcases List.mem_cons.1 hq with rfl | hq
      · exact h1
      · exact lt_trans h1 (h.head q hq)
theorem Rises.setV {l : Vs} (h : Rises l) (n v : B) : Rises (setV l n v) := (h.unset n).put fun _ hq => (mem_unset.1 hq).2
theorem var_none {l : Vs} {n : B} : var l n = none ↔ ∀ q ∈ l, q.1 ≠ n := by
  induction l with
  | nil => simp [var]
  | cons p l ih =>
    unfold var
    split
    · rename_i h; simp [h]
    · rename_i h; rw [ih]; simp [h]
theorem var_unset_self (l : Vs) (n : B) : var (unset l n) n = none := var_none.2 fun _ hq => (mem_unset.1 hq).2
theorem var_unset (l : Vs) {n m : B} (h : m ≠ n) : var (unset l n) m = var l m := by
  induction l with
  | nil => rfl
  | cons p l ih =>
    unfold unset at ih ⊢
    rw [List.filter_cons]
    by_cases hp : p.1 = n
    · have hp2 : p.1 ≠ m := fun e => h (e.symm.trans hp)
      simp only [hp, decide_true, Bool.not_true, Bool.false_eq_true, if_false, ih]
      rw [var, if_neg hp2]
    · simp only [hp, decide_false, Bool.not_false, if_true, var, ih]
theorem var_put_self (l : Vs) (n v : B) (hn : ∀ q ∈ l, q.1 ≠ n) : var (put l n v) n = some v := by
  induction l with
  | nil => simp [put, var]
  | cons p l ih =>
    unfold put
    split
    · rw [var, if_neg (hn p (List.mem_cons_self ..))]; exact ih fun q hq => hn q (List.mem_cons_of_mem _ hq)
    · rw [var, if_pos rfl]
theorem var_put (l : Vs) {n m : B} (v : B) (h : m ≠ n) : var (put l n v) m = var l m := by
  induction l with
  | nil => simp [put, var, Ne.symm h]
  | cons p l ih =>
    unfold put
    split
    · rw [var, ih, var]
    · rw [var, if_neg (Ne.symm h)]
theorem var_set_self (l : Vs) (n v : B) : var (setV l n v) n = some v := var_put_self _ _ _ fun _ hq => (mem_unset.1 hq).2
theorem var_set (l : Vs) {n m : B} (v : B) (h : m ≠ n) : var (setV l n v) m = var l m := (var_put _ v h).trans (var_unset l h)
theorem put_len (l : Vs) (n v : B) : (put l n v).length = l.length + 1 := by
  induction l with
  | nil => rfl
  | cons p l ih => unfold put; split <;> simp [ih]
theorem unset_of {l : Vs} {n : B} (h : ∀ q ∈ l, q.1 ≠ n) : unset l n = l := by
  unfold unset
  rw [List.filter_eq_self]
  intro q hq
  simp [h q hq]
theorem unset_put {l : Vs} {n v : B} (h : ∀ q ∈ l, q.1 ≠ n) : unset (put l n v) n = l := by
  induction l with
  | nil => simp [put, unset]
  | cons p l ih =>
    have h1 := h p (List.mem_cons_self ..)
    have h2 : ∀ q ∈ l, q.1 ≠ n := fun q hq => h q (List.mem_cons_of_mem _ hq)
    unfold put
    split
    · have := ih h2
      unfold unset at this ⊢
      rw [List.filter_cons, this]
      simp [h1]
    · have := unset_of (l := p :: l) h
      unfold unset at this ⊢
      rw [List.filter_cons, this]
      simp
theorem unset_set (l : Vs) (n v : B) : unset (setV l n v) n = unset l n := unset_put fun _ hq => (mem_unset.1 hq).2
theorem set_len (l : Vs) (n v : B) : (unset (setV l n v) n).length + 1 = (setV l n v).length := by rw [unset_set, setV, put_len]
/-- A variable set to what it is: nothing changes. -/
theorem put_at {a b : Vs} {n v : B} (ha : ∀ q ∈ a, q.1 < n) (hb : ∀ q ∈ b, n < q.1) : put (a ++ b) n v = a ++ (n, v) :: b := by
  induction a with
  | nil =>
    cases b with
    | nil => rfl
    | cons p b =>
      have h := hb p (List.mem_cons_self ..)
      have h2 : ¬ p.1 < n := fun h3 => lt_irrefl _ (lt_trans h h3)
      simp [put, h2]
  | cons p a ih =>
    have h := ha p (List.mem_cons_self ..)
    have := ih fun q hq => ha q (List.mem_cons_of_mem _ hq)
    simp [put, h, this]
/-- The place of a name among those that rise: what is below stands ahead of it. -/
theorem rises_split {l : Vs} (h : Rises l) (n : B) : ∃ a m b, l = a ++ m ++ b ∧ (∀ q ∈ a, q.1 < n) ∧ (∀ q ∈ b, n < q.1) ∧ (m = [] ∨ ∃ v, m = [(n, v)]) := by
  induction l with
  | nil => exact ⟨[], [], [], rfl, by simp, by simp, .inl rfl⟩
  | cons p l ih =>
    obtain ⟨a, m, b, e, h1, h2, h3⟩ := ih h.tail
    by_cases hp : p.1 < n
    · exact ⟨p :: a, m, b, by simp [e], fun q hq => (List.mem_cons.1 hq).elim (fun e => e ▸ hp) (h1 q), h2, h3⟩
    · by_cases he : p.1 = n
      · refine ⟨[], [(n, p.2)], l, by simp [← he], by simp, fun q hq => he ▸ h.head q hq, .inr ⟨_, rfl⟩⟩
      · have hlt := lt_of hp he
        exact ⟨[], [], p :: l, by simp, by simp, fun q hq => (List.mem_cons.1 hq).elim (fun e => e ▸ hlt) fun hq => lt_trans hlt (h.head q hq), .inl rfl⟩
theorem unset_split {a m b : Vs} {n : B} (ha : ∀ q ∈ a, q.1 < n) (hb : ∀ q ∈ b, n < q.1) (hm : m = [] ∨ ∃ v, m = [(n, v)]) : unset (a ++ m ++ b) n = a ++ b := by
  have h1 : unset a n = a := unset_of fun q hq => lt_ne (ha q hq)
  have h2 : unset b n = b := unset_of fun q hq => (lt_ne (hb q hq)).symm
  have h3 : unset m n = [] := by rcases hm with rfl | ⟨v, rfl⟩ <;> simp [unset]
  unfold unset at *
  rw [List.filter_append, List.filter_append, h1, h2, h3, List.append_nil]
theorem set_split {a m b : Vs} {n : B} (v : B) (ha : ∀ q ∈ a, q.1 < n) (hb : ∀ q ∈ b, n < q.1) (hm : m = [] ∨ ∃ v, m = [(n, v)]) : setV (a ++ m ++ b) n v = a ++ (n, v) :: b := by
  unfold setV
  rw [unset_split ha hb hm, put_at ha hb]
end En
end Go.Proofs.YtmijploffdoenaaDoor
/- NUMBERS AS THEY ARE WRITTEN, read back. No premises. -/
namespace Go.Proofs.YtmijploffdoenaaDoor
namespace En
def digB (c : UInt8) : Bool := decide (48 ≤ c) && decide (c ≤ 57)
/-- Digits, without a 0 ahead. -/
def numB (s : List UInt8) : Bool := match s with
  | [] => false
  | c :: _ => !decide (c = 48) && s.all digB
def val (s : List UInt8) : Nat := s.foldl (fun v c => v * 10 + (c.toNat - 48)) 0
theorem val_snoc (s : List UInt8) (c : UInt8) : val (s ++ [c]) = val s * 10 + (c.toNat - 48) := by unfold val; rw [List.foldl_append]; rfl
theorem digB_nat {c : UInt8} : digB c = true ↔ 48 ≤ c.toNat ∧ c.toNat ≤ 57 := by
  unfold digB
  rw [Bool.and_eq_true, decide_eq_true_iff, decide_eq_true_iff, UInt8.le_iff_toNat_le, UInt8.le_iff_toNat_le]
  rfl
theorem byte_dig {c : UInt8} (h : digB c = true) : UInt8.ofNat (48 + (c.toNat - 48)) = c := by
  obtain ⟨h1, h2⟩ := digB_nat.1 h
  rw [show 48 + (c.toNat - 48) = c.toNat by omega]
  exact UInt8.ofNat_toNat
theorem dig_byte {d : Nat} (h : d < 10) : digB (UInt8.ofNat (48 + d)) = true ∧ (UInt8.ofNat (48 + d)).toNat - 48 = d := by
  have e : (UInt8.ofNat (48 + d)).toNat = 48 + d := by rw [UInt8.toNat_ofNat']; omega
  exact ⟨digB_nat.2 (by omega), by omega⟩
theorem numB_snoc {s : List UInt8} {c : UInt8} (hs : s ≠ []) : numB (s ++ [c]) = (numB s && digB c) := by
  cases s with
  | nil => exact absurd rfl hs
  | cons a s =>
    show (!decide (a = 48) && ((a :: s) ++ [c]).all digB) = ((!decide (a = 48) && (a :: s).all digB) && digB c)
    rw [List.all_append, Bool.and_assoc]
    simp
theorem dec_small' {n : Nat} (h : n < 10) : Lib.decDigits n = [UInt8.ofNat (48 + n)] := by rw [Lib.decDigits, dif_pos h]
theorem dec_big' {n : Nat} (h : ¬ n < 10) : Lib.decDigits n = Lib.decDigits (n / 10) ++ [UInt8.ofNat (48 + n % 10)] := by rw [Lib.decDigits, dif_neg h]
theorem val_dec (n : Nat) : val (Lib.decDigits n) = n := by
  induction n using Nat.strongRecOn with
  | ind n ih =>
    by_cases h : n < 10
    · rw [dec_small' h]
      show 0 * 10 + ((UInt8.ofNat (48 + n)).toNat - 48) = n
      have := (dig_byte h).2
      omega
    · rw [dec_big' h, val_snoc, ih (n / 10) (by omega), (dig_byte (d := n % 10) (by omega)).2]
      omega
theorem dec_ne (n : Nat) : Lib.decDigits n ≠ [] := by
  by_cases h : n < 10
  · rw [dec_small' h]; simp
  · rw [dec_big' h]; simp
theorem dec_num (n : Nat) (h0 : 0 < n) : numB (Lib.decDigits n) = true := by
  induction n using Nat.strongRecOn with
  | ind n ih =>
    by_cases h : n < 10
    · rw [dec_small' h]
      obtain ⟨h1, h2⟩ := dig_byte h
      have h3 : ¬ (UInt8.ofNat (48 + n) = 48) := fun e => by rw [e] at h2; simp at h2; omega
      show (!decide (UInt8.ofNat (48 + n) = 48) && [UInt8.ofNat (48 + n)].all digB) = true
      rw [decide_eq_false h3, List.all_cons, h1]
      rfl
    · rw [dec_big' h, numB_snoc (dec_ne _), ih (n / 10) (by omega) (by omega), (dig_byte (d := n % 10) (by omega)).1]
      rfl
theorem snoc_of {α : Type} : ∀ (s : List α), s ≠ [] → ∃ a c, s = a ++ [c] := fun s h => ⟨s.dropLast, s.getLast h, (List.dropLast_concat_getLast h).symm⟩
theorem val_pos (n : Nat) : ∀ s : List UInt8, s.length = n → numB s = true → 0 < val s ∧ Lib.decDigits (val s) = s := by
  induction n with
  | zero => intro s hs h; rw [List.length_eq_zero_iff.1 hs] at h; cases h
  | succ n ih =>
    intro s hs h
    obtain ⟨a, c, rfl⟩ := snoc_of s (by intro e; rw [e] at hs; cases hs)
    have hl : a.length = n := by rw [List.length_append] at hs; simpa using hs
    by_cases ha : a = []
    · subst ha
      simp only [List.nil_append, numB, List.all_cons, List.all_nil, Bool.and_true, Bool.and_eq_true, Bool.not_eq_true', decide_eq_false_iff_not] at h
      obtain ⟨h1, h2⟩ := h
      have h3 := digB_nat.1 h2
      have hv : val ([] ++ [c]) = c.toNat - 48 := by rw [val_snoc]; show 0 * 10 + _ = _; omega
      have h4 : c.toNat ≠ 48 := fun e => h1 (UInt8.toNat_inj.1 e)
      rw [hv]
      refine ⟨by omega, ?_⟩
      rw [dec_small' (by omega), byte_dig h2]
      rfl
    · rw [numB_snoc ha, Bool.and_eq_true] at h
      obtain ⟨h1, h2⟩ := ih a hl h.1
      have h3 := digB_nat.1 h.2
      have hv := val_snoc a c
      refine ⟨by omega, ?_⟩
      rw [hv, dec_big' (by omega), show (val a * 10 + (c.toNat - 48)) / 10 = val a by omega, show (val a * 10 + (c.toNat - 48)) % 10 = c.toNat - 48 by omega, h2, byte_dig h.2]
theorem dec_val {s : List UInt8} (h : numB s = true) : Lib.decDigits (val s) = s := (val_pos _ s rfl h).2
theorem dec_iff {n : Nat} (h0 : 0 < n) {s : List UInt8} : Lib.decDigits n = s ↔ numB s = true ∧ val s = n := by
  constructor
  · rintro rfl
    exact ⟨dec_num n h0, val_dec n⟩
  · rintro ⟨h1, h2⟩
    rw [← h2, dec_val h1]
/-- More digits are more. -/
theorem val_ge (n : Nat) : ∀ s : List UInt8, s.length = n + 1 → numB s = true → 10 ^ n ≤ val s := by
  induction n with
  | zero => intro s hs h; have := (val_pos _ s rfl h).1; omega
  | succ n ih =>
    intro s hs h
    obtain ⟨a, c, rfl⟩ := snoc_of s (by intro e; rw [e] at hs; cases hs)
    have hl : a.length = n + 1 := by rw [List.length_append] at hs; simpa using hs
    have ha : a ≠ [] := by intro e; rw [e] at hl; cases hl
    rw [numB_snoc ha, Bool.and_eq_true] at h
    have h1 := ih a hl h.1
    rw [val_snoc, Nat.pow_succ]
    omega
theorem val_lt : ∀ (s : List UInt8), s.all digB = true → val s < 10 ^ s.length := by
  intro s
  suffices ∀ n, ∀ s : List UInt8, s.length = n → s.all digB = true → val s < 10 ^ n from this _ s rfl
  intro n
  induction n with
  | zero => intro s hs _; rw [List.length_eq_zero_iff.1 hs]; decide
  | succ n ih =>
    intro s hs h
    obtain ⟨a, c, rfl⟩ := snoc_of s (by intro e; rw [e] at hs; cases hs)
    have hl : a.length = n := by rw [List.length_append] at hs; simpa using hs
    rw [List.all_append, Bool.and_eq_true] at h
    have h1 := ih a hl h.1
    have h2 : digB c = true := by simpa using h.2
    have h3 := digB_nat.1 h2
    rw [val_snoc, Nat.pow_succ]
    omega
/-- The argument that a text of digits names. -/
def arg (args : List (List UInt8)) (s : List UInt8) : Option (List UInt8) := if numB s = true then args[val s - 1]? else none
/-- Found by writing each number. -/
theorem arg_some {args : List (List UInt8)} {s : List UInt8} {i : Nat} (h : i < args.length) (hd : Lib.decDigits (i + 1) = s) : arg args s = some args[i] := by
  obtain ⟨h1, h2⟩ := (dec_iff (by omega)).1 hd
  unfold arg
  rw [if_pos h1, h2, Nat.add_sub_cancel]
  exact List.getElem?_eq_getElem h
theorem arg_none {args : List (List UInt8)} {s : List UInt8} (h : ∀ i, i < args.length → Lib.decDigits (i + 1) ≠ s) : arg args s = none := by
  unfold arg
  split
  · rename_i h1
    have hp := (val_pos _ s rfl h1).1
    by_cases hv : val s - 1 < args.length
    · have := h (val s - 1) hv
      rw [Nat.sub_add_cancel hp, dec_val h1] at this
      exact absurd rfl this
    · exact List.getElem?_eq_none (by omega)
  · rfl
end En
end Go.Proofs.YtmijploffdoenaaDoor
/- THE CHAPTER'S ENV: what there is, set, unset, told. No premises. -/
namespace Go.Proofs.YtmijploffdoenaaDoor
namespace En
structure E where
  vars : Vs
  args : List B
  status : Nat
  flags : B
def IFS : B := [73, 70, 83]
def ifs (l : Vs) : B := (var l IFS).getD [32, 9, 10]
/-- Texts with one between. -/
def joined (sep : B) : List B → B
  | [] => []
  | x :: l => x ++ (l.map (sep ++ ·)).flatten
theorem joined_snoc (sep : B) (l : List B) (x : B) : joined sep (l ++ [x]) = joined sep l ++ ((if l = [] then [] else sep) ++ x) := by
  cases l with
  | nil => simp [joined]
  | cons y l => simp [joined]
theorem joined_take (sep : B) {l : List B} {i : Nat} (h : i < l.length) : joined sep (l.take (i + 1)) = joined sep (l.take i) ++ ((if i = 0 then [] else sep) ++ l[i]) := by
  rw [List.take_succ_eq_append_getElem h, joined_snoc]
  by_cases hi : i = 0
  · subst hi; simp
  · have h1 : l.take i ≠ [] := by
      intro e
      have := congrArg List.length e
      rw [List.length_take, List.length_nil] at this
      omega
    rw [if_neg h1, if_neg hi]
theorem joined_len (sep : B) (n : Nat) : ∀ (l : List B), (∀ x ∈ l, x.length ≤ n) → (joined sep l).length ≤ l.length * (n + sep.length)
  | [], _ => by simp [joined]
  | x :: l, h => by
    have h1 := h x (List.mem_cons_self ..)
    have h2 : ∀ (l : List B), (∀ x ∈ l, x.length ≤ n) → ((l.map (sep ++ ·)).flatten).length ≤ l.length * (n + sep.length) := by
      intro l
      induction l with
      | nil => intro _; simp
      | cons y l ih =>
        intro h
        have h3 := h y (List.mem_cons_self ..)
        have h4 := ih fun z hz => h z (List.mem_cons_of_mem _ hz)
        simp only [List.map_cons, List.flatten_cons, List.length_append, List.length_cons, Nat.add_mul, Nat.one_mul] at h4 ⊢
        omega
    have h5 := h2 l fun z hz => h z (List.mem_cons_of_mem _ hz)
    simp only [joined, List.length_append, List.length_cons, Nat.add_mul, Nat.one_mul] at h5 ⊢
    omega
def told (o : Option B) : B × Bool := match o with
  | none => ([], false)
  | some v => (v, true)
/-- A parameter's value; 'nm' tells what is a name. -/
def get (nm : B → Bool) (e : E) (s : B) : B × Bool :=
  if nm s = true then told (var e.vars s)
  else if s = [48] then ([115, 104], true)
  else if s = [63] then (Lib.decDigits e.status, true)
  else if s = [35] then (Lib.decDigits e.args.length, true)
  else if s = [45] then (e.flags, true)
  else if s = [64] ∨ s = [42] then (joined ((ifs e.vars).take 1) e.args, !e.args.isEmpty)
  else told (arg e.args s)
def set (nm : B → Bool) (e : E) (n v : B) : E := if nm n = true then { e with vars := setV e.vars n v } else e
def unsetE (e : E) (n : B) : E := { e with vars := unset e.vars n }
def efux : B := [101, 102, 117, 120]
/-- Flags, with one or without it. -/
def flag (f : B) (c : UInt8) (on : Bool) : B := efux.filter fun x => if x = c then on else f.contains x
def FlagsOk (f : B) : Prop := f = efux.filter fun x => f.contains x
theorem FlagsOk.nil : FlagsOk [] := by unfold FlagsOk efux; decide
theorem has_filter (g : UInt8 → Bool) (x : UInt8) : (efux.filter g).contains x = (efux.contains x && g x) := by
  rw [Bool.eq_iff_iff, Bool.and_eq_true, List.contains_iff_mem, List.contains_iff_mem, List.mem_filter]
theorem filter_same {g h : UInt8 → Bool} (e : ∀ x ∈ efux, g x = h x) : efux.filter g = efux.filter h := List.filter_congr e
theorem FlagsOk.flag (f : B) (c : UInt8) (on : Bool) : FlagsOk (flag f c on) := by
  unfold FlagsOk En.flag
  refine filter_same fun x hx => ?_
  rw [has_filter, List.contains_iff_mem.2 hx, Bool.true_and]
theorem flag_other {f : B} (h : FlagsOk f) {c : UInt8} (hc : c ∉ efux) (on : Bool) : flag f c on = f := by
  conv => rhs; rw [h]
  unfold flag
  refine filter_same fun x hx => ?_
  rw [if_neg (fun e : x = c => hc (e ▸ hx))]
theorem has_flag {f : B} {c : UInt8} (hc : c ∈ efux) (on : Bool) (x : UInt8) : (flag f c on).contains x = if x = c then on else efux.contains x && f.contains x := by
  unfold flag
  rw [has_filter]
  by_cases hx : x = c
  · subst hx
    rw [if_pos rfl, if_pos rfl, List.contains_iff_mem.2 hc, Bool.true_and]
  · rw [if_neg hx, if_neg hx]
/-- What was set is got. -/
theorem get_set_self {nm : B → Bool} {e : E} {n : B} (v : B) (h : nm n = true) : get nm (set nm e n v) n = (v, true) := by
  unfold get set
  rw [if_pos h, if_pos h]
  show told (var (setV e.vars n v) n) = _
  rw [var_set_self]
  rfl
theorem get_unset_self {nm : B → Bool} {e : E} {n : B} (h : nm n = true) : get nm (unsetE e n) n = ([], false) := by
  unfold get unsetE
  rw [if_pos h]
  show told (var (unset e.vars n) n) = _
  rw [var_unset_self]
  rfl
theorem ifs_set {l : Vs} {n : B} (v : B) (h : n ≠ IFS) : ifs (setV l n v) = ifs l := by unfold ifs; rw [var_set _ _ (Ne.symm h)]
/-- All others are as they were. -/
theorem get_set {nm : B → Bool} {e : E} {n m : B} (v : B) (h : n ≠ m) (hi : n ≠ IFS) : get nm (set nm e n v) m = get nm e m := by
  unfold set
  split
  · unfold get
    show (if nm m = true then told (var (setV e.vars n v) m) else _) = _
    rw [var_set _ _ (Ne.symm h)]
    show (if nm m = true then _ else if m = [48] then _ else if m = [63] then _ else if m = [35] then _ else if m = [45] then _ else if m = [64] ∨ m = [42] then (joined ((ifs (setV e.vars n v)).take 1) e.args, !e.args.isEmpty) else _) = _
    rw [ifs_set _ hi]
  · rfl
theorem put_index {n v : B} : ∀ {l : Vs} {k : Nat}, k ≤ l.length → (∀ j (h : j < l.length), j < k → l[j].1 < n) → (∀ h : k < l.length, ¬ l[k].1 < n) → put l n v = l.take k ++ (n, v) :: l.drop k
  | [], k, hk, _, _ => by simp at hk; subst hk; rfl
  | p :: l, 0, _, _, h2 => by
    have := h2 (by simp)
    simp only [List.getElem_cons_zero] at this
    rw [put, if_neg this]
    rfl
  | p :: l, k + 1, hk, h1, h2 => by
    have h3 := h1 0 (by simp) (by omega)
    simp only [List.getElem_cons_zero] at h3
    rw [put, if_pos h3, put_index (l := l) (k := k) (by simpa using hk) (fun j h hj => h1 (j + 1) (Nat.succ_lt_succ h) (by omega)) (fun h => h2 (Nat.succ_lt_succ h))]
    rfl
theorem unset_take {l : Vs} {n : B} {k : Nat} (h : k < l.length) : unset (l.take (k + 1)) n = unset (l.take k) n ++ (if l[k].1 = n then [] else [l[k]]) := by
  unfold unset
  rw [List.take_succ_eq_append_getElem h, List.filter_append]
  by_cases e : l[k].1 = n <;> simp [e]
/-- A variable's place, told by going through. -/
theorem var_at {l : Vs} {n : B} {k : Nat} (h : k < l.length) (h1 : ∀ j (h : j < l.length), j < k → l[j].1 ≠ n) (h2 : l[k].1 = n) : var l n = some l[k].2 := by
  induction l generalizing k with
  | nil => cases h
  | cons p l ih =>
    cases k with
    | zero => rw [var, if_pos (show p.1 = n from h2)]; rfl
    | succ k =>
      have h3 := h1 0 (by simp) (by omega)
      simp only [List.getElem_cons_zero] at h3
      rw [var, if_neg h3, ih (k := k) (by simpa using h) (fun j hj hk => h1 (j + 1) (Nat.succ_lt_succ hj) (by omega)) h2]
      rfl
theorem flag_take (f : B) (c : UInt8) (on : Bool) {k : Nat} (h : k < efux.length) : ((efux.take (k + 1)).filter fun x => if x = c then on else f.contains x) = ((efux.take k).filter fun x => if x = c then on else f.contains x) ++ (if (if efux[k] = c then on else f.contains efux[k]) = true then [efux[k]] else []) := by
  rw [List.take_succ_eq_append_getElem h, List.filter_append]
  by_cases e : (if efux[k] = c then on else f.contains efux[k]) = true
  · rw [if_pos e, List.filter_cons, if_pos e]; rfl
  · rw [if_neg e, List.filter_cons, if_neg e]; rfl
end En
end Go.Proofs.YtmijploffdoenaaDoor
