/- Requests and answers as bytes, as plain mathematics: what is put is read, cut it is short, longer it is left, and what is read is those bytes. No premises. -/
import Derived.Test.YtbgojfgapbcanaaDoorRm
import Derived.Tactics
namespace Go.Proofs.YtbgojfgapbcanaaDoor
theorem num_zero {b : List UInt8} {e : Nat} (h : (numR b e).2.2 = 0) : e = 0 := by
  by_cases h0 : e = 0
  · exact h0
  · rw [num_err b h0] at h; exact h
theorem text_zero {b : List UInt8} {e : Nat} (h : (textR b e).2.2 = 0) : e = 0 := by
  by_cases h0 : e = 0
  · exact h0
  · rw [text_err b h0] at h; exact h
theorem row_zero {k : Nat} {b : List UInt8} {e : Nat} (h : (rowR k b e).2.2 = 0) : e = 0 := by
  by_cases h0 : e = 0
  · exact h0
  · rw [row_err k b h0] at h; exact h
abbrev Asked := Nat × Int × Int × List UInt8 × List (List UInt8)
def noAsked : Asked := (0, 0, 0, [], [])
def zigN (n : Int) : Nat := (if n < 0 then 2 * -(n + 1) + 1 else 2 * n).toNat
def zagZ (x : Nat) : Int := if x % 2 = 1 then -((x / 2 : Nat) : Int) - 1 else ((x / 2 : Nat) : Int)
theorem zag_zigN (x : Int) : zagZ (zigN x) = x := by unfold zagZ zigN; split <;> split <;> omega
theorem zig_zagZ (x : Nat) : zigN (zagZ x) = x := by unfold zagZ zigN; split <;> split <;> omega
theorem zigN_lt {x : Int} (h1 : -9223372036854775808 ≤ x) (h2 : x ≤ 9223372036854775807) : zigN x < 18446744073709551616 := by unfold zigN; split <;> omega
/-- A request's bytes. -/
def askL (k : Nat) (n m : Int) (t : List UInt8) (l : List (List UInt8)) : List UInt8 := numL k ++ (numL (zigN n) ++ (numL (zigN m) ++ (textB t ++ (numL l.length ++ textsB l))))
/-- What bytes are read as: the request, and the error. -/
def askedM (bs : List UInt8) : Asked × Nat :=
  let a := numR bs 0
  let b := numR a.2.1 a.2.2
  let c := numR b.2.1 b.2.2
  let d := textR c.2.1 c.2.2
  let r := numR d.2.1 d.2.2
  if 4096 < r.1 then (noAsked, 11) else
  let q := rowR r.1 r.2.1 r.2.2
  if q.2.2 ≠ 0 then (noAsked, q.2.2) else if ¬ (1 ≤ a.1 ∧ a.1 ≤ 11) then (noAsked, 11) else if q.2.1 ≠ [] then (noAsked, 14) else ((a.1, zagZ b.1, zagZ c.1, d.1, q.1), 0)
section
variable {k : Nat} {n m : Int} {t : List UInt8} {l : List (List UInt8)}
/-- A request that may be, with whatever behind. -/
theorem asked_all (hk : k < 18446744073709551616) (hn : zigN n < 18446744073709551616) (hm : zigN m < 18446744073709551616) (ht : t.length < 18446744073709551616) (hl : l.length ≤ 4096) (hls : ∀ x ∈ l, x.length < 18446744073709551616) (more : List UInt8) :
    askedM (askL k n m t l ++ more) = if ¬ (1 ≤ k ∧ k ≤ 11) then (noAsked, 11) else if more ≠ [] then (noAsked, 14) else ((k, n, m, t, l), 0) := by
  unfold askedM askL
  simp only [List.append_assoc]
  rw [num_all hk]
  dsimp only
  rw [num_all hn]
  dsimp only
  rw [num_all hm]
  dsimp only
  rw [text_all' ht]
  dsimp only
  rw [num_all (by omega)]
  dsimp only
  rw [if_neg (by omega), row_all l more hls]
  dsimp only
  rw [if_neg (by simp), zag_zigN, zag_zigN]
/-- Cut anywhere it is short. -/
theorem asked_cut (hk : k < 18446744073709551616) (hn : zigN n < 18446744073709551616) (hm : zigN m < 18446744073709551616) (ht : t.length < 18446744073709551616) (hl : l.length ≤ 4096) (hls : ∀ x ∈ l, x.length < 18446744073709551616) {j : Nat} (hj : j < (askL k n m t l).length) :
    askedM ((askL k n m t l).take j) = (noAsked, 10) := by
  have fin0 : ∀ (x : Nat) (b : List UInt8), rowR 0 b 10 = ([], b, 10) := fun _ _ => rfl
  unfold askL at hj ⊢
  unfold askedM
  rcases num_cut' hk _ hj with ⟨b, hb⟩ | ⟨j1, hj1, e1⟩
  · simp only [hb, num_err _ (show (10 : Nat) ≠ 0 by omega), text_err _ (show (10 : Nat) ≠ 0 by omega)]
    rfl
  rw [e1]
  simp only [num_all hk]
  rcases num_cut' hn _ hj1 with ⟨b, hb⟩ | ⟨j2, hj2, e2⟩
  · simp only [hb, num_err _ (show (10 : Nat) ≠ 0 by omega), text_err _ (show (10 : Nat) ≠ 0 by omega)]
    rfl
  rw [e2]
  simp only [num_all hn]
  rcases num_cut' hm _ hj2 with ⟨b, hb⟩ | ⟨j3, hj3, e3⟩
  · simp only [hb, num_err _ (show (10 : Nat) ≠ 0 by omega), text_err _ (show (10 : Nat) ≠ 0 by omega)]
    rfl
  rw [e3]
  simp only [num_all hm]
  rcases text_cut' ht _ hj3 with ⟨u, b, hb⟩ | ⟨j4, hj4, e4⟩
  · simp only [hb, num_err _ (show (10 : Nat) ≠ 0 by omega)]
    rfl
  rw [e4]
  simp only [text_all' ht]
  rcases num_cut' (show l.length < 18446744073709551616 by omega) _ hj4 with ⟨b, hb⟩ | ⟨j5, hj5, e5⟩
  · simp only [hb]
    rfl
  rw [e5]
  simp only [num_all (show l.length < 18446744073709551616 by omega)]
  have h6 := row_cut l [] j5 hls (by simpa using hj5)
  rw [List.append_nil] at h6
  rcases h6 with ⟨u, b, hb⟩ | ⟨i, hi, _⟩
  · rw [if_neg (by omega), hb]
    simp
  · simp at hi
/-- What is read is those bytes. -/
theorem asked_own {bs : List UInt8} (h : (askedM bs).2 = 0) : ∃ k n m t l, askedM bs = ((k, n, m, t, l), 0) ∧ bs = askL k n m t l ∧ 1 ≤ k ∧ k ≤ 11 ∧ l.length ≤ 4096 ∧ (-9223372036854775808 ≤ n ∧ n ≤ 9223372036854775807) ∧ (-9223372036854775808 ≤ m ∧ m ≤ 9223372036854775807) ∧ (∀ x ∈ l, x.length < 18446744073709551616) := by
  have zl : ∀ {x : Nat}, x < 18446744073709551616 → -9223372036854775808 ≤ zagZ x ∧ zagZ x ≤ 9223372036854775807 := fun hx => by unfold zagZ; split <;> omega
  unfold askedM at h ⊢
  dsimp only at h ⊢
  generalize ha : numR bs 0 = a at h ⊢
  generalize hb : numR a.2.1 a.2.2 = b at h ⊢
  generalize hc : numR b.2.1 b.2.2 = c at h ⊢
  generalize hd : textR c.2.1 c.2.2 = d at h ⊢
  generalize hr : numR d.2.1 d.2.2 = r at h ⊢
  by_cases hbig : 4096 < r.1
  · rw [if_pos hbig] at h; simp at h
  rw [if_neg hbig] at h ⊢
  generalize hq : rowR r.1 r.2.1 r.2.2 = q at h ⊢
  by_cases hq0 : q.2.2 = 0
  case neg => rw [if_pos hq0] at h; exact absurd h hq0
  rw [if_neg (by simpa using hq0)] at h ⊢
  by_cases hk : 1 ≤ a.1 ∧ a.1 ≤ 11
  case neg => rw [if_pos hk] at h; simp at h
  rw [if_neg (by simpa using hk)] at h ⊢
  by_cases hrest : q.2.1 = []
  case neg => rw [if_pos hrest] at h; simp at h
  rw [if_neg (by simpa using hrest)] at h ⊢
  have er : r.2.2 = 0 := row_zero (by rw [hq]; exact hq0)
  have ed : d.2.2 = 0 := num_zero (by rw [hr]; exact er)
  have ec : c.2.2 = 0 := text_zero (by rw [hd]; exact ed)
  have eb : b.2.2 = 0 := num_zero (by rw [hc]; exact ec)
  have ea : a.2.2 = 0 := num_zero (by rw [hb]; exact eb)
  obtain ⟨a1, a2⟩ := num_eats (ha.trans (triple ea))
  rw [ea] at hb
  obtain ⟨b1, b2⟩ := num_eats (hb.trans (triple eb))
  rw [eb] at hc
  obtain ⟨c1, c2⟩ := num_eats (hc.trans (triple ec))
  rw [ec] at hd
  obtain ⟨d1, d2⟩ := text_eats (hd.trans (triple ed))
  rw [ed] at hr
  obtain ⟨r1, r2⟩ := num_eats (hr.trans (triple er))
  rw [er] at hq
  obtain ⟨q1, q2, q3⟩ := row_eats _ (hq.trans (triple hq0))
  refine ⟨_, _, _, _, _, rfl, ?_, hk.1, hk.2, by omega, zl b2, zl c2, q2⟩
  unfold askL
  rw [zig_zagZ, zig_zagZ, q3, a1]
  congr 1
  rw [b1]
  congr 1
  rw [c1]
  congr 1
  rw [d1]
  congr 1
  rw [r1]
  congr 1
  rw [q1, hrest, List.append_nil]
end
/-! ### Answers -/
abbrev Told := Nat × Nat × Int × Int × List UInt8 × List (List UInt8) × Nat
def noTold : Told := (0, 0, 0, 0, [], [], 0)
def tellL (k e : Nat) (n m : Int) (t : List UInt8) (l : List (List UInt8)) (s : Nat) : List UInt8 := numL k ++ (numL e ++ (numL (zigN n) ++ (numL (zigN m) ++ (textB t ++ (numL l.length ++ (textsB l ++ numL s))))))
def toldM (bs : List UInt8) : Told × Nat :=
  let a := numR bs 0
  let f := numR a.2.1 a.2.2
  let b := numR f.2.1 f.2.2
  let c := numR b.2.1 b.2.2
  let d := textR c.2.1 c.2.2
  let r := numR d.2.1 d.2.2
  if 4096 < r.1 then (noTold, 11) else
  let q := rowR r.1 r.2.1 r.2.2
  let s := numR q.2.1 q.2.2
  if s.2.2 ≠ 0 then (noTold, s.2.2) else if ¬ ((1 ≤ a.1 ∧ a.1 ≤ 11) ∧ f.1 ≤ 255 ∧ s.1 ≤ 64) then (noTold, 11) else if s.2.1 ≠ [] then (noTold, 14) else ((a.1, f.1, zagZ b.1, zagZ c.1, d.1, q.1, s.1), 0)
section
variable {k e : Nat} {n m : Int} {t : List UInt8} {l : List (List UInt8)} {s : Nat}
theorem told_all (hk : k < 18446744073709551616) (he : e < 18446744073709551616) (hn : zigN n < 18446744073709551616) (hm : zigN m < 18446744073709551616) (ht : t.length < 18446744073709551616) (hl : l.length ≤ 4096) (hls : ∀ x ∈ l, x.length < 18446744073709551616) (hs : s < 18446744073709551616) (more : List UInt8) :
    toldM (tellL k e n m t l s ++ more) = if ¬ ((1 ≤ k ∧ k ≤ 11) ∧ e ≤ 255 ∧ s ≤ 64) then (noTold, 11) else if more ≠ [] then (noTold, 14) else ((k, e, n, m, t, l, s), 0) := by
  unfold toldM tellL
  simp only [List.append_assoc]
  rw [num_all hk]
  dsimp only
  rw [num_all he]
  dsimp only
  rw [num_all hn]
  dsimp only
  rw [num_all hm]
  dsimp only
  rw [text_all' ht]
  dsimp only
  rw [num_all (by omega)]
  dsimp only
  rw [if_neg (by omega), row_all l _ hls]
  dsimp only
  rw [num_all hs]
  dsimp only
  rw [if_neg (by simp), zag_zigN, zag_zigN]
theorem told_cut (hk : k < 18446744073709551616) (he : e < 18446744073709551616) (hn : zigN n < 18446744073709551616) (hm : zigN m < 18446744073709551616) (ht : t.length < 18446744073709551616) (hl : l.length ≤ 4096) (hls : ∀ x ∈ l, x.length < 18446744073709551616) (hs : s < 18446744073709551616) {j : Nat} (hj : j < (tellL k e n m t l s).length) :
    toldM ((tellL k e n m t l s).take j) = (noTold, 10) := by
  unfold tellL at hj ⊢
  unfold toldM
  rcases num_cut' hk _ hj with ⟨b, hb⟩ | ⟨j1, hj1, e1⟩
  · simp only [hb, num_err _ (show (10 : Nat) ≠ 0 by omega), text_err _ (show (10 : Nat) ≠ 0 by omega)]
    rfl
  rw [e1]
  simp only [num_all hk]
  rcases num_cut' he _ hj1 with ⟨b, hb⟩ | ⟨j0, hj0, e0⟩
  · simp only [hb, num_err _ (show (10 : Nat) ≠ 0 by omega), text_err _ (show (10 : Nat) ≠ 0 by omega)]
    rfl
  rw [e0]
  simp only [num_all he]
  rcases num_cut' hn _ hj0 with ⟨b, hb⟩ | ⟨j2, hj2, e2⟩
  · simp only [hb, num_err _ (show (10 : Nat) ≠ 0 by omega), text_err _ (show (10 : Nat) ≠ 0 by omega)]
    rfl
  rw [e2]
  simp only [num_all hn]
  rcases num_cut' hm _ hj2 with ⟨b, hb⟩ | ⟨j3, hj3, e3⟩
  · simp only [hb, num_err _ (show (10 : Nat) ≠ 0 by omega), text_err _ (show (10 : Nat) ≠ 0 by omega)]
    rfl
  rw [e3]
  simp only [num_all hm]
  rcases text_cut' ht _ hj3 with ⟨u, b, hb⟩ | ⟨j4, hj4, e4⟩
  · simp only [hb, num_err _ (show (10 : Nat) ≠ 0 by omega)]
    rfl
  rw [e4]
  simp only [text_all' ht]
  rcases num_cut' (show l.length < 18446744073709551616 by omega) _ hj4 with ⟨b, hb⟩ | ⟨j5, hj5, e5⟩
  · simp only [hb]
    rfl
  rw [e5]
  simp only [num_all (show l.length < 18446744073709551616 by omega)]
  rcases row_cut l (numL s) j5 hls hj5 with ⟨u, b, hb⟩ | ⟨i, hi, e6⟩
  · rw [if_neg (by omega), hb]
    simp only [num_err _ (show (10 : Nat) ≠ 0 by omega)]
    rfl
  · rw [if_neg (by omega), e6, row_all l _ hls]
    have h7 : numR ((numL s).take i) 0 = (0, (numL s).take i, 10) := by
      simp only [numR, take_short hs hi]; rfl
    simp only [h7]
    rfl
theorem told_own {bs : List UInt8} (h : (toldM bs).2 = 0) : ∃ k e n m t l s, toldM bs = ((k, e, n, m, t, l, s), 0) ∧ bs = tellL k e n m t l s ∧ (1 ≤ k ∧ k ≤ 11) ∧ e ≤ 255 ∧ s ≤ 64 ∧ l.length ≤ 4096 ∧ (-9223372036854775808 ≤ n ∧ n ≤ 9223372036854775807) ∧ (-9223372036854775808 ≤ m ∧ m ≤ 9223372036854775807) ∧ (∀ x ∈ l, x.length < 18446744073709551616) := by
  have zl : ∀ {x : Nat}, x < 18446744073709551616 → -9223372036854775808 ≤ zagZ x ∧ zagZ x ≤ 9223372036854775807 := fun hx => by unfold zagZ; split <;> omega
  unfold toldM at h ⊢
  dsimp only at h ⊢
  generalize ha : numR bs 0 = a at h ⊢
  generalize hf : numR a.2.1 a.2.2 = f at h ⊢
  generalize hb : numR f.2.1 f.2.2 = b at h ⊢
  generalize hc : numR b.2.1 b.2.2 = c at h ⊢
  generalize hd : textR c.2.1 c.2.2 = d at h ⊢
  generalize hr : numR d.2.1 d.2.2 = r at h ⊢
  by_cases hbig : 4096 < r.1
  · rw [if_pos hbig] at h; simp at h
  rw [if_neg hbig] at h ⊢
  generalize hq : rowR r.1 r.2.1 r.2.2 = q at h ⊢
  generalize hs : numR q.2.1 q.2.2 = s at h ⊢
  by_cases hs0 : s.2.2 = 0
  case neg => rw [if_pos hs0] at h; exact absurd h hs0
  rw [if_neg (by simpa using hs0)] at h ⊢
  by_cases hk : (1 ≤ a.1 ∧ a.1 ≤ 11) ∧ f.1 ≤ 255 ∧ s.1 ≤ 64
  case neg => rw [if_pos hk] at h; simp at h
  rw [if_neg (fun hn => hn hk)] at h ⊢
  by_cases hrest : s.2.1 = []
  case neg => rw [if_pos hrest] at h; simp at h
  rw [if_neg (by simpa using hrest)] at h ⊢
  have eq : q.2.2 = 0 := num_zero (by rw [hs]; exact hs0)
  have er : r.2.2 = 0 := row_zero (by rw [hq]; exact eq)
  have ed : d.2.2 = 0 := num_zero (by rw [hr]; exact er)
  have ec : c.2.2 = 0 := text_zero (by rw [hd]; exact ed)
  have eb : b.2.2 = 0 := num_zero (by rw [hc]; exact ec)
  have ef : f.2.2 = 0 := num_zero (by rw [hb]; exact eb)
  have ea : a.2.2 = 0 := num_zero (by rw [hf]; exact ef)
  obtain ⟨a1, a2⟩ := num_eats (ha.trans (triple ea))
  rw [ea] at hf
  obtain ⟨f1, f2⟩ := num_eats (hf.trans (triple ef))
  rw [ef] at hb
  obtain ⟨b1, b2⟩ := num_eats (hb.trans (triple eb))
  rw [eb] at hc
  obtain ⟨c1, c2⟩ := num_eats (hc.trans (triple ec))
  rw [ec] at hd
  obtain ⟨d1, d2⟩ := text_eats (hd.trans (triple ed))
  rw [ed] at hr
  obtain ⟨r1, r2⟩ := num_eats (hr.trans (triple er))
  rw [er] at hq
  obtain ⟨q1, q2, q3⟩ := row_eats _ (hq.trans (triple eq))
  rw [eq] at hs
  obtain ⟨s1, s2⟩ := num_eats (hs.trans (triple hs0))
  refine ⟨_, _, _, _, _, _, _, rfl, ?_, hk.1, hk.2.1, hk.2.2, by omega, zl b2, zl c2, q2⟩
  unfold tellL
  rw [zig_zagZ, zig_zagZ, q3, a1]
  congr 1
  rw [f1]
  congr 1
  rw [b1]
  congr 1
  rw [c1]
  congr 1
  rw [d1]
  congr 1
  rw [r1]
  congr 1
  rw [q1]
  congr 1
  rw [s1, hrest, List.append_nil]
end
end Go.Proofs.YtbgojfgapbcanaaDoor
