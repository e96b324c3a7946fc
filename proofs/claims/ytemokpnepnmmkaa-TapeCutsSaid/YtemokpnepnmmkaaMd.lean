/- The document's Next and Word: what each one tells of any reader. -/
import Derived.Test.YtemokpnepnmmkaaMc
import Derived.RegionTactic
import Derived.ChangeAlike
import Derived.Test.YtemokpnepnmmkaaMa
import Derived.Tactics
import Derived.ProofKit
import Derived.OpenShut
import Derived.ShutString
import Derived.SliceStrings
import Derived.Deep.Fields
import Derived.ChangeArms
namespace Go.Proofs.Ytemokpnepnmmkaa
open Go.RowKit
theorem mkS_drop (bs : List UInt8) (k : Nat) : (mkS bs).extract k (mkS bs).size = mkS (bs.drop k) := by
  apply ByteArray.ext
  simp [mkS, ByteArray.size]
  exact List.take_of_length_le (by simp)
theorem mkS_take (bs : List UInt8) (k : Nat) : (mkS bs).extract 0 k = mkS (bs.take k) := by
  apply ByteArray.ext
  simp [mkS]
/-- The document's reader as a value. -/
def rv (bs : List UInt8) (e : Nat) : Value := .agg #[.string (mkS bs), .int .i64 (e : Int)]
set_option maxHeartbeats 400000 in
theorem next_v (bs : List UInt8) (e : Nat) (w : World) (hn : bs.length ≤ 140737488351232) :
    Calls Try.prog 68 #[rv bs e] w fun r w' => r = .returned (.tuple #[rv (numR bs e).2.1 (numR bs e).2.2, .int .u64 ((numR bs e).1 : Int)]) ∧ Below w.heap.size w w' := by
  unfold rv
  have hs := mkS_size bs
  by_cases he : e = 0
  · subst he
    obtain ⟨x, k, e', ht⟩ : ∃ x k e', takeM bs = (x, k, e') := ⟨_, _, _, rfl⟩
    have hk : k ≤ bs.length := by have := (takeM_le bs).1; rw [ht] at this; exact this
    have hr : numR bs 0 = (x, bs.drop k, e') := by simp [numR, ht]
    have HT := Lib.hid ht
    have hdr := mkS_drop bs k
    rw [hs] at hdr
    rw [hr]
    clear ht hr
    go_enter Try.func68, Try.ntmps68
    go_wp2_with (go_at_call 67; refine (refTake_v (mkS bs) _ (by omega)).mono ?_; rintro e w' ⟨rfl, rfl⟩; rw [mkS_list, HT.out])
    exact bodyPost_ret (v := .tuple #[.agg #[.string (mkS (bs.drop k)), .int .i64 (e' : Int)], .int .u64 (x : Int)]) (by simp [results, Try.results68, go_sem]) rfl
      ⟨rfl, ((Below.refl _ _).alloc (Nat.le_refl _) _).alloc (by simp) _⟩
  · have hne : ((e : Int) != 0) = true := by simp; omega
    have hr : numR bs e = (0, bs, e) := by simp [numR, he]
    rw [hr]
    clear hr
    go_enter Try.func68, Try.ntmps68
    go_wp2
    exact bodyPost_ret (v := .tuple #[.agg #[.string (mkS bs), .int .i64 (e : Int)], .int .u64 0]) (by simp [results, Try.results68, go_sem]) rfl
      ⟨rfl, ((Below.refl _ _).alloc (Nat.le_refl _) _).alloc (by simp) _⟩
theorem textR_of (bs : List UInt8) (e x : Nat) (b1 : List UInt8) (e1 : Nat) (h : numR bs e = (x, b1, e1)) :
    textR bs e = if e1 ≠ 0 then ([], b1, e1) else if b1.length < x then ([], b1, 10) else (b1.take x, b1.drop x, 0) := by simp [textR, h]
theorem numR_len (bs : List UInt8) (e : Nat) : (numR bs e).2.1.length ≤ bs.length := by
  unfold numR; split <;> simp
set_option maxHeartbeats 400000 in
theorem word_v (bs : List UInt8) (e : Nat) (w : World) (hn : bs.length ≤ 140737488351232) :
    Calls Try.prog 69 #[rv bs e] w fun r w' => r = .returned (.tuple #[rv (textR bs e).2.1 (textR bs e).2.2, .string (mkS (textR bs e).1)]) ∧ Below w.heap.size w w' := by
  obtain ⟨x, b1, e1, hx⟩ : ∃ x b1 e1, numR bs e = (x, b1, e1) := ⟨_, _, _, rfl⟩
  have hb1 : b1.length ≤ bs.length := by have := numR_len bs e; rw [hx] at this; exact this
  have hs := mkS_size b1
  have hx64 := Lib.hid (numR_lt bs e)
  rw [hx] at hx64
  have hnx := fun W => next_v bs e W hn
  rw [hx] at hnx
  have HN := Lib.hid hnx
  clear hnx
  have ht := textR_of bs e x b1 e1 hx
  clear hx
  have hw : IntKind.u64.wrap (b1.length : Int) = (b1.length : Int) := by rw [IntKind.wrap_u64]; omega
  unfold rv at *
  by_cases he : e1 = 0
  · subst he
    rw [if_neg (by omega)] at ht
    by_cases hlt : b1.length < x
    · rw [if_pos hlt] at ht
      rw [ht]
      clear ht
      go_enter Try.func69, Try.ntmps69
      go_wp2_with (go_at_call 68; refine (HN.out _).mono ?_; rintro r w1 ⟨rfl, hb⟩; have hsz := hb.size; obtain ⟨hbc, hbf⟩ := bcell hb; have hlt1 : w.heap.size + 1 < w1.heap.size := (by simp at hsz; omega); have HB := Lib.hid ((((Below.refl w.heap.size w).alloc (Nat.le_refl _) _).alloc (by simp) _).trans (hb.mono (by simp; omega))); clear hb)
      exact bodyPost_ret (v := .tuple #[.agg #[.string (mkS b1), .int .i64 10], .string ⟨#[]⟩]) (by simp [results, Try.results69, go_sem, hlt1, hbc]) rfl
        ⟨rfl, ((HB.out.setCell (by simp) _).setCell (by simp) _).alloc (by simp; omega) _⟩
    · rw [if_neg hlt] at ht
      rw [ht]
      clear ht
      go_enter Try.func69, Try.ntmps69
      go_wp2_with (go_at_call 68; refine (HN.out _).mono ?_; rintro r w1 ⟨rfl, hb⟩; have hsz := hb.size; obtain ⟨hbc, hbf⟩ := bcell hb; have hlt1 : w.heap.size + 1 < w1.heap.size := (by simp at hsz; omega); have HB := Lib.hid ((((Below.refl w.heap.size w).alloc (Nat.le_refl _) _).alloc (by simp) _).trans (hb.mono (by simp; omega))); clear hb)
      have hd := mkS_drop b1 x
      have htk := mkS_take b1 x
      rw [hs] at hd
      go_region
      all_goals
        go_wp2
        exact bodyPost_ret (v := .tuple #[.agg #[.string (mkS (b1.drop x)), .int .i64 0], .string (mkS (b1.take x))]) (by simp [results, Try.results69, go_sem, hlt1, hbc]) rfl
          ⟨rfl, (((HB.out.setCell (by simp) _).setCell (by simp) _).alloc (by simp; omega) _).drew⟩
  · rw [if_pos he] at ht
    have hne : ((e1 : Int) != 0) = true := by simp; omega
    rw [ht]
    clear ht
    go_enter Try.func69, Try.ntmps69
    go_wp2_with (go_at_call 68; refine (HN.out _).mono ?_; rintro r w1 ⟨rfl, hb⟩; have hsz := hb.size; obtain ⟨hbc, hbf⟩ := bcell hb; have hlt1 : w.heap.size + 1 < w1.heap.size := (by simp at hsz; omega); have HB := Lib.hid ((((Below.refl w.heap.size w).alloc (Nat.le_refl _) _).alloc (by simp) _).trans (hb.mono (by simp; omega))); clear hb)
    exact bodyPost_ret (v := .tuple #[.agg #[.string (mkS b1), .int .i64 (e1 : Int)], .string ⟨#[]⟩]) (by simp [results, Try.results69, go_sem, hlt1, hbc]) rfl
      ⟨rfl, ((HB.out.setCell (by simp) _).setCell (by simp) _).alloc (by simp; omega) _⟩
end Go.Proofs.Ytemokpnepnmmkaa
/- Requests and answers as bytes, as plain mathematics: what is put is read, cut it is short, longer it is left, and what is read is those bytes. No premises. -/
namespace Go.Proofs.Ytemokpnepnmmkaa
theorem num_zero {b : List UInt8} {e : Nat} (h : (numR b e).2.2 = 0) : e = 0 := by
  by_cases h0 : e = 0
  · exact h0
  · rw [num_err b h0] at h; exact h
theorem text_zero {b : List UInt8} {e : Nat} (h : (textR b e).2.2 = 0) : e = 0 := by
  by_cases h0 : e = 0
  · exact h0
  · rw [text_err b h0] at h; exact h
theorem row_zero {k : Nat} {b : List UInt8} {e : Nat} (h : (rowR k b e).2.2 = 0) : e = 0 := by
  by_cases h0 : e = 0
  · exact h0
  · rw [row_err k b h0] at h; exact h
abbrev Asked := Nat × Int × Int × List UInt8 × List (List UInt8)
def noAsked : Asked := (0, 0, 0, [], [])
def zigN (n : Int) : Nat := (if n < 0 then 2 * -(n + 1) + 1 else 2 * n).toNat
def zagZ (x : Nat) : Int := if x % 2 = 1 then -((x / 2 : Nat) : Int) - 1 else ((x / 2 : Nat) : Int)
theorem zag_zigN (x : Int) : zagZ (zigN x) = x := by unfold zagZ zigN; split <;> split <;> omega
theorem zig_zagZ (x : Nat) : zigN (zagZ x) = x := by unfold zagZ zigN; split <;> split <;> omega
theorem zigN_lt {x : Int} (h1 : -9223372036854775808 ≤ x) (h2 : x ≤ 9223372036854775807) : zigN x < 18446744073709551616 := by unfold zigN; split <;> omega
/-- A request's bytes. -/
def askL (k : Nat) (n m : Int) (t : List UInt8) (l : List (List UInt8)) : List UInt8 := numL k ++ (numL (zigN n) ++ (numL (zigN m) ++ (textB t ++ (numL l.length ++ textsB l))))
/-- What bytes are read as: the request, and the error. -/
def askedM (bs : List UInt8) : Asked × Nat :=
  let a := numR bs 0
  let b := numR a.2.1 a.2.2
  let c := numR b.2.1 b.2.2
  let d := textR c.2.1 c.2.2
  let r := numR d.2.1 d.2.2
  if 4096 < r.1 then (noAsked, 11) else
  let q := rowR r.1 r.2.1 r.2.2
  if q.2.2 ≠ 0 then (noAsked, q.2.2) else if ¬ (1 ≤ a.1 ∧ a.1 ≤ 11) then (noAsked, 11) else if q.2.1 ≠ [] then (noAsked, 14) else ((a.1, zagZ b.1, zagZ c.1, d.1, q.1), 0)
section
variable {k : Nat} {n m : Int} {t : List UInt8} {l : List (List UInt8)}
/-- A request that may be, with whatever behind. -/
theorem asked_all (hk : k < 18446744073709551616) (hn : zigN n < 18446744073709551616) (hm : zigN m < 18446744073709551616) (ht : t.length < 18446744073709551616) (hl : l.length ≤ 4096) (hls : ∀ x ∈ l, x.length < 18446744073709551616) (more : List UInt8) :
    askedM (askL k n m t l ++ more) = if ¬ (1 ≤ k ∧ k ≤ 11) then (noAsked, 11) else if more ≠ [] then (noAsked, 14) else ((k, n, m, t, l), 0) := by
  unfold askedM askL
  simp only [List.append_assoc]
  rw [num_all hk]
  dsimp only
  rw [num_all hn]
  dsimp only
  rw [num_all hm]
  dsimp only
  rw [text_all' ht]
  dsimp only
  rw [num_all (by omega)]
  dsimp only
  rw [if_neg (by omega), row_all l more hls]
  dsimp only
  rw [if_neg (by simp), zag_zigN, zag_zigN]
/-- Cut anywhere it is short. -/
theorem asked_cut (hk : k < 18446744073709551616) (hn : zigN n < 18446744073709551616) (hm : zigN m < 18446744073709551616) (ht : t.length < 18446744073709551616) (hl : l.length ≤ 4096) (hls : ∀ x ∈ l, x.length < 18446744073709551616) {j : Nat} (hj : j < (askL k n m t l).length) :
    askedM ((askL k n m t l).take j) = (noAsked, 10) := by
  have fin0 : ∀ (x : Nat) (b : List UInt8), rowR 0 b 10 = ([], b, 10) := fun _ _ => rfl
  unfold askL at hj ⊢
  unfold askedM
  rcases num_cut' hk _ hj with ⟨b, hb⟩ | ⟨j1, hj1, e1⟩
  · simp only [hb, num_err _ (show (10 : Nat) ≠ 0 by omega), text_err _ (show (10 : Nat) ≠ 0 by omega)]
    rfl
  rw [e1]
  simp only [num_all hk]
  rcases num_cut' hn _ hj1 with ⟨b, hb⟩ | ⟨j2, hj2, e2⟩
  · simp only [hb, num_err _ (show (10 : Nat) ≠ 0 by omega), text_err _ (show (10 : Nat) ≠ 0 by omega)]
    rfl
  rw [e2]
  simp only [num_all hn]
  rcases num_cut' hm _ hj2 with ⟨b, hb⟩ | ⟨j3, hj3, e3⟩
  · simp only [hb, num_err _ (show (10 : Nat) ≠ 0 by omega), text_err _ (show (10 : Nat) ≠ 0 by omega)]
    rfl
  rw [e3]
  simp only [num_all hm]
  rcases text_cut' ht _ hj3 with ⟨u, b, hb⟩ | ⟨j4, hj4, e4⟩
  · simp only [hb, num_err _ (show (10 : Nat) ≠ 0 by omega)]
    rfl
  rw [e4]
  simp only [text_all' ht]
  rcases num_cut' (show l.length < 18446744073709551616 by omega) _ hj4 with ⟨b, hb⟩ | ⟨j5, hj5, e5⟩
  · simp only [hb]
    rfl
  rw [e5]
  simp only [num_all (show l.length < 18446744073709551616 by omega)]
  have h6 := row_cut l [] j5 hls (by simpa using hj5)
  rw [List.append_nil] at h6
  rcases h6 with ⟨u, b, hb⟩ | ⟨i, hi, _⟩
  · rw [if_neg (by omega), hb]
    simp
  · simp at hi
/-- What is read is those bytes. -/
theorem asked_own {bs : List UInt8} (h : (askedM bs).2 = 0) : ∃ k n m t l, askedM bs = ((k, n, m, t, l), 0) ∧ bs = askL k n m t l ∧ 1 ≤ k ∧ k ≤ 11 ∧ l.length ≤ 4096 ∧ (-9223372036854775808 ≤ n ∧ n ≤ 9223372036854775807) ∧ (-9223372036854775808 ≤ m ∧ m ≤ 9223372036854775807) ∧ (∀ x ∈ l, x.length < 18446744073709551616) := by
  have zl : ∀ {x : Nat}, x < 18446744073709551616 → -9223372036854775808 ≤ zagZ x ∧ zagZ x ≤ 9223372036854775807 := fun hx => by unfold zagZ; split <;> omega
  unfold askedM at h ⊢
  dsimp only at h ⊢
  generalize ha : numR bs 0 = a at h ⊢
  generalize hb : numR a.2.1 a.2.2 = b at h ⊢
  generalize hc : numR b.2.1 b.2.2 = c at h ⊢
  generalize hd : textR c.2.1 c.2.2 = d at h ⊢
  generalize hr : numR d.2.1 d.2.2 = r at h ⊢
  by_cases hbig : 4096 < r.1
  · rw [if_pos hbig] at h; simp at h
  rw [if_neg hbig] at h ⊢
  generalize hq : rowR r.1 r.2.1 r.2.2 = q at h ⊢
  by_cases hq0 : q.2.2 = 0
  case neg => rw [if_pos hq0] at h; exact absurd h hq0
  rw [if_neg (by simpa using hq0)] at h ⊢
  by_cases hk : 1 ≤ a.1 ∧ a.1 ≤ 11
  case neg => rw [if_pos hk] at h; simp at h
  rw [if_neg (by simpa using hk)] at h ⊢
  by_cases hrest : q.2.1 = []
  case neg => rw [if_pos hrest] at h; simp at h
  rw [if_neg (by simpa using hrest)] at h ⊢
  have er : r.2.2 = 0 := row_zero (by rw [hq]; exact hq0)
  have ed : d.2.2 = 0 := num_zero (by rw [hr]; exact er)
  have ec : c.2.2 = 0 := text_zero (by rw [hd]; exact ed)
  have eb : b.2.2 = 0 := num_zero (by rw [hc]; exact ec)
  have ea : a.2.2 = 0 := num_zero (by rw [hb]; exact eb)
  obtain ⟨a1, a2⟩ := num_eats (ha.trans (triple ea))
  rw [ea] at hb
  obtain ⟨b1, b2⟩ := num_eats (hb.trans (triple eb))
  rw [eb] at hc
  obtain ⟨c1, c2⟩ := num_eats (hc.trans (triple ec))
  rw [ec] at hd
  obtain ⟨d1, d2⟩ := text_eats (hd.trans (triple ed))
  rw [ed] at hr
  obtain ⟨r1, r2⟩ := num_eats (hr.trans (triple er))
  rw [er] at hq
  obtain ⟨q1, q2, q3⟩ := row_eats _ (hq.trans (triple hq0))
  refine ⟨_, _, _, _, _, rfl, ?_, hk.1, hk.2, by omega, zl b2, zl c2, q2⟩
  unfold askL
  rw [zig_zagZ, zig_zagZ, q3, a1]
  congr 1
  rw [b1]
  congr 1
  rw [c1]
  congr 1
  rw [d1]
  congr 1
  rw [r1]
  congr 1
  rw [q1, hrest, List.append_nil]
end
/-! ### Answers -/
abbrev Told := Nat × Nat × Int × Int × List UInt8 × List (List UInt8) × Nat
def noTold : Told := (0, 0, 0, 0, [], [], 0)
def tellL (k e : Nat) (n m : Int) (t : List UInt8) (l : List (List UInt8)) (s : Nat) : List UInt8 := numL k ++ (numL e ++ (numL (zigN n) ++ (numL (zigN m) ++ (textB t ++ (numL l.length ++ (textsB l ++ numL s))))))
def toldM (bs : List UInt8) : Told × Nat :=
  let a := numR bs 0
  let f := numR a.2.1 a.2.2
  let b := numR f.2.1 f.2.2
  let c := numR b.2.1 b.2.2
  let d := textR c.2.1 c.2.2
  let r := numR d.2.1 d.2.2
  if 4096 < r.1 then (noTold, 11) else
  let q := rowR r.1 r.2.1 r.2.2
  let s := numR q.2.1 q.2.2
  if s.2.2 ≠ 0 then (noTold, s.2.2) else if ¬ ((1 ≤ a.1 ∧ a.1 ≤ 11) ∧ f.1 ≤ 255 ∧ s.1 ≤ 64) then (noTold, 11) else if s.2.1 ≠ [] then (noTold, 14) else ((a.1, f.1, zagZ b.1, zagZ c.1, d.1, q.1, s.1), 0)
section
variable {k e : Nat} {n m : Int} {t : List UInt8} {l : List (List UInt8)} {s : Nat}
theorem told_all (hk : k < 18446744073709551616) (he : e < 18446744073709551616) (hn : zigN n < 18446744073709551616) (hm : zigN m < 18446744073709551616) (ht : t.length < 18446744073709551616) (hl : l.length ≤ 4096) (hls : ∀ x ∈ l, x.length < 18446744073709551616) (hs : s < 18446744073709551616) (more : List UInt8) :
    toldM (tellL k e n m t l s ++ more) = if ¬ ((1 ≤ k ∧ k ≤ 11) ∧ e ≤ 255 ∧ s ≤ 64) then (noTold, 11) else if more ≠ [] then (noTold, 14) else ((k, e, n, m, t, l, s), 0) := by
  unfold toldM tellL
  simp only [List.append_assoc]
  rw [num_all hk]
  dsimp only
  rw [num_all he]
  dsimp only
  rw [num_all hn]
  dsimp only
  rw [num_all hm]
  dsimp only
  rw [text_all' ht]
  dsimp only
  rw [num_all (by omega)]
  dsimp only
  rw [if_neg (by omega), row_all l _ hls]
  dsimp only
  rw [num_all hs]
  dsimp only
  rw [if_neg (by simp), zag_zigN, zag_zigN]
theorem told_cut (hk : k < 18446744073709551616) (he : e < 18446744073709551616) (hn : zigN n < 18446744073709551616) (hm : zigN m < 18446744073709551616) (ht : t.length < 18446744073709551616) (hl : l.length ≤ 4096) (hls : ∀ x ∈ l, x.length < 18446744073709551616) (hs : s < 18446744073709551616) {j : Nat} (hj : j < (tellL k e n m t l s).length) :
    toldM ((tellL k e n m t l s).take j) = (noTold, 10) := by
  unfold tellL at hj ⊢
  unfold toldM
  rcases num_cut' hk _ hj with ⟨b, hb⟩ | ⟨j1, hj1, e1⟩
  · simp only [hb, num_err _ (show (10 : Nat) ≠ 0 by omega), text_err _ (show (10 : Nat) ≠ 0 by omega)]
    rfl
  rw [e1]
  simp only [num_all hk]
  rcases num_cut' he _ hj1 with ⟨b, hb⟩ | ⟨j0, hj0, e0⟩
  · simp only [hb, num_err _ (show (10 : Nat) ≠ 0 by omega), text_err _ (show (10 : Nat) ≠ 0 by omega)]
    rfl
  rw [e0]
  simp only [num_all he]
  rcases num_cut' hn _ hj0 with ⟨b, hb⟩ | ⟨j2, hj2, e2⟩
  · simp only [hb, num_err _ (show (10 : Nat) ≠ 0 by omega), text_err _ (show (10 : Nat) ≠ 0 by omega)]
    rfl
  rw [e2]
  simp only [num_all hn]
  rcases num_cut' hm _ hj2 with ⟨b, hb⟩ | ⟨j3, hj3, e3⟩
  · simp only [hb, num_err _ (show (10 : Nat) ≠ 0 by omega), text_err _ (show (10 : Nat) ≠ 0 by omega)]
    rfl
  rw [e3]
  simp only [num_all hm]
  rcases text_cut' ht _ hj3 with ⟨u, b, hb⟩ | ⟨j4, hj4, e4⟩
  · simp only [hb, num_err _ (show (10 : Nat) ≠ 0 by omega)]
    rfl
  rw [e4]
  simp only [text_all' ht]
  rcases num_cut' (show l.length < 18446744073709551616 by omega) _ hj4 with ⟨b, hb⟩ | ⟨j5, hj5, e5⟩
  · simp only [hb]
    rfl
  rw [e5]
  simp only [num_all (show l.length < 18446744073709551616 by omega)]
  rcases row_cut l (numL s) j5 hls hj5 with ⟨u, b, hb⟩ | ⟨i, hi, e6⟩
  · rw [if_neg (by omega), hb]
    simp only [num_err _ (show (10 : Nat) ≠ 0 by omega)]
    rfl
  · rw [if_neg (by omega), e6, row_all l _ hls]
    have h7 : numR ((numL s).take i) 0 = (0, (numL s).take i, 10) := by
      simp only [numR, take_short hs hi]; rfl
    simp only [h7]
    rfl
theorem told_own {bs : List UInt8} (h : (toldM bs).2 = 0) : ∃ k e n m t l s, toldM bs = ((k, e, n, m, t, l, s), 0) ∧ bs = tellL k e n m t l s ∧ (1 ≤ k ∧ k ≤ 11) ∧ e ≤ 255 ∧ s ≤ 64 ∧ l.length ≤ 4096 ∧ (-9223372036854775808 ≤ n ∧ n ≤ 9223372036854775807) ∧ (-9223372036854775808 ≤ m ∧ m ≤ 9223372036854775807) ∧ (∀ x ∈ l, x.length < 18446744073709551616) := by
  have zl : ∀ {x : Nat}, x < 18446744073709551616 → -9223372036854775808 ≤ zagZ x ∧ zagZ x ≤ 9223372036854775807 := fun hx => by unfold zagZ; split <;> omega
  unfold toldM at h ⊢
  dsimp only at h ⊢
  generalize ha : numR bs 0 = a at h ⊢
  generalize hf : numR a.2.1 a.2.2 = f at h ⊢
  generalize hb : numR f.2.1 f.2.2 = b at h ⊢
  generalize hc : numR b.2.1 b.2.2 = c at h ⊢
  generalize hd : textR c.2.1 c.2.2 = d at h ⊢
  generalize hr : numR d.2.1 d.2.2 = r at h ⊢
  by_cases hbig : 4096 < r.1
  · rw [if_pos hbig] at h; simp at h
  rw [if_neg hbig] at h ⊢
  generalize hq : rowR r.1 r.2.1 r.2.2 = q at h ⊢
  generalize hs : numR q.2.1 q.2.2 = s at h ⊢
  by_cases hs0 : s.2.2 = 0
  case neg => rw [if_pos hs0] at h; exact absurd h hs0
  rw [if_neg (by simpa using hs0)] at h ⊢
  by_cases hk : (1 ≤ a.1 ∧ a.1 ≤ 11) ∧ f.1 ≤ 255 ∧ s.1 ≤ 64
  case neg => rw [if_pos hk] at h; simp at h
  rw [if_neg (fun hn => hn hk)] at h ⊢
  by_cases hrest : s.2.1 = []
  case neg => rw [if_pos hrest] at h; simp at h
  rw [if_neg (by simpa using hrest)] at h ⊢
  have eq : q.2.2 = 0 := num_zero (by rw [hs]; exact hs0)
  have er : r.2.2 = 0 := row_zero (by rw [hq]; exact eq)
  have ed : d.2.2 = 0 := num_zero (by rw [hr]; exact er)
  have ec : c.2.2 = 0 := text_zero (by rw [hd]; exact ed)
  have eb : b.2.2 = 0 := num_zero (by rw [hc]; exact ec)
  have ef : f.2.2 = 0 := num_zero (by rw [hb]; exact eb)
  have ea : a.2.2 = 0 := num_zero (by rw [hf]; exact ef)
  obtain ⟨a1, a2⟩ := num_eats (ha.trans (triple ea))
  rw [ea] at hf
  obtain ⟨f1, f2⟩ := num_eats (hf.trans (triple ef))
  rw [ef] at hb
  obtain ⟨b1, b2⟩ := num_eats (hb.trans (triple eb))
  rw [eb] at hc
  obtain ⟨c1, c2⟩ := num_eats (hc.trans (triple ec))
  rw [ec] at hd
  obtain ⟨d1, d2⟩ := text_eats (hd.trans (triple ed))
  rw [ed] at hr
  obtain ⟨r1, r2⟩ := num_eats (hr.trans (triple er))
  rw [er] at hq
  obtain ⟨q1, q2, q3⟩ := row_eats _ (hq.trans (triple eq))
  rw [eq] at hs
  obtain ⟨s1, s2⟩ := num_eats (hs.trans (triple hs0))
  refine ⟨_, _, _, _, _, _, _, rfl, ?_, hk.1, hk.2.1, hk.2.2, by omega, zl b2, zl c2, q2⟩
  unfold tellL
  rw [zig_zagZ, zig_zagZ, q3, a1]
  congr 1
  rw [f1]
  congr 1
  rw [b1]
  congr 1
  rw [c1]
  congr 1
  rw [d1]
  congr 1
  rw [r1]
  congr 1
  rw [q1]
  congr 1
  rw [s1, hrest, List.append_nil]
end
end Go.Proofs.Ytemokpnepnmmkaa
/- Arguments as the walks take them: slices of numbers, of bytes, of texts. No premises. -/
namespace Go.Proofs.Ytemokpnepnmmkaa
open Go.RowKit Go.ChangeShapes Go.WideShapes Go.ChangeAt
section
variable {H : Type} {enc : TypeId × Value → H} {P : Program} {w : World} {base : Nat} {spare : Nat → Bool} {held : Bool}
theorem rd_ints {t e : TypeId} {k : IntKind} {a : Option Addr} {len cap : Nat} {d : DataW H} {p : List MemPlace} (ht : P.underlying t = some (.slice e)) (he : P.underlying e = some (.int k)) (hc : P.cellsOf e = 1)
    (h : DataW.Trod enc P w base spare held t (.slice a len cap) d p) :
    ∃ zs : List Int, Rd w w.heap.size a len (zs.map (Value.int k)) ∧ (∀ n ∈ zs, (Lit.int k n).wf = true) ∧ len ≤ cap ∧ cap ≤ maxLen := by
  obtain ⟨fuel, hf⟩ := h
  rcases open_ints ht he hc hf with ⟨hcs, _⟩ | ⟨x, l, c, zs, hcs, _, hl, hm, hz, _, hcell, hwz⟩
  · simp [Value.cells] at hcs
    obtain ⟨rfl, rfl, rfl⟩ := hcs
    exact ⟨[], Rd.nil_, by simp, Nat.le_refl _, by simp [maxLen]⟩
  · simp [Value.cells] at hcs
    obtain ⟨rfl, rfl, rfl⟩ := hcs
    have hlz : len ≤ zs.length := by rw [hz]; split <;> omega
    refine ⟨zs.take len, ⟨by simp; omega, fun h0 => ⟨x, rfl, ?_, fun j u hu => ?_⟩⟩, fun n hn => hwz n (List.mem_of_mem_take hn), hl, hm⟩
    · have := hcell 0 (by omega)
      have := World.block_lt_of_cell? w _ this
      rwa [block_add] at this
    · rw [List.getElem?_map, List.getElem?_take] at hu
      split at hu
      · rename_i hj
        rw [List.getElem?_eq_getElem (show j < zs.length by omega)] at hu
        simp at hu
        subst hu
        rw [hcell j (by omega)]
        simp [List.getD, List.getElem?_eq_getElem (show j < zs.length by omega)]
      · cases hu
theorem bytes_of : ∀ zs : List Int, (∀ n ∈ zs, (Lit.int .u8 n).wf = true) → ∃ bs : List UInt8, zs.map (Value.int .u8) = bs.map bv
  | [], _ => ⟨[], rfl⟩
  | z :: zs, h => by
    obtain ⟨bs, hb⟩ := bytes_of zs fun n hn => h n (List.mem_cons_of_mem _ hn)
    have hz := bounds_u8 (h z (List.mem_cons_self ..))
    refine ⟨UInt8.ofNat z.toNat :: bs, ?_⟩
    simp only [List.map_cons, hb, bv]
    congr 2
    rw [show (UInt8.ofNat z.toNat).toNat = z.toNat by simp; omega]
    omega
theorem nats_of : ∀ zs : List Int, (∀ n ∈ zs, (Lit.int .u64 n).wf = true) → ∃ l : List Nat, zs.map (Value.int .u64) = l.map nv ∧ ∀ x ∈ l, x < 18446744073709551616
  | [], _ => ⟨[], rfl, by simp⟩
  | z :: zs, h => by
    obtain ⟨bs, hb, hc⟩ := nats_of zs fun n hn => h n (List.mem_cons_of_mem _ hn)
    have hz := bounds_u64 (h z (List.mem_cons_self ..))
    refine ⟨z.toNat :: bs, ?_, ?_⟩
    · simp only [List.map_cons, hb, nv]
      congr 2
      omega
    · intro x hx
      rcases List.mem_cons.1 hx with rfl | hx
      · omega
      · exact hc x hx
theorem rd_bytes {t e : TypeId} {a : Option Addr} {len cap : Nat} {d : DataW H} {p : List MemPlace} (ht : P.underlying t = some (.slice e)) (he : P.underlying e = some (.int .u8)) (hc : P.cellsOf e = 1)
    (h : DataW.Trod enc P w base spare held t (.slice a len cap) d p) : ∃ bs : List UInt8, Rd w w.heap.size a len (bs.map bv) ∧ len ≤ cap ∧ cap ≤ maxLen := by
  obtain ⟨zs, h1, h2, h3⟩ := rd_ints ht he hc h
  obtain ⟨bs, hb⟩ := bytes_of zs h2
  exact ⟨bs, hb ▸ h1, h3⟩
theorem rd_nats {t e : TypeId} {a : Option Addr} {len cap : Nat} {d : DataW H} {p : List MemPlace} (ht : P.underlying t = some (.slice e)) (he : P.underlying e = some (.int .u64)) (hc : P.cellsOf e = 1)
    (h : DataW.Trod enc P w base spare held t (.slice a len cap) d p) : ∃ l : List Nat, Rd w w.heap.size a len (l.map nv) ∧ (∀ x ∈ l, x < 18446744073709551616) ∧ len ≤ cap ∧ cap ≤ maxLen := by
  obtain ⟨zs, h1, h2, h3⟩ := rd_ints ht he hc h
  obtain ⟨bs, hb, hx⟩ := nats_of zs h2
  exact ⟨bs, hb ▸ h1, hx, h3⟩
theorem rd_strings {t e : TypeId} {a : Option Addr} {len cap : Nat} {d : DataW H} {p : List MemPlace} (ht : P.underlying t = some (.slice e)) (he : P.underlying e = some .string) (hc : P.cellsOf e = 1)
    (h : DataW.Trod enc P w base spare held t (.slice a len cap) d p) : ∃ l : List ByteArray, Rd w w.heap.size a len (l.map Value.string) ∧ (∀ s ∈ l, s.size ≤ maxLen) ∧ len ≤ cap ∧ cap ≤ maxLen := by
  obtain ⟨fuel, hf⟩ := h
  rcases open_strings ht he hc hf with ⟨hcs, _⟩ | ⟨x, l, c, zs, hcs, _, hl, hm, hz, _, hcell, hwz⟩
  · simp [Value.cells] at hcs
    obtain ⟨rfl, rfl, rfl⟩ := hcs
    exact ⟨[], Rd.nil_, by simp, Nat.le_refl _, by simp [maxLen]⟩
  · simp [Value.cells] at hcs
    obtain ⟨rfl, rfl, rfl⟩ := hcs
    have hlz : len ≤ zs.length := by rw [hz]; split <;> omega
    refine ⟨zs.take len, ⟨by simp; omega, fun h0 => ⟨x, rfl, ?_, fun j u hu => ?_⟩⟩, fun n hn => hwz n (List.mem_of_mem_take hn), hl, hm⟩
    · have := hcell 0 (by omega)
      have := World.block_lt_of_cell? w _ this
      rwa [block_add] at this
    · rw [List.getElem?_map, List.getElem?_take] at hu
      split at hu
      · rename_i hj
        rw [List.getElem?_eq_getElem (show j < zs.length by omega)] at hu
        simp at hu
        subst hu
        rw [hcell j (by omega)]
        simp [List.getD, List.getElem?_eq_getElem (show j < zs.length by omega)]
      · cases hu
end
end Go.Proofs.Ytemokpnepnmmkaa
/- A struct that comes in by value, of whatever number of fields of one cell: each field's own reading. No premises. -/
namespace Go.Proofs.Ytemokpnepnmmkaa
open Go.RowKit Go.ChangeShapes Go.WideShapes Go.ChangeAt Go.Deep
section
variable {H : Type} {enc : TypeId × Value → H} {P : Program} {w : World} {base : Nat} {spare : Nat → Bool} {held : Bool}
theorem open_fields {r : Reach} {b0 : Nat} {t : TypeId} {fs : Array Field} {v : Value} {d : DataW H} {p : List MemPlace} (hs : P.underlying t = some (.struct fs)) (hone : oneCellFields P fs = true) (hC : P.cellsOf t = fs.size)
    (hv : Value.okWide P w r b0 t v) (h : DataW.Trod enc P w base spare held t v d p) :
    ∃ cs : Array Value, v = .agg cs ∧ cs.size = fs.size ∧ ∃ fuel, ∀ (i : Nat) (f : Field) (u : Value), fs[i]? = some f → cs[i]? = some u → ∃ y, DataW.trod enc P w base spare held fuel f.type [u] = some y := by
  obtain ⟨cs, rfl, hsz⟩ := okWide_struct hs hv
  obtain ⟨fuel, hf⟩ := h
  obtain ⟨xs, n, _, _, _, hxl, hat⟩ := DataW.trod_struct hs hf
  rw [hC] at hsz
  refine ⟨cs, rfl, hsz, n, fun i f u hi hu => ?_⟩
  obtain ⟨ho, hk⟩ := hone_of hone i f hi
  have h1 := hat i f hi
  rw [ho, hk] at h1
  have hil : i < cs.toList.length := by have := (Array.getElem?_eq_some_iff.1 hu).1; simpa using this
  have hu' : cs.toList[i]'hil = u := by
    have := (Array.getElem?_eq_some_iff.1 hu).2
    simpa using this
  have e : ((Value.agg cs).cells.toList.drop i).take 1 = [u] := by
    show (cs.toList.drop i).take 1 = [u]
    rw [List.drop_eq_getElem_cons hil, List.take_succ_cons, List.take_zero, hu']
  have hix : i < xs.length := by rw [hxl]; exact (Array.getElem?_eq_some_iff.1 hi).1
  exact ⟨_, (by rw [← e]; exact h1.trans (List.getElem?_eq_getElem hix))⟩
theorem field_int {t : TypeId} {k : IntKind} {u : Value} {fuel : Nat} {y : DataW H × List MemPlace} (ht : P.underlying t = some (.int k)) (h : DataW.trod enc P w base spare held fuel t [u] = some y) : ∃ n, u = .int k n ∧ (Lit.int k n).wf = true := by
  obtain ⟨n, h1, _, h3⟩ := DataW.trod_int ht h
  exact ⟨n, by simpa using h1, h3⟩
theorem field_string {t : TypeId} {u : Value} {fuel : Nat} {y : DataW H × List MemPlace} (ht : P.underlying t = some .string) (h : DataW.trod enc P w base spare held fuel t [u] = some y) : ∃ s : ByteArray, u = .string s ∧ s.size ≤ maxLen := by
  obtain ⟨s, h1, _, h3⟩ := DataW.trod_string ht h
  exact ⟨s, by simpa using h1, h3⟩
theorem field_strings {t e : TypeId} {u : Value} {fuel : Nat} {y : DataW H × List MemPlace} (ht : P.underlying t = some (.slice e)) (he : P.underlying e = some .string) (hc : P.cellsOf e = 1) (h : DataW.trod enc P w base spare held fuel t [u] = some y) :
    ∃ (A : Option Addr) (n c : Nat) (l : List ByteArray), u = .slice A n c ∧ Rd w w.heap.size A n (l.map Value.string) ∧ (∀ s ∈ l, s.size ≤ maxLen) ∧ n ≤ c ∧ c ≤ maxLen := by
  have hu : ∃ A n c, u = .slice A n c := by
    rcases DataW.trod_slice ht h with ⟨h1, _⟩ | ⟨a, len, cap, _, _, _, _, h1, _⟩
    · exact ⟨none, 0, 0, by simpa using h1⟩
    · exact ⟨some a, len, cap, by simpa using h1⟩
  obtain ⟨A, n, c, rfl⟩ := hu
  obtain ⟨l, h1, h2, h3, h4⟩ := rd_strings (enc := enc) (d := y.1) (p := y.2) ht he hc ⟨fuel, h⟩
  exact ⟨A, n, c, l, rfl, h1, h2, h3, h4⟩
end
theorem array_5 {cs : Array Value} (h : cs.size = 5) : ∃ a b c d e, cs = #[a, b, c, d, e] := by
  obtain ⟨l⟩ := cs
  match l, h with
  | [a, b, c, d, e], _ => exact ⟨a, b, c, d, e, rfl⟩
theorem array_7 {cs : Array Value} (h : cs.size = 7) : ∃ a b c d e f g, cs = #[a, b, c, d, e, f, g] := by
  obtain ⟨l⟩ := cs
  match l, h with
  | [a, b, c, d, e, f, g], _ => exact ⟨a, b, c, d, e, f, g, rfl⟩
end Go.Proofs.Ytemokpnepnmmkaa
