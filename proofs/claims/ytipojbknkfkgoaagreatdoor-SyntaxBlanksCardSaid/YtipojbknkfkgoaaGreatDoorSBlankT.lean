/- The trees of SyntaxBlanks' two scripts. No premises. -/
import Derived.Test.YtipojbknkfkgoaaGreatDoorSxT
import Derived.Test.YtipojbknkfkgoaaGreatDoorSxN
import Derived.Test.YtipojbknkfkgoaaGreatDoorNz
import Derived.Test.YtipojbknkfkgoaaGreatDoorNk
namespace Go.Proofs.YtipojbknkfkgoaaGreatDoor
open Lx (Tok nl)
namespace Sx
theorem shift_zero (n : Node) : strip (shift 0 n) = strip n := by
  unfold shift strip
  simp
/-- Tokens that are read alike give the same nodes, or the same error. -/
theorem parse_rel {ts ts' : List Tok} (hg : good ts = true) (h : Rel False [] ts ts') (hl : ts.length ≤ ts'.length) :
    (∃ ns ns', parse ts = .ok ns ∧ parse ts' = .ok ns' ∧ ns'.map strip = ns.map strip) ∨ ∃ k l l', parse ts = .error (k, l) ∧ parse ts' = .error (k, l') := by
  have hz := parse_nz hg
  have key := any_lv (D := False) (Q := []) (pre := []) (ts.length + 1) (ts'.length + 1) (by omega) ⟨ts, 0, []⟩ ⟨ts', 0, []⟩ ⟨h, nofun, rfl, rfl⟩
  unfold parse script at hz ⊢
  unfold Res at key
  cases e : anyF (ts.length + 1) ⟨ts, 0, []⟩ with
  | error x =>
    obtain ⟨k, l⟩ := x
    rw [e] at key
    rcases key with h | h | ⟨l', h⟩
    · exact h.elim
    · subst h
      exact absurd (by rw [bnd_error e]) (hz l)
    · exact .inr ⟨k, l, l', by rw [bnd_error e], by rw [bnd_error h]⟩
  | ok x =>
    obtain ⟨i, s1⟩ := x
    rw [e] at key
    rcases key with ⟨_, h, _⟩ | ⟨i', s1', h, hv, hlv⟩
    · exact h.elim
    · rw [bnd_ok e, bnd_ok h]
      simp only [hlv.hd.kind]
      by_cases h4 : (hd s1).kind = 4
      · simp only [if_pos h4]
        refine .inl ⟨s1.ns, s1'.ns, rfl, rfl, ?_⟩
        rw [hlv.ns]
        simp only [List.map_nil, List.nil_append, List.length_nil]
        exact List.map_congr_left fun n _ => shift_zero n
      · simp only [if_neg h4]
        exact .inr ⟨20, _, _, rfl, rfl⟩
end Sx
namespace syntaxBlanks
abbrev L := List UInt8
/-- The bytes that a line may have. -/
def okC (c : UInt8) : Bool := (decide (97 ≤ c) && decide (c ≤ 122)) || c == 59 || c == 38 || c == 124 || c == 40 || c == 41 || c == 123 || c == 125 || c == 33
def sgn (c : UInt8) : Bool := c == 59 || c == 38 || c == 124 || c == 40 || c == 41
theorem each_byte {P : UInt8 → Bool} (h : ∀ n : _root_.Fin 256, P (UInt8.ofNat n.val) = true) (c : UInt8) : P c = true := by
  have := h ⟨c.toNat, c.toNat_lt⟩
  simpa using this
theorem okC_sgn {c : UInt8} (h : okC c = true) (hs : sgn c = false) : Lx.good c = true := by
  have := each_byte (P := fun c => !(okC c) || sgn c || Lx.good c) (by decide +kernel) c
  simpa [h, hs] using this
theorem sgn_good {c : UInt8} (h : sgn c = true) : Lx.stop c = true ∧ Lx.good c = false ∧ ¬ (c = 32 ∨ c = 9) ∧ c ≠ 92 ∧ c ≠ 35 ∧ c ≠ 10 ∧ c ≠ 60 ∧ c ≠ 62 := by
  have hcc : c = 59 ∨ c = 38 ∨ c = 124 ∨ c = 40 ∨ c = 41 := by
    simp only [sgn, Bool.or_eq_true, beq_iff_eq] at h
    rcases h with (((h | h) | h) | h) | h <;> simp [h]
  rcases hcc with rfl | rfl | rfl | rfl | rfl <;> decide
/-- Behind a line. -/
def Gp (z : L) : Prop := ∃ c r, z = c :: r ∧ (c = 10 ∨ c = 32)
theorem Gp.head {z : L} (h : Gp z) {c : UInt8} (hc : c ≠ 10 ∧ c ≠ 32) : z.head? ≠ some c := by
  obtain ⟨d, r, rfl, h⟩ := h
  simp
  rintro rfl
  rcases h with h | h
  · exact hc.1 h
  · exact hc.2 h
theorem Gp.ends {z : L} (h : Gp z) : Lx.ends z = true := by
  obtain ⟨d, r, rfl, h | h⟩ := h <;> subst h <;> rfl
theorem head_app {r z : L} {d : UInt8} {r2 : L} (h : r = d :: r2) : (r ++ z).head? = some d ∧ (r ++ z).tail = r2 ++ z := by subst h; exact ⟨rfl, rfl⟩
/-- A sign, whatever stands behind the line. -/
theorem sign_gap (c : UInt8) (r : L) (hc : sgn c = true) : (∃ t r1, r1.length ≤ r.length ∧ r1 <:+ r ∧ t ≠ [60, 60] ∧ ∀ z, Gp z → Lx.sign (c :: (r ++ z)) = some (t, r1 ++ z)) ∨ (c = 38 ∧ ∀ z, Gp z → Lx.sign (c :: (r ++ z)) = none) := by
  have hcc : c = 59 ∨ c = 38 ∨ c = 124 ∨ c = 40 ∨ c = 41 := by
    simp only [sgn, Bool.or_eq_true, beq_iff_eq] at hc
    rcases hc with (((h | h) | h) | h) | h <;> simp [h]
  have two : ∀ d : UInt8, d ≠ 10 ∧ d ≠ 32 → (∃ r2, r = d :: r2) ∨ ∀ z, Gp z → (r ++ z).head? ≠ some d := fun d hd => by
    cases r with
    | nil => exact .inr fun z hz => hz.head hd
    | cons e r2 =>
      by_cases he : e = d
      · subst he; exact .inl ⟨r2, rfl⟩
      · exact .inr fun z hz => by simp [he]
  rcases hcc with rfl | rfl | rfl | rfl | rfl
  · rcases two 59 (by decide) with ⟨r2, hr⟩ | h
    · exact .inl ⟨[59, 59], r2, by rw [hr]; simp, by rw [hr]; exact List.suffix_cons _ _, by decide, fun z hz => by
        obtain ⟨h1, h2⟩ := head_app (z := z) hr
        simp [Lx.sign, -List.head?_append, h1, h2]⟩
    · exact .inl ⟨[59], r, Nat.le_refl _, List.suffix_refl _, by decide, fun z hz => by simp [Lx.sign, -List.head?_append, h z hz]⟩
  · rcases two 38 (by decide) with ⟨r2, hr⟩ | h
    · exact .inl ⟨[38, 38], r2, by rw [hr]; simp, by rw [hr]; exact List.suffix_cons _ _, by decide, fun z hz => by
        obtain ⟨h1, h2⟩ := head_app (z := z) hr
        simp [Lx.sign, -List.head?_append, h1, h2]⟩
    · exact .inr ⟨rfl, fun z hz => by simp [Lx.sign, -List.head?_append, h z hz]⟩
  · rcases two 124 (by decide) with ⟨r2, hr⟩ | h
    · exact .inl ⟨[124, 124], r2, by rw [hr]; simp, by rw [hr]; exact List.suffix_cons _ _, by decide, fun z hz => by
        obtain ⟨h1, h2⟩ := head_app (z := z) hr
        simp [Lx.sign, -List.head?_append, h1, h2]⟩
    · exact .inl ⟨[124], r, Nat.le_refl _, List.suffix_refl _, by decide, fun z hz => by simp [Lx.sign, -List.head?_append, h z hz]⟩
  · exact .inl ⟨[40], r, Nat.le_refl _, List.suffix_refl _, by decide, fun z hz => by simp [Lx.sign]⟩
  · exact .inl ⟨[41], r, Nat.le_refl _, List.suffix_refl _, by decide, fun z hz => by simp [Lx.sign]⟩
/-- The same tokens of a line. -/
inductive Pl : List Tok → List Tok → Prop
  | nil : Pl [] []
  | cons {t u : Tok} {p q : List Tok} : Sx.Same t u → t.kind = 1 ∨ t.kind = 2 → Pl p q → Pl (t :: p) (u :: q)
theorem Pl.len {p q : List Tok} (h : Pl p q) : q.length = p.length := by
  induction h with
  | nil => rfl
  | cons _ _ _ ih => simp [ih]
theorem run_sign {c : UInt8} {l t r : L} (hc : sgn c = true) (h : Lx.sign (c :: l) = some (t, r)) (out : List Tok) : Lx.run (c :: l) out [] = Lx.run r (out ++ [⟨2, t, [], nl (c :: l)⟩]) [] := by
  obtain ⟨_, _, h1, h2, h3, h4, _, _⟩ := sgn_good hc
  rw [Lx.run_at, Lx.step]
  simp only [if_neg h1, if_neg (show ¬ (c = 92 ∧ l.head? = some 10) from fun h => h2 h.1), if_neg h3, if_neg h4, h]
theorem run_amp {l : L} (h : Lx.sign (38 :: l) = none) (out : List Tok) : Lx.run (38 :: l) out [] = .error (20, nl (38 :: l)) := by
  rw [Lx.run_at, Lx.step]
  simp [h]
theorem line_run (n : Nat) : ∀ (x : L), x.length ≤ n → (∀ c ∈ x, okC c = true) → ∀ (z z' : L) (out out' : List Tok), Gp z → Gp z' → Lx.hung out = false → Lx.hung out' = false →
    (∃ p p', Lx.run (x ++ z) out [] = Lx.run z (out ++ p) [] ∧ Lx.run (x ++ z') out' [] = Lx.run z' (out' ++ p') [] ∧ Lx.hung (out ++ p) = false ∧ Lx.hung (out' ++ p') = false ∧ Pl p p') ∨
    ∃ l l', Lx.run (x ++ z) out [] = .error (20, l) ∧ Lx.run (x ++ z') out' [] = .error (20, l') := by
  induction n with
  | zero =>
    intro x hx _ z z' out out' _ _ ho ho'
    have : x = [] := List.eq_nil_of_length_eq_zero (by omega)
    subst this
    exact .inl ⟨[], [], by simp, by simp, by simpa using ho, by simpa using ho', .nil⟩
  | succ n ih =>
    intro x hx hok z z' out out' hz hz' ho ho'
    cases x with
    | nil => exact .inl ⟨[], [], by simp, by simp, by simpa using ho, by simpa using ho', .nil⟩
    | cons c r =>
      simp only [List.length_cons] at hx
      -- what comes of a token ahead
      have next : ∀ (k : Nat) (t r1 : L) (m m' : Nat), (k = 1 ∨ k = 2) → (k == 2 && t == [60, 60]) = false → r1.length ≤ n → r1 <:+ (c :: r) → Lx.run (c :: r ++ z) out [] = Lx.run (r1 ++ z) (out ++ [⟨k, t, [], m⟩]) [] → Lx.run (c :: r ++ z') out' [] = Lx.run (r1 ++ z') (out' ++ [⟨k, t, [], m'⟩]) [] →
          (∃ p p', Lx.run (c :: r ++ z) out [] = Lx.run z (out ++ p) [] ∧ Lx.run (c :: r ++ z') out' [] = Lx.run z' (out' ++ p') [] ∧ Lx.hung (out ++ p) = false ∧ Lx.hung (out' ++ p') = false ∧ Pl p p') ∨
          ∃ l l', Lx.run (c :: r ++ z) out [] = .error (20, l) ∧ Lx.run (c :: r ++ z') out' [] = .error (20, l') := by
        intro k t r1 m m' hk ht hr1 hs e1 e2
        rw [e1, e2]
        rcases ih r1 hr1 (fun b hb => hok b (hs.subset hb)) z z' (out ++ [⟨k, t, [], m⟩]) (out' ++ [⟨k, t, [], m'⟩]) hz hz' (by rw [Lx.hung_snoc]; exact ht) (by rw [Lx.hung_snoc]; exact ht) with ⟨p, p', a1, a2, a3, a4, a5⟩ | ⟨l, l', a1, a2⟩
        · refine .inl ⟨⟨k, t, [], m⟩ :: p, ⟨k, t, [], m'⟩ :: p', ?_, ?_, ?_, ?_, .cons ⟨rfl, rfl, fun _ => rfl⟩ hk a5⟩
          · rw [a1, List.append_assoc]; rfl
          · rw [a2, List.append_assoc]; rfl
          · rw [List.append_assoc] at a3; exact a3
          · rw [List.append_assoc] at a4; exact a4
        · exact .inr ⟨l, l', a1, a2⟩
      by_cases hc : sgn c = true
      · rcases sign_gap c r hc with ⟨t, r1, h1, h2, h3, h4⟩ | ⟨h1, h2⟩
        · refine next 2 t r1 _ _ (.inr rfl) (by simp [h3]) (by omega) (h2.trans (List.suffix_cons _ _)) (run_sign hc (h4 z hz) out) (run_sign hc (h4 z' hz') out')
        · subst h1
          exact .inr ⟨_, _, run_amp (h2 z hz) out, run_amp (h2 z' hz') out'⟩
      · have hgc := okC_sgn (hok c (by simp)) (by simpa using hc)
        obtain ⟨y, r1, hy, hyg, hr1⟩ : ∃ y r1, c :: r = (c :: y) ++ r1 ∧ (∀ b ∈ c :: y, Lx.good b = true) ∧ (r1 = [] ∨ ∃ d q, r1 = d :: q ∧ sgn d = true) := by
          refine ⟨r.takeWhile Lx.good, r.dropWhile Lx.good, by simp, fun b hb => ?_, ?_⟩
          · rcases List.mem_cons.1 hb with rfl | hb
            · exact hgc
            · exact List.all_eq_true.1 List.all_takeWhile b hb
          · cases e : r.dropWhile Lx.good with
            | nil => exact .inl rfl
            | cons d q =>
              refine .inr ⟨d, q, rfl, ?_⟩
              have hd : d ∈ r := (List.dropWhile_suffix _).subset (by rw [e]; simp)
              have hng : Lx.good d = false := by
                have := List.head_dropWhile_not Lx.good (l := r) (by rw [e]; simp)
                simpa [e] using this
              cases hs : sgn d with
              | true => rfl
              | false => rw [okC_sgn (hok d (by simp [hd])) hs] at hng; cases hng
        have hl1 : r1.length ≤ n := by have := congrArg List.length hy; simp at this; omega
        have hgap : ∀ w, Gp w → Lx.ends (r1 ++ w) = true ∧ (r1 ++ w).head? ≠ some 60 ∧ (r1 ++ w).head? ≠ some 62 := fun w hw => by
          rcases hr1 with rfl | ⟨d, q, rfl, hd⟩
          · exact ⟨hw.ends, hw.head (by decide), hw.head (by decide)⟩
          · have := sgn_good hd
            refine ⟨?_, by simpa using this.2.2.2.2.2.2.1, by simpa using this.2.2.2.2.2.2.2⟩
            show Lx.stop d = true
            exact this.1
        have hrun : ∀ w o, Gp w → Lx.hung o = false → Lx.run (c :: r ++ w) o [] = Lx.run (r1 ++ w) (o ++ [⟨1, c :: y, [], nl (r1 ++ w)⟩]) [] := fun w o hw hoo => by
          obtain ⟨g1, g2⟩ := hgap w hw
          rw [hy, List.append_assoc]
          refine Lx.run_plain (c :: y) (c :: y) (r1 ++ w) (r1 ++ w) (by simp) hyg ?_ g2 o hoo
          rw [Lx.word_plain _ (fun b hb => by have := hyg b hb; simp only [Lx.good, Bool.and_eq_true] at this; exact this.1), Lx.word_gap _ g1]
          simp [Lx.pre]
        exact next 1 (c :: y) r1 _ _ (.inl rfl) (by simp) hl1 (by rw [hy]; exact List.suffix_append _ _) (hrun z out hz ho) (hrun z' out' hz' ho')
/-- The two scripts. -/
def sA (ls : List L) : L := ls.flatMap fun x => x ++ [10]
def sB (more : L) (ls : List L) : L := ls.flatMap fun x => [32, 9] ++ x ++ [32, 35] ++ more ++ [10, 10]
theorem run_line (l : L) (out : List Tok) : Lx.run (10 :: l) out [] = Lx.run l (out ++ [⟨3, [], [], nl (10 :: l)⟩]) [] := by
  rw [Lx.run_at]; rfl
theorem skip_more (more : L) (h : ∀ c ∈ more, c ≠ 10) (l : L) : Lx.skip (more ++ 10 :: l) = 10 :: l := by
  induction more with
  | nil => simp [Lx.skip]
  | cons c r ih =>
    rw [List.cons_append, Lx.skip, if_neg (h c (by simp))]
    exact ih fun b hb => h b (by simp [hb])
theorem run_note (more : L) (h : ∀ c ∈ more, c ≠ 10) (l : L) (out : List Tok) : Lx.run (32 :: 35 :: (more ++ 10 :: l)) out [] = Lx.run (10 :: l) out [] := by
  rw [Lx.run_blank _ _ _ 32 (.inl rfl), Lx.run_at]
  have e : Lx.step (35 :: (more ++ 10 :: l)) out [] = .more (Lx.skip (more ++ 10 :: l)) out [] := rfl
  rw [e, skip_more more h]
theorem Pl.rel {p p' r r' : List Tok} (h : Pl p p') (hr : Sx.Rel False [] r r') : Sx.Rel False [] (p ++ r) (p' ++ r') := by
  induction h with
  | nil => exact hr
  | cons h1 h2 _ ih => exact .tok h1 (by rcases h2 with h | h <;> rw [h] <;> decide) nofun (fun h => by rcases h2 with h' | h' <;> rw [h'] at h <;> cases h) ih
theorem run_two (more : L) (hm : ∀ c ∈ more, c ≠ 10) (ls : List L) (hls : ∀ x ∈ ls, ∀ c ∈ x, okC c = true) (out out' : List Tok) (ho : Lx.hung out = false) (ho' : Lx.hung out' = false) :
    (∃ q q', Lx.run (sA ls) out [] = .ok (out ++ q) ∧ Lx.run (sB more ls) out' [] = .ok (out' ++ q') ∧ Sx.Rel False [] q q' ∧ q.length ≤ q'.length) ∨
    ∃ l l', Lx.run (sA ls) out [] = .error (20, l) ∧ Lx.run (sB more ls) out' [] = .error (20, l') := by
  induction ls generalizing out out' with
  | nil => exact .inl ⟨[Sx.E], [Sx.E], Lx.run_nil out, Lx.run_nil out', .tok ⟨rfl, rfl, fun _ => rfl⟩ (by decide) nofun (fun h => by cases h) (.nil id), Nat.le_refl _⟩
  | cons x ls ih =>
    have eA : sA (x :: ls) = x ++ 10 :: sA ls := by simp [sA]
    have eB : sB more (x :: ls) = 32 :: 9 :: (x ++ 32 :: 35 :: (more ++ 10 :: 10 :: sB more ls)) := by simp [sB]
    rw [eA, eB, Lx.run_blank _ _ _ 32 (.inl rfl), Lx.run_blank _ _ _ 9 (.inr rfl)]
    rcases line_run x.length x (Nat.le_refl _) (hls x (by simp)) (10 :: sA ls) (32 :: 35 :: (more ++ 10 :: 10 :: sB more ls)) out out' ⟨_, _, rfl, .inl rfl⟩ ⟨_, _, rfl, .inr rfl⟩ ho ho' with ⟨p, p', a1, a2, a3, a4, a5⟩ | ⟨l, l', a1, a2⟩
    · rw [a1, a2, run_line, run_note more hm, run_line, run_line]
      rcases ih (fun y hy => hls y (by simp [hy])) (out ++ p ++ [⟨3, [], [], nl (10 :: sA ls)⟩]) (out' ++ p' ++ [⟨3, [], [], nl (10 :: 10 :: sB more ls)⟩] ++ [⟨3, [], [], nl (10 :: sB more ls)⟩]) (by rw [Lx.hung_snoc]; rfl) (by rw [Lx.hung_snoc]; rfl) with ⟨q, q', b1, b2, b3, b4⟩ | ⟨l, l', b1, b2⟩
      · refine .inl ⟨p ++ ⟨3, [], [], nl (10 :: sA ls)⟩ :: q, p' ++ ⟨3, [], [], nl (10 :: 10 :: sB more ls)⟩ :: ⟨3, [], [], nl (10 :: sB more ls)⟩ :: q', ?_, ?_, a5.rel (.line rfl rfl rfl rfl ?_), ?_⟩
        · rw [b1]; simp
        · rw [b2]; simp
        · have : Sx.dropL (⟨3, [], [], nl (10 :: sB more ls)⟩ :: q') = Sx.dropL q' := by rw [Sx.dropL, if_pos rfl]
          rw [this]
          exact b3.drop nofun
        · have := a5.len
          simp only [List.length_append, List.length_cons]
          omega
      · exact .inr ⟨l, l', b1, b2⟩
    · exact .inr ⟨l, l', a1, a2⟩
/-- Both trees, but for where the nodes stand; or the same error. -/
theorem trees (more : L) (hm : ∀ c ∈ more, c ≠ 10) (ls : List L) (hls : ∀ x ∈ ls, ∀ c ∈ x, okC c = true) :
    (∃ ns ns', Sx.tree (sA ls) = .ok ns ∧ Sx.tree (sB more ls) = .ok ns' ∧ ns'.map Sx.strip = ns.map Sx.strip) ∨ ∃ k l l', Sx.tree (sA ls) = .error (k, l) ∧ Sx.tree (sB more ls) = .error (k, l') := by
  unfold Sx.tree Lx.all
  rcases run_two more hm ls hls [] [] rfl rfl with ⟨q, q', h1, h2, h3, h4⟩ | ⟨l, l', h1, h2⟩
  · rw [List.nil_append] at h1 h2
    rw [h1, h2]
    exact Sx.parse_rel (Lx.all_good (s := sA ls) h1) h3 h4
  · rw [h1, h2]
    exact .inr ⟨20, l, l', rfl, rfl⟩
end syntaxBlanks
end Go.Proofs.YtipojbknkfkgoaaGreatDoor
