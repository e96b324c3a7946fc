/- The trees of SyntaxLeft's scripts. No premises. -/
import Derived.Test.YtipojbknkfkgoaaDoorNn
import Derived.Test.YtipojbknkfkgoaaDoorNk
namespace Go.Proofs.YtipojbknkfkgoaaDoor
open Lx (Tok nl)
namespace syntaxLeft
abbrev L := List UInt8
/-- What stands behind the first command. -/
def txt : List Bool → L
  | [] => []
  | true :: l => 32 :: 38 :: 38 :: 32 :: 98 :: txt l
  | false :: l => 32 :: 124 :: 124 :: 10 :: 32 :: 98 :: txt l
def toks : List Bool → List Tok
  | [] => [Sx.E]
  | true :: l => ⟨2, [38, 38], [], nl (38 :: 38 :: 32 :: 98 :: txt l)⟩ :: ⟨1, [98], [], nl (98 :: txt l)⟩ :: toks l
  | false :: l => ⟨2, [124, 124], [], nl (124 :: 124 :: 10 :: 32 :: 98 :: txt l)⟩ :: ⟨3, [], [], nl (10 :: 32 :: 98 :: txt l)⟩ :: ⟨1, [98], [], nl (98 :: txt l)⟩ :: toks l
theorem txt_ends (l : List Bool) : Lx.ends (txt l) = true := by
  match l with
  | [] => rfl
  | true :: l => rfl
  | false :: l => rfl
theorem txt_word (x : L) (hx : ∀ c ∈ x, Lx.plain c = true) (l : List Bool) : Lx.word (x ++ txt l) = .ok (x, txt l) := by
  rw [Lx.word_plain x hx, Lx.word_gap _ (txt_ends l)]
  simp [Lx.pre]
theorem txt_io (x : L) (n : Nat) (l : List Bool) : Lx.io x n (txt l) = false := by
  unfold Lx.io
  match l with
  | [] => simp [txt]
  | true :: l => simp [txt]
  | false :: l => simp [txt]
theorem run_b (l : List Bool) (out : List Tok) (ho : Lx.hung out = false) : Lx.run (98 :: txt l) out [] = Lx.run (txt l) (out ++ [⟨1, [98], [], nl (98 :: txt l)⟩]) [] := by
  have := Lx.run_word 98 (txt l) [98] (txt l) out [] (by decide) (by simp) (by decide) (txt_word [98] (by decide) l) (txt_io _ _ _)
  rw [this, ho]
  rfl
theorem run_and (l : List Bool) (out : List Tok) : Lx.run (38 :: 38 :: 32 :: 98 :: txt l) out [] = Lx.run (32 :: 98 :: txt l) (out ++ [⟨2, [38, 38], [], nl (38 :: 38 :: 32 :: 98 :: txt l)⟩]) [] := by
  rw [Lx.run_at]; rfl
theorem run_or (l : List Bool) (out : List Tok) : Lx.run (124 :: 124 :: 10 :: 32 :: 98 :: txt l) out [] = Lx.run (10 :: 32 :: 98 :: txt l) (out ++ [⟨2, [124, 124], [], nl (124 :: 124 :: 10 :: 32 :: 98 :: txt l)⟩]) [] := by
  rw [Lx.run_at]; rfl
theorem run_line (l : L) (out : List Tok) : Lx.run (10 :: l) out [] = Lx.run l (out ++ [⟨3, [], [], nl (10 :: l)⟩]) [] := by
  rw [Lx.run_at]; rfl
theorem run_txt (l : List Bool) (out : List Tok) (ho : Lx.hung out = false) : Lx.run (txt l) out [] = .ok (out ++ toks l) := by
  induction l generalizing out with
  | nil => rw [txt, Lx.run_nil]; rfl
  | cons b l ih =>
    cases b with
    | true =>
      rw [txt, Lx.run_blank _ _ _ 32 (.inl rfl), run_and, Lx.run_blank _ _ _ 32 (.inl rfl), run_b _ _ (by rw [Lx.hung_snoc]; rfl), ih _ (by rw [Lx.hung_snoc]; rfl), toks]
      simp
    | false =>
      rw [txt, Lx.run_blank _ _ _ 32 (.inl rfl), run_or, run_line, Lx.run_blank _ _ _ 32 (.inl rfl), run_b _ _ (by rw [Lx.hung_snoc]; rfl), ih _ (by rw [Lx.hung_snoc]; rfl), toks]
      simp
/-- The script. -/
def script (l : List Bool) : L := [97, 48] ++ txt l
theorem all_script (l : List Bool) : Lx.all (script l) = .ok (⟨1, [97, 48], [], nl (script l)⟩ :: toks l) := by
  have := Lx.run_word 97 (48 :: txt l) [97, 48] (txt l) [] [] (by decide) (by simp) (by decide) (txt_word [97, 48] (by decide) l) (txt_io _ _ _)
  show Lx.run (97 :: 48 :: txt l) [] [] = _
  rw [this]
  show Lx.run (txt l) [⟨1, [97, 48], [], _⟩] [] = _
  rw [run_txt _ _ rfl]
  rfl
/-- A command of one word. -/
def one (w : L) (k : Nat) : Sx.Node := { kind := 1, words := [w], sets := Sx.sets [w], left := k }
def bin (b : Bool) (i j k : Nat) : Sx.Node := { kind := if b then 3 else 4, kids := [i, j], left := k }
/-- The nodes behind the first one. -/
def more (ln : Nat) : Nat → List Bool → List Sx.Node
  | _, [] => []
  | i, b :: l => one [98] (nl (98 :: txt l)) :: bin b i (i + 1) ln :: more ln (i + 2) l
theorem more_len (ln : Nat) (l : List Bool) (i : Nat) : (more ln i l).length = 2 * l.length := by
  induction l generalizing i with
  | nil => rfl
  | cons b l ih => simp only [more, List.length_cons, ih]; omega
theorem more_at (ln : Nat) (l : List Bool) (i j : Nat) (b : Bool) (h : l[j]? = some b) : (∃ k, (more ln i l)[2 * j]? = some (one [98] k)) ∧ (more ln i l)[2 * j + 1]? = some (bin b (i + 2 * j) (i + 2 * j + 1) ln) := by
  induction l generalizing i j with
  | nil => cases h
  | cons c l ih =>
    cases j with
    | zero =>
      rw [List.getElem?_cons_zero] at h
      cases h
      exact ⟨⟨_, rfl⟩, rfl⟩
    | succ j =>
      rw [List.getElem?_cons_succ] at h
      obtain ⟨⟨k, h1⟩, h2⟩ := ih (i + 2) j h
      refine ⟨⟨k, ?_⟩, ?_⟩
      · rw [more, show 2 * (j + 1) = 2 * j + 1 + 1 by omega, List.getElem?_cons_succ, List.getElem?_cons_succ, h1]
      · rw [more, show 2 * (j + 1) + 1 = 2 * j + 1 + 1 + 1 by omega, List.getElem?_cons_succ, List.getElem?_cons_succ, h2, show i + 2 + 2 * j = i + 2 * (j + 1) by omega]
theorem pipe_b (a : Sx.M Nat) (n k d : Nat) (l : List Bool) (ns : List Sx.Node) : Sx.pipeline a (n + 1 + 1) ⟨⟨1, [98], [], k⟩ :: toks l, d, ns⟩ = .ok (ns.length, ⟨toks l, d, ns ++ [one [98] k]⟩) := by
  match l with
  | [] => rfl
  | true :: l => rfl
  | false :: l => rfl
theorem pipe_a (a : Sx.M Nat) (n k d : Nat) (l : List Bool) (ns : List Sx.Node) : Sx.pipeline a (n + 1 + 1) ⟨⟨1, [97, 48], [], k⟩ :: toks l, d, ns⟩ = .ok (ns.length, ⟨toks l, d, ns ++ [one [97, 48] k]⟩) := by
  match l with
  | [] => rfl
  | true :: l => rfl
  | false :: l => rfl
theorem ao_step (a : Sx.M Nat) (n ln m i : Nat) (s : Sx.St) (h : Sx.isT [38, 38] s = true ∨ Sx.isT [124, 124] s = true) : Sx.aoF a n ln (m + 1) i s = Sx.bnd Sx.lines (fun _ => Sx.bnd (Sx.pipeline a n) fun j => Sx.bnd (Sx.add { kind := if Sx.isT [124, 124] s = true then 4 else 3, kids := [i, j], left := ln }) fun k => Sx.aoF a n ln m k) (Sx.go s) := if_pos h
theorem ao_toks (a : Sx.M Nat) (n ln : Nat) (l : List Bool) (m i : Nat) (ns : List Sx.Node) (hi : ns.length = i + 1) : Sx.aoF a (n + 1 + 1) ln (m + l.length + 1) i ⟨toks l, 0, ns⟩ = .ok (i + 2 * l.length, ⟨[Sx.E], 0, ns ++ more ln i l⟩) := by
  induction l generalizing m i ns with
  | nil => simp only [more, List.append_nil, List.length_nil, Nat.mul_zero, Nat.add_zero]; rfl
  | cons b l ih =>
    have h1 := ih m (i + 2) (ns ++ [one [98] (nl (98 :: txt l))] ++ [bin b i (i + 1) ln]) (by simp; omega)
    have e1 : (ns ++ [one [98] (nl (98 :: txt l))]).length = i + 2 := by simp; omega
    have e2 : i + 2 + 2 * l.length = i + 2 * (b :: l).length := by simp only [List.length_cons]; omega
    have e3 : ns ++ [one [98] (nl (98 :: txt l))] ++ [bin b i (i + 1) ln] ++ more ln (i + 2) l = ns ++ more ln i (b :: l) := by rw [more]; simp
    rw [e2, e3] at h1
    rw [show m + (b :: l).length + 1 = (m + l.length + 1) + 1 by simp only [List.length_cons]; omega]
    cases b with
    | true =>
      have h2 := pipe_b a n (nl (98 :: txt l)) 0 l ns
      rw [toks, ao_step _ _ _ _ _ _ (.inl rfl)]
      show Sx.bnd Sx.lines _ ⟨⟨1, [98], [], nl (98 :: txt l)⟩ :: toks l, 0, ns⟩ = _
      show Sx.bnd (Sx.pipeline a (n + 1 + 1)) _ ⟨⟨1, [98], [], nl (98 :: txt l)⟩ :: toks l, 0, ns⟩ = _
      rw [Sx.bnd_ok h2, hi]
      show Sx.aoF a (n + 1 + 1) ln (m + l.length + 1) (ns ++ [one [98] (nl (98 :: txt l))]).length _ = _
      rw [e1]
      exact h1
    | false =>
      have h2 := pipe_b a n (nl (98 :: txt l)) 0 l ns
      rw [toks, ao_step _ _ _ _ _ _ (.inr rfl)]
      show Sx.bnd Sx.lines _ ⟨⟨3, [], [], nl (10 :: 32 :: 98 :: txt l)⟩ :: ⟨1, [98], [], nl (98 :: txt l)⟩ :: toks l, 0, ns⟩ = _
      show Sx.bnd (Sx.pipeline a (n + 1 + 1)) _ ⟨⟨1, [98], [], nl (98 :: txt l)⟩ :: toks l, 0, ns⟩ = _
      rw [Sx.bnd_ok h2, hi]
      show Sx.aoF a (n + 1 + 1) ln (m + l.length + 1) (ns ++ [one [98] (nl (98 :: txt l))]).length _ = _
      rw [e1]
      exact h1
/-- The whole tree. -/
def nodes (l : List Bool) : List Sx.Node := one [97, 48] (nl (script l)) :: (more (nl (script l)) 0 l ++ [{ kind := 5, kids := [2 * l.length], left := nl (script l) }])
theorem toks_len (l : List Bool) : l.length + 1 ≤ (toks l).length := by
  induction l with
  | nil => exact Nat.le_refl _
  | cons b l ih => cases b <;> simp only [toks, List.length_cons] <;> omega
theorem tree_script (l : List Bool) : Sx.tree (script l) = .ok (nodes l) := by
  unfold Sx.tree
  rw [all_script]
  obtain ⟨q, hq⟩ : ∃ q, (toks l).length = q + l.length + 1 := ⟨(toks l).length - l.length - 1, by have := toks_len l; omega⟩
  show Sx.parse (⟨1, [97, 48], [], nl (script l)⟩ :: toks l) = _
  unfold Sx.parse
  obtain ⟨k, hk⟩ : ∃ k, k = nl (script l) := ⟨_, rfl⟩
  obtain ⟨n, hn⟩ : ∃ n, n = q + l.length + 1 := ⟨_, rfl⟩
  rw [List.length_cons, hq, ← hk, ← hn]
  have h1 := pipe_a (Sx.anyF (n + 1)) n k 0 l []
  have h2 := ao_toks (Sx.anyF (n + 1)) n k l (q + 2) 0 [one [97, 48] k] rfl
  rw [show q + 2 + l.length + 1 = n + 1 + 1 by omega] at h2
  have h3 : Sx.andOr (Sx.anyF (n + 1)) (n + 1 + 1) ⟨⟨1, [97, 48], [], k⟩ :: toks l, 0, []⟩ = .ok (2 * l.length, ⟨[Sx.E], 0, one [97, 48] k :: more k 0 l⟩) := by
    unfold Sx.andOr
    rw [Sx.bnd_ok h1]
    show Sx.aoF (Sx.anyF (n + 1)) (n + 1 + 1) k (n + 1 + 1) 0 ⟨toks l, 0, [one [97, 48] k]⟩ = _
    rw [Nat.zero_add] at h2
    exact h2
  have h5 : Sx.listF (Sx.anyF (n + 1)) (n + 1 + 1) (n + 1 + 1) [] ⟨⟨1, [97, 48], [], k⟩ :: toks l, 0, []⟩ = .ok ([2 * l.length], ⟨[Sx.E], 0, one [97, 48] k :: more k 0 l⟩) := by
    rw [Sx.listF]
    show Sx.bnd (Sx.andOr (Sx.anyF (n + 1)) (n + 1 + 1)) _ ⟨⟨1, [97, 48], [], k⟩ :: toks l, 0, []⟩ = _
    rw [Sx.bnd_ok h3]
    rfl
  have h4 : Sx.anyF (n + 1 + 1) ⟨⟨1, [97, 48], [], k⟩ :: toks l, 0, []⟩ = .ok ((one [97, 48] k :: more k 0 l).length, ⟨[Sx.E], 0, one [97, 48] k :: more k 0 l ++ [{ kind := 5, kids := [2 * l.length], left := k }]⟩) := by
    show Sx.bnd (Sx.listF (Sx.anyF (n + 1)) (n + 1 + 1) (n + 1 + 1) []) _ ⟨⟨1, [97, 48], [], k⟩ :: toks l, 0, []⟩ = _
    rw [Sx.bnd_ok h5]
    rfl
  unfold Sx.script
  rw [Sx.bnd_ok h4]
  unfold nodes
  rw [← hk]
  rfl
theorem nodes_len (l : List Bool) : (nodes l).length = 2 * l.length + 2 := by
  unfold nodes
  rw [List.length_cons, List.length_append, more_len]
  rfl
theorem nodes_last (l : List Bool) : ∃ k, (nodes l)[2 * l.length + 1]? = some { kind := 5, kids := [2 * l.length], left := k } := by
  refine ⟨nl (script l), ?_⟩
  unfold nodes
  rw [List.getElem?_cons_succ, List.getElem?_append_right (by rw [more_len]; exact Nat.le_refl _), more_len, Nat.sub_self]
  rfl
theorem nodes_first (l : List Bool) : ∃ k, (nodes l)[0]? = some (one [97, 48] k) := ⟨_, rfl⟩
theorem nodes_bin (l : List Bool) (j : Nat) (b : Bool) (h : l[j]? = some b) : (∃ k, (nodes l)[2 * j + 1]? = some (one [98] k)) ∧ ∃ k, (nodes l)[2 * j + 2]? = some (bin b (2 * j) (2 * j + 1) k) := by
  have hj : j < l.length := (List.getElem?_eq_some_iff.1 h).1
  obtain ⟨⟨k, h1⟩, h2⟩ := more_at (nl (script l)) l 0 j b h
  rw [Nat.zero_add] at h2
  unfold nodes
  refine ⟨⟨k, ?_⟩, ⟨nl (script l), ?_⟩⟩
  · rw [List.getElem?_cons_succ, List.getElem?_append_left (by rw [more_len]; omega), h1]
  · rw [show 2 * j + 2 = (2 * j + 1) + 1 from rfl, List.getElem?_cons_succ, List.getElem?_append_left (by rw [more_len]; omega), h2]
theorem txt_len (l : List Bool) : (txt l).length ≤ 6 * l.length := by
  induction l with
  | nil => exact Nat.le_refl _
  | cons b l ih => cases b <;> simp only [txt, List.length_cons] <;> omega
theorem txt_snoc (l : List Bool) (b : Bool) : txt (l ++ [b]) = txt l ++ (if b then [32, 38, 38, 32, 98] else [32, 124, 124, 10, 32, 98]) := by
  induction l with
  | nil => cases b <;> rfl
  | cons c l ih => cases c <;> simp only [List.cons_append, txt, ih]
/-- The tree of '! a | b && c'. -/
def fixedB : Bool := match Sx.tree [33, 32, 97, 32, 124, 32, 98, 32, 38, 38, 32, 99] with
  | .ok ns => ns.length == 6 && (match ns[2]? with
    | some n => n.kind == 2 && n.flag && n.kids.length == 2
    | none => false) && (match ns[4]? with
    | some n => n.kind == 3
    | none => false)
  | .error _ => false
theorem fixed1 : fixedB = true := by kernel_rfl
end syntaxLeft
end Go.Proofs.YtipojbknkfkgoaaDoor
