/- The trees of SyntaxQuoted's scripts. No premises. -/
import Derived.Test.YtipojbknkfkgoaaDoorOa
namespace Go.Proofs.YtipojbknkfkgoaaDoor
namespace syntaxQuoted
open Lx (nl Tok)
abbrev L := List UInt8
def W16 : List L := [[33], [123], [125], [99, 97, 115, 101], [100, 111], [100, 111, 110, 101], [101, 108, 105, 102], [101, 108, 115, 101], [101, 115, 97, 99], [102, 105], [102, 111, 114], [105, 102], [116, 104, 101, 110], [117, 110, 116, 105, 108], [119, 104, 105, 108, 101], [105, 110]]
/-- A script of one simple command of words ws. -/
def One (ws : List L) (st : Nat) (rs : List Sx.Arw) : List Sx.Node := [{ kind := 1, words := ws, sets := st, redirs := rs }, { kind := 5, kids := [0] }]
def raws (w : L) : List L := [39 :: w ++ [39], 92 :: w, 34 :: w ++ [34]]
set_option maxRecDepth 100000 in
theorem trees : ∀ w ∈ W16, Sx.tree (39 :: w ++ [39] ++ [32, 120]) = .ok (One [39 :: w ++ [39], [120]] 0 []) ∧ Sx.tree (92 :: w ++ [32, 120]) = .ok (One [92 :: w, [120]] 0 []) ∧ Sx.tree (34 :: w ++ [34] ++ [32, 120]) = .ok (One [34 :: w ++ [34], [120]] 0 []) ∧
    Sx.tree ([120, 32] ++ w) = .ok (One [[120], w] 0 []) ∧ Sx.tree ([121, 61, 49, 32] ++ w ++ [32, 62] ++ w) = .ok (One [[121, 61, 49], w] 1 [⟨1, [62], w, []⟩]) := by
  intro w hw
  simp only [W16, List.mem_cons, List.not_mem_nil, or_false] at hw
  rcases hw with rfl | rfl | rfl | rfl | rfl | rfl | rfl | rfl | rfl | rfl | rfl | rfl | rfl | rfl | rfl | rfl <;> exact ⟨by kernel_rfl, by kernel_rfl, by kernel_rfl, by kernel_rfl, by kernel_rfl⟩
end syntaxQuoted
end Go.Proofs.YtipojbknkfkgoaaDoor
