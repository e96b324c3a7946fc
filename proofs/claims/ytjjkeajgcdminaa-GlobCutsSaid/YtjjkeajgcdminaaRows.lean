/-
  No cell of these rows narrows 'for every input' (looked for: loops, veiled, ifaces, maps, wideKeys, modest, calm, conditions, laid).
  DERIVED. THE GIVEN ROWS OF THIS SEAT. 5 by the template 'for every input the law returns true; each argument reads behind the call as it read before'; 0 by the template 'total and deterministic' (their statements: YtjjkeajgcdminaaTotals.lean).
  GIVEN WITH THE SEED: the statements are not yours to turn. If you find one false, say at which input.
  Laid BY PROGRAM, IN A SANDBOX (cutbox-rows.mjs): the forced cells as the released guide's own fill.sh prints them over the translation 746c7c9f8b01f1dd… (all of the seat's roots in one cut). By AI agents, Wed Nov 11 2026. No macro, syntax, notation, axiom, sorry.
-/
import Derived.Test.YtjjkeajgcdminaaChecked
import GoSem.Claim
import GoSem.ClaimJoined
import GoSem.ClaimMapViews
import Derived.JoinedTies
import Derived.KernelRfl
namespace Go.Proofs.Ytjjkeajgcdminaa
/- THE CELL 'sum', in the pinned program and in every row, IS THE sha256 OF THE DUMP (.gsa) THAT YtjjkeajgcdminaaProg.lean LOADS. Nothing in Lean hashes anything: it is a label: what it is worth is what the hold of that sum in a sandbox is worth. -/
noncomputable def Try.pinned : Pinned := { name := "ytjjkeajgcdminaa", sum := "746c7c9f8b01f1dd132078db254de2ccf94f6071e683aa67df6e495a4183ee77", checked := Try.checked }
namespace Rows
def none {H : Type} : Left H := { results := [], args := [] }

/-- 'kinetoscopelaw11.GlobMatches': WHATEVER THE INPUT: true; the input reads as it did. -/
def globMatchesSpec : ChangeSpec := { name := "globMatches", fn := fun _ => fun
  | [d1, d2] => { results := [.lit (.bool true)], args := [d1, d2] }
  | _ => none }
def globMatchesRow : OpenClaim := { program := "ytjjkeajgcdminaa", sum := "746c7c9f8b01f1dd132078db254de2ccf94f6071e683aa67df6e495a4183ee77", func := "kinetoscope/kinetoscopelaw11.GlobMatches", spec := "globMatches", unfollowed := true, recurses := true, apart := false }
def GlobMatchesSaid : Prop := globMatchesRow.holds Try.pinned (OpenSpec.ofChange globMatchesSpec)

/-- ITS FALSE NEIGHBOUR: 'it returns false'. Refute it at one input. -/
def globMatchesWrong : ChangeSpec := { name := "globMatches", fn := fun _ => fun
  | [d1, d2] => { results := [.lit (.bool false)], args := [d1, d2] }
  | _ => none }
def GlobMatchesWrongFalsely : Prop := globMatchesRow.holds Try.pinned (OpenSpec.ofChange globMatchesWrong)

/-- 'kinetoscopelaw11.GlobCuts': WHATEVER THE INPUT: true; the input reads as it did. -/
def globCutsSpec : ChangeSpec := { name := "globCuts", fn := fun _ => fun
  | [d1, d2, d3] => { results := [.lit (.bool true)], args := [d1, d2, d3] }
  | _ => none }
def globCutsRow : OpenClaim := { program := "ytjjkeajgcdminaa", sum := "746c7c9f8b01f1dd132078db254de2ccf94f6071e683aa67df6e495a4183ee77", func := "kinetoscope/kinetoscopelaw11.GlobCuts", spec := "globCuts", unfollowed := true, recurses := true, apart := false }
def GlobCutsSaid : Prop := globCutsRow.holds Try.pinned (OpenSpec.ofChange globCutsSpec)

/-- ITS FALSE NEIGHBOUR: 'it returns false'. Refute it at one input. -/
def globCutsWrong : ChangeSpec := { name := "globCuts", fn := fun _ => fun
  | [d1, d2, d3] => { results := [.lit (.bool false)], args := [d1, d2, d3] }
  | _ => none }
def GlobCutsWrongFalsely : Prop := globCutsRow.holds Try.pinned (OpenSpec.ofChange globCutsWrong)

/-- 'kinetoscopelaw11.GlobPlain': WHATEVER THE INPUT: true; the input reads as it did. -/
def globPlainSpec : ChangeSpec := { name := "globPlain", fn := fun _ => fun
  | [d1, d2] => { results := [.lit (.bool true)], args := [d1, d2] }
  | _ => none }
def globPlainRow : OpenClaim := { program := "ytjjkeajgcdminaa", sum := "746c7c9f8b01f1dd132078db254de2ccf94f6071e683aa67df6e495a4183ee77", func := "kinetoscope/kinetoscopelaw11.GlobPlain", spec := "globPlain", unfollowed := true, recurses := true, apart := false }
def GlobPlainSaid : Prop := globPlainRow.holds Try.pinned (OpenSpec.ofChange globPlainSpec)

/-- ITS FALSE NEIGHBOUR: 'it returns false'. Refute it at one input. -/
def globPlainWrong : ChangeSpec := { name := "globPlain", fn := fun _ => fun
  | [d1, d2] => { results := [.lit (.bool false)], args := [d1, d2] }
  | _ => none }
def GlobPlainWrongFalsely : Prop := globPlainRow.holds Try.pinned (OpenSpec.ofChange globPlainWrong)

/-- 'kinetoscopelaw11.GlobParts': WHATEVER THE INPUT: true; the input reads as it did. -/
def globPartsSpec : ChangeSpec := { name := "globParts", fn := fun _ => fun
  | [d1, d2, d3, d4] => { results := [.lit (.bool true)], args := [d1, d2, d3, d4] }
  | _ => none }
def globPartsRow : OpenClaim := { program := "ytjjkeajgcdminaa", sum := "746c7c9f8b01f1dd132078db254de2ccf94f6071e683aa67df6e495a4183ee77", func := "kinetoscope/kinetoscopelaw11.GlobParts", spec := "globParts", unfollowed := true, recurses := true, apart := false }
def GlobPartsSaid : Prop := globPartsRow.holds Try.pinned (OpenSpec.ofChange globPartsSpec)

/-- ITS FALSE NEIGHBOUR: 'it returns false'. Refute it at one input. -/
def globPartsWrong : ChangeSpec := { name := "globParts", fn := fun _ => fun
  | [d1, d2, d3, d4] => { results := [.lit (.bool false)], args := [d1, d2, d3, d4] }
  | _ => none }
def GlobPartsWrongFalsely : Prop := globPartsRow.holds Try.pinned (OpenSpec.ofChange globPartsWrong)

/-- 'kinetoscopelaw11.GlobBoth': WHATEVER THE INPUT: true; the input reads as it did. -/
def globBothSpec : ChangeSpec := { name := "globBoth", fn := fun _ => fun
  | [d1, d2, d3, d4, d5] => { results := [.lit (.bool true)], args := [d1, d2, d3, d4, d5] }
  | _ => none }
def globBothRow : OpenClaim := { program := "ytjjkeajgcdminaa", sum := "746c7c9f8b01f1dd132078db254de2ccf94f6071e683aa67df6e495a4183ee77", func := "kinetoscope/kinetoscopelaw11.GlobBoth", spec := "globBoth", unfollowed := true, recurses := true, apart := false }
def GlobBothSaid : Prop := globBothRow.holds Try.pinned (OpenSpec.ofChange globBothSpec)

/-- ITS FALSE NEIGHBOUR: 'it returns false'. Refute it at one input. -/
def globBothWrong : ChangeSpec := { name := "globBoth", fn := fun _ => fun
  | [d1, d2, d3, d4, d5] => { results := [.lit (.bool false)], args := [d1, d2, d3, d4, d5] }
  | _ => none }
def GlobBothWrongFalsely : Prop := globBothRow.holds Try.pinned (OpenSpec.ofChange globBothWrong)

/- THE SECOND FORM. 'bulk': how many values and letters a reading holds, each counted each time it is reached (what is shared counts as often as it is met; a slice's spare places count too). A statement '..UptoSaid' is the law's where the arguments, and the package variables that the reading takes, are together of bulk at most 1048576: NARROWER than '..Said'. Prove '..Said' where nothing that the law and all that it calls make is longer than what came in: it says more and counts as full. Else prove '..UptoSaid'. A law counts once. -/
mutual
def uptoBulk {H : Type} : DataW H → Nat
  | .lit (.string bytes) => bytes.length + 1
  | .lit _ => 1
  | .nil => 1
  | .ptr d => uptoBulk d + 1
  | .slice elems spare => uptoBulkAll elems + uptoBulkAll spare + 1
  | .agg parts => uptoBulkAll parts + 1
  | .iface _ d => uptoBulk d + 1
  | .map entries => uptoBulkEntries entries + 1
  | .held _ => 1
def uptoBulkAll {H : Type} : List (DataW H) → Nat
  | [] => 0
  | d :: r => uptoBulk d + uptoBulkAll r
def uptoBulkEntries {H : Type} : List (Lit × DataW H) → Nat
  | [] => 0
  | x :: r => uptoBulkEntry x + uptoBulkEntries r
def uptoBulkEntry {H : Type} : Lit × DataW H → Nat
  | (.string bytes, d) => bytes.length + uptoBulk d + 1
  | (_, d) => uptoBulk d + 1
 end
def uptoSmall : (H : Type) → List (DataW H) → Bool := fun _ ds => decide (uptoBulkAll ds ≤ 1048576)
def OpenSpec.upto (s : _root_.Go.ChangeSpec) : _root_.Go.OpenSpec := { _root_.Go.OpenSpec.ofChange s with cond := some uptoSmall }

/-- 'kinetoscopelaw11.GlobMatches', WHERE WHAT IT READS IS OF BULK AT MOST 1048576: true; the input reads as it did. -/
def globMatchesUptoRow : OpenClaim := { program := "ytjjkeajgcdminaa", sum := "746c7c9f8b01f1dd132078db254de2ccf94f6071e683aa67df6e495a4183ee77", func := "kinetoscope/kinetoscopelaw11.GlobMatches", spec := "globMatches", unfollowed := true, recurses := true, apart := false, narrowed := true }
def GlobMatchesUptoSaid : Prop := globMatchesUptoRow.holds Try.pinned (OpenSpec.upto globMatchesSpec)

/-- 'kinetoscopelaw11.GlobCuts', WHERE WHAT IT READS IS OF BULK AT MOST 1048576: true; the input reads as it did. -/
def globCutsUptoRow : OpenClaim := { program := "ytjjkeajgcdminaa", sum := "746c7c9f8b01f1dd132078db254de2ccf94f6071e683aa67df6e495a4183ee77", func := "kinetoscope/kinetoscopelaw11.GlobCuts", spec := "globCuts", unfollowed := true, recurses := true, apart := false, narrowed := true }
def GlobCutsUptoSaid : Prop := globCutsUptoRow.holds Try.pinned (OpenSpec.upto globCutsSpec)

/-- 'kinetoscopelaw11.GlobPlain', WHERE WHAT IT READS IS OF BULK AT MOST 1048576: true; the input reads as it did. -/
def globPlainUptoRow : OpenClaim := { program := "ytjjkeajgcdminaa", sum := "746c7c9f8b01f1dd132078db254de2ccf94f6071e683aa67df6e495a4183ee77", func := "kinetoscope/kinetoscopelaw11.GlobPlain", spec := "globPlain", unfollowed := true, recurses := true, apart := false, narrowed := true }
def GlobPlainUptoSaid : Prop := globPlainUptoRow.holds Try.pinned (OpenSpec.upto globPlainSpec)

/-- 'kinetoscopelaw11.GlobParts', WHERE WHAT IT READS IS OF BULK AT MOST 1048576: true; the input reads as it did. -/
def globPartsUptoRow : OpenClaim := { program := "ytjjkeajgcdminaa", sum := "746c7c9f8b01f1dd132078db254de2ccf94f6071e683aa67df6e495a4183ee77", func := "kinetoscope/kinetoscopelaw11.GlobParts", spec := "globParts", unfollowed := true, recurses := true, apart := false, narrowed := true }
def GlobPartsUptoSaid : Prop := globPartsUptoRow.holds Try.pinned (OpenSpec.upto globPartsSpec)

/-- 'kinetoscopelaw11.GlobBoth', WHERE WHAT IT READS IS OF BULK AT MOST 1048576: true; the input reads as it did. -/
def globBothUptoRow : OpenClaim := { program := "ytjjkeajgcdminaa", sum := "746c7c9f8b01f1dd132078db254de2ccf94f6071e683aa67df6e495a4183ee77", func := "kinetoscope/kinetoscopelaw11.GlobBoth", spec := "globBoth", unfollowed := true, recurses := true, apart := false, narrowed := true }
def GlobBothUptoSaid : Prop := globBothUptoRow.holds Try.pinned (OpenSpec.upto globBothSpec)

end Rows
end Go.Proofs.Ytjjkeajgcdminaa
