/-
  No cell of these rows narrows 'for every input' (looked for: loops, veiled, ifaces, maps, wideKeys, modest, calm, conditions, laid).
  DERIVED. THE GIVEN ROWS OF THIS SEAT. 4 by the template 'for every input the law returns true; each argument reads behind the call as it read before'; 0 by the template 'total and deterministic' (their statements: YteljmlodbnfhbaaTotals.lean).
  GIVEN WITH THE SEED: the statements are not yours to turn. If you find one false, say at which input.
  Laid BY PROGRAM, IN A SANDBOX (cutbox-rows.mjs): the forced cells as the released guide's own fill.sh prints them over the translation 367a3792e7252267… (all of the seat's roots in one cut). By AI agents, Wed Nov 11 2026. No macro, syntax, notation, axiom, sorry.
-/
import Derived.Test.YteljmlodbnfhbaaChecked
import GoSem.Claim
import GoSem.ClaimJoined
import GoSem.ClaimMapViews
import Derived.JoinedTies
import Derived.KernelRfl
namespace Go.Proofs.Yteljmlodbnfhbaa
/- THE CELL 'sum', in the pinned program and in every row, IS THE sha256 OF THE DUMP (.gsa) THAT YteljmlodbnfhbaaProg.lean LOADS. Nothing in Lean hashes anything: it is a label: what it is worth is what the hold of that sum in a sandbox is worth. -/
noncomputable def Try.pinned : Pinned := { name := "yteljmlodbnfhbaa", sum := "367a3792e72522672122c6a8b7e8f54a846c7c52216018b9f36f405d59399c7c", checked := Try.checked }
namespace Rows
def none {H : Type} : Left H := { results := [], args := [] }

/-- 'kinetoscopelaw18.StatePacks': WHATEVER THE INPUT: true; the input reads as it did. -/
def statePacksSpec : ChangeSpec := { name := "statePacks", fn := fun _ => fun
  | [d] => { results := [.lit (.bool true)], args := [d] }
  | _ => none }
def statePacksRow : OpenClaim := { program := "yteljmlodbnfhbaa", sum := "367a3792e72522672122c6a8b7e8f54a846c7c52216018b9f36f405d59399c7c", func := "kinetoscope/kinetoscopelaw18.StatePacks", spec := "statePacks", unfollowed := true, recurses := true, apart := false }
def StatePacksSaid : Prop := statePacksRow.holds Try.pinned (OpenSpec.ofChange statePacksSpec)

/-- ITS FALSE NEIGHBOUR: 'it returns false'. Refute it at one input. -/
def statePacksWrong : ChangeSpec := { name := "statePacks", fn := fun _ => fun
  | [d] => { results := [.lit (.bool false)], args := [d] }
  | _ => none }
def StatePacksWrongFalsely : Prop := statePacksRow.holds Try.pinned (OpenSpec.ofChange statePacksWrong)

/-- 'kinetoscopelaw18.StateReads': WHATEVER THE INPUT: true; the input reads as it did. -/
def stateReadsSpec : ChangeSpec := { name := "stateReads", fn := fun _ => fun
  | [d1, d2, d3, d4] => { results := [.lit (.bool true)], args := [d1, d2, d3, d4] }
  | _ => none }
def stateReadsRow : OpenClaim := { program := "yteljmlodbnfhbaa", sum := "367a3792e72522672122c6a8b7e8f54a846c7c52216018b9f36f405d59399c7c", func := "kinetoscope/kinetoscopelaw18.StateReads", spec := "stateReads", unfollowed := true, recurses := true, apart := false }
def StateReadsSaid : Prop := stateReadsRow.holds Try.pinned (OpenSpec.ofChange stateReadsSpec)

/-- ITS FALSE NEIGHBOUR: 'it returns false'. Refute it at one input. -/
def stateReadsWrong : ChangeSpec := { name := "stateReads", fn := fun _ => fun
  | [d1, d2, d3, d4] => { results := [.lit (.bool false)], args := [d1, d2, d3, d4] }
  | _ => none }
def StateReadsWrongFalsely : Prop := stateReadsRow.holds Try.pinned (OpenSpec.ofChange stateReadsWrong)

/-- 'kinetoscopelaw18.StateCuts': WHATEVER THE INPUT: true; the input reads as it did. -/
def stateCutsSpec : ChangeSpec := { name := "stateCuts", fn := fun _ => fun
  | [d1, d2, d3] => { results := [.lit (.bool true)], args := [d1, d2, d3] }
  | _ => none }
def stateCutsRow : OpenClaim := { program := "yteljmlodbnfhbaa", sum := "367a3792e72522672122c6a8b7e8f54a846c7c52216018b9f36f405d59399c7c", func := "kinetoscope/kinetoscopelaw18.StateCuts", spec := "stateCuts", unfollowed := true, recurses := true, apart := false }
def StateCutsSaid : Prop := stateCutsRow.holds Try.pinned (OpenSpec.ofChange stateCutsSpec)

/-- ITS FALSE NEIGHBOUR: 'it returns false'. Refute it at one input. -/
def stateCutsWrong : ChangeSpec := { name := "stateCuts", fn := fun _ => fun
  | [d1, d2, d3] => { results := [.lit (.bool false)], args := [d1, d2, d3] }
  | _ => none }
def StateCutsWrongFalsely : Prop := stateCutsRow.holds Try.pinned (OpenSpec.ofChange stateCutsWrong)

/-- 'kinetoscopelaw18.StateSame': WHATEVER THE INPUT: true; the input reads as it did. -/
def stateSameSpec : ChangeSpec := { name := "stateSame", fn := fun _ => fun
  | [d1, d2] => { results := [.lit (.bool true)], args := [d1, d2] }
  | _ => none }
def stateSameRow : OpenClaim := { program := "yteljmlodbnfhbaa", sum := "367a3792e72522672122c6a8b7e8f54a846c7c52216018b9f36f405d59399c7c", func := "kinetoscope/kinetoscopelaw18.StateSame", spec := "stateSame", unfollowed := true, recurses := true, apart := false }
def StateSameSaid : Prop := stateSameRow.holds Try.pinned (OpenSpec.ofChange stateSameSpec)

/-- ITS FALSE NEIGHBOUR: 'it returns false'. Refute it at one input. -/
def stateSameWrong : ChangeSpec := { name := "stateSame", fn := fun _ => fun
  | [d1, d2] => { results := [.lit (.bool false)], args := [d1, d2] }
  | _ => none }
def StateSameWrongFalsely : Prop := stateSameRow.holds Try.pinned (OpenSpec.ofChange stateSameWrong)

/- THE SECOND FORM. 'bulk': how many values and letters a reading holds, each counted each time it is reached (what is shared counts as often as it is met; a slice's spare places count too). A statement '..UptoSaid' is the law's where the arguments, and the package variables that the reading takes, are together of bulk at most 1048576: NARROWER than '..Said'. Prove '..Said' where nothing that the law and all that it calls make is longer than what came in: it says more and counts as full. Else prove '..UptoSaid'. A law counts once. -/
mutual
def uptoBulk {H : Type} : DataW H → Nat
  | .lit (.string bytes) => bytes.length + 1
  | .lit _ => 1
  | .nil => 1
  | .ptr d => uptoBulk d + 1
  | .slice elems spare => uptoBulkAll elems + uptoBulkAll spare + 1
  | .agg parts => uptoBulkAll parts + 1
  | .iface _ d => uptoBulk d + 1
  | .map entries => uptoBulkEntries entries + 1
  | .held _ => 1
def uptoBulkAll {H : Type} : List (DataW H) → Nat
  | [] => 0
  | d :: r => uptoBulk d + uptoBulkAll r
def uptoBulkEntries {H : Type} : List (Lit × DataW H) → Nat
  | [] => 0
  | x :: r => uptoBulkEntry x + uptoBulkEntries r
def uptoBulkEntry {H : Type} : Lit × DataW H → Nat
  | (.string bytes, d) => bytes.length + uptoBulk d + 1
  | (_, d) => uptoBulk d + 1
 end
def uptoSmall : (H : Type) → List (DataW H) → Bool := fun _ ds => decide (uptoBulkAll ds ≤ 1048576)
def OpenSpec.upto (s : _root_.Go.ChangeSpec) : _root_.Go.OpenSpec := { _root_.Go.OpenSpec.ofChange s with cond := some uptoSmall }

/-- 'kinetoscopelaw18.StatePacks', WHERE WHAT IT READS IS OF BULK AT MOST 1048576: true; the input reads as it did. -/
def statePacksUptoRow : OpenClaim := { program := "yteljmlodbnfhbaa", sum := "367a3792e72522672122c6a8b7e8f54a846c7c52216018b9f36f405d59399c7c", func := "kinetoscope/kinetoscopelaw18.StatePacks", spec := "statePacks", unfollowed := true, recurses := true, apart := false, narrowed := true }
def StatePacksUptoSaid : Prop := statePacksUptoRow.holds Try.pinned (OpenSpec.upto statePacksSpec)

/-- 'kinetoscopelaw18.StateReads', WHERE WHAT IT READS IS OF BULK AT MOST 1048576: true; the input reads as it did. -/
def stateReadsUptoRow : OpenClaim := { program := "yteljmlodbnfhbaa", sum := "367a3792e72522672122c6a8b7e8f54a846c7c52216018b9f36f405d59399c7c", func := "kinetoscope/kinetoscopelaw18.StateReads", spec := "stateReads", unfollowed := true, recurses := true, apart := false, narrowed := true }
def StateReadsUptoSaid : Prop := stateReadsUptoRow.holds Try.pinned (OpenSpec.upto stateReadsSpec)

/-- 'kinetoscopelaw18.StateCuts', WHERE WHAT IT READS IS OF BULK AT MOST 1048576: true; the input reads as it did. -/
def stateCutsUptoRow : OpenClaim := { program := "yteljmlodbnfhbaa", sum := "367a3792e72522672122c6a8b7e8f54a846c7c52216018b9f36f405d59399c7c", func := "kinetoscope/kinetoscopelaw18.StateCuts", spec := "stateCuts", unfollowed := true, recurses := true, apart := false, narrowed := true }
def StateCutsUptoSaid : Prop := stateCutsUptoRow.holds Try.pinned (OpenSpec.upto stateCutsSpec)

/-- 'kinetoscopelaw18.StateSame', WHERE WHAT IT READS IS OF BULK AT MOST 1048576: true; the input reads as it did. -/
def stateSameUptoRow : OpenClaim := { program := "yteljmlodbnfhbaa", sum := "367a3792e72522672122c6a8b7e8f54a846c7c52216018b9f36f405d59399c7c", func := "kinetoscope/kinetoscopelaw18.StateSame", spec := "stateSame", unfollowed := true, recurses := true, apart := false, narrowed := true }
def StateSameUptoSaid : Prop := stateSameUptoRow.holds Try.pinned (OpenSpec.upto stateSameSpec)

end Rows
end Go.Proofs.Yteljmlodbnfhbaa
