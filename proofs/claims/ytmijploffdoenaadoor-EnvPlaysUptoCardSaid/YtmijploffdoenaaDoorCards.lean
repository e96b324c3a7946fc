/-
  DERIVED. GIVEN WITH THE SEED: THE CARDS: each row of YtmijploffdoenaaDoorRows.lean that lists a variable, with what it lists TIED to the program's text (the seventh form; the later family's looks); each row that meets fmt, with fmt's text TOLD by the authors' own Lean function (tested against real Go, not proved from fmt's source: count such statements apart). THE CARD IS WHAT COUNTS. Prove the row's statement (the work); the ties are given (YtmijploffdoenaaDoorTie.lean); close each card by the builder's one call (the guide's Derived/Test/ToyasCard.lean, 'card_holds'). Laid BY PROGRAM, IN A SANDBOX (cutbox-door.mjs). By AI agents, Wed Nov 11 2026. No macro, syntax, notation, axiom, sorry.
-/
import Derived.Test.YtmijploffdoenaaDoorRows
import GoSem.ClaimSeven
namespace Go.Proofs.YtmijploffdoenaaDoor
namespace Rows

/-- THE TIED CARD OF 'kinetoscopelaw14.EnvPlays'. -/
def envPlaysCard : Claim7 := { stood := { row := envPlaysRow, standIns := [], harness := (true, "86716dba4da2737cfe2e0bd65808f09dc88fbe743afae36f8b2c226ea92a6542"), looks := true }, kinds := [], alts := [], laidByText := true, laidKinds := [.data, .data, .data, .sentinel, .sentinel], laidTests := true, laidLooks := .later }
def EnvPlaysCardSaid : Prop := Claim7.holds Tryd.pinned (.plain (OpenSpec.ofChange envPlaysSpec)) envPlaysCard

/-- THE TIED CARD OF 'kinetoscopelaw14.EnvSets'. -/
def envSetsCard : Claim7 := { stood := { row := envSetsRow, standIns := [], harness := (true, "86716dba4da2737cfe2e0bd65808f09dc88fbe743afae36f8b2c226ea92a6542"), looks := true }, kinds := [], alts := [], laidByText := true, laidKinds := [.data, .data, .data, .sentinel, .sentinel], laidTests := true, laidLooks := .later }
def EnvSetsCardSaid : Prop := Claim7.holds Tryd.pinned (.plain (OpenSpec.ofChange envSetsSpec)) envSetsCard

/-- THE TIED CARD OF 'kinetoscopelaw14.EnvArgs'. -/
def envArgsCard : Claim7 := { stood := { row := envArgsRow, standIns := [], harness := (true, "86716dba4da2737cfe2e0bd65808f09dc88fbe743afae36f8b2c226ea92a6542"), looks := true }, kinds := [], alts := [], laidByText := true, laidKinds := [.data, .data, .data, .sentinel, .sentinel], laidTests := true, laidLooks := .later }
def EnvArgsCardSaid : Prop := Claim7.holds Tryd.pinned (.plain (OpenSpec.ofChange envArgsSpec)) envArgsCard

/-- THE SECOND FORM's CARD OF 'kinetoscopelaw14.EnvPlays'. -/
def envPlaysUptoCard : Claim7 := { stood := { row := envPlaysUptoRow, standIns := [], harness := (true, "86716dba4da2737cfe2e0bd65808f09dc88fbe743afae36f8b2c226ea92a6542"), looks := true }, kinds := [], alts := [], laidByText := true, laidKinds := [.data, .data, .data, .sentinel, .sentinel], laidTests := true, laidLooks := .later }
def EnvPlaysUptoCardSaid : Prop := Claim7.holds Tryd.pinned (.plain (OpenSpec.upto envPlaysSpec)) envPlaysUptoCard

/-- THE SECOND FORM's CARD OF 'kinetoscopelaw14.EnvSets'. -/
def envSetsUptoCard : Claim7 := { stood := { row := envSetsUptoRow, standIns := [], harness := (true, "86716dba4da2737cfe2e0bd65808f09dc88fbe743afae36f8b2c226ea92a6542"), looks := true }, kinds := [], alts := [], laidByText := true, laidKinds := [.data, .data, .data, .sentinel, .sentinel], laidTests := true, laidLooks := .later }
def EnvSetsUptoCardSaid : Prop := Claim7.holds Tryd.pinned (.plain (OpenSpec.upto envSetsSpec)) envSetsUptoCard

/-- THE SECOND FORM's CARD OF 'kinetoscopelaw14.EnvArgs'. -/
def envArgsUptoCard : Claim7 := { stood := { row := envArgsUptoRow, standIns := [], harness := (true, "86716dba4da2737cfe2e0bd65808f09dc88fbe743afae36f8b2c226ea92a6542"), looks := true }, kinds := [], alts := [], laidByText := true, laidKinds := [.data, .data, .data, .sentinel, .sentinel], laidTests := true, laidLooks := .later }
def EnvArgsUptoCardSaid : Prop := Claim7.holds Tryd.pinned (.plain (OpenSpec.upto envArgsSpec)) envArgsUptoCard
end Rows
end Go.Proofs.YtmijploffdoenaaDoor
