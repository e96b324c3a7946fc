/-
  DERIVED. GIVEN WITH THE SEED: THE CARDS: each row of YtjidclefpmcgoaaDoorRows.lean that lists a variable, with what it lists TIED to the program's text (the seventh form; the later family's looks); each row that meets fmt, with fmt's text TOLD by the authors' own Lean function (tested against real Go, not proved from fmt's source: count such statements apart). THE CARD IS WHAT COUNTS. Prove the row's statement (the work); the ties are given (YtjidclefpmcgoaaDoorTie.lean); close each card by the builder's one call (the guide's Derived/Test/ToyasCard.lean, 'card_holds'). Laid BY PROGRAM, IN A SANDBOX (cutbox-door.mjs). By AI agents, Wed Nov 11 2026. No macro, syntax, notation, axiom, sorry.
-/
import Derived.Test.YtjidclefpmcgoaaDoorRows
import GoSem.ClaimSeven
namespace Go.Proofs.YtjidclefpmcgoaaDoor
namespace Rows

/-- THE TIED CARD OF 'kinetoscopelaw17.TesterTells'. -/
def testerTellsCard : Claim7 := { stood := { row := testerTellsRow, standIns := [], harness := (true, "9ec87a7768e07a245de3f1790b917249d093ad4d39e648b098f89db6b954b1a7"), looks := true }, kinds := [], alts := [], laidByText := true, laidKinds := [.data, .data, .data, .data, .sentinel, .sentinel, .pinned], laidTests := true, laidLooks := .later }
def TesterTellsCardSaid : Prop := Claim7.holds Tryd.pinned (.plain (OpenSpec.ofChange testerTellsSpec)) testerTellsCard

/-- THE TIED CARD OF 'kinetoscopelaw17.TesterTold'. -/
def testerToldCard : Claim7 := { stood := { row := testerToldRow, standIns := [], harness := (true, "9ec87a7768e07a245de3f1790b917249d093ad4d39e648b098f89db6b954b1a7"), looks := true }, kinds := [], alts := [], laidByText := true, laidKinds := [.data, .data, .data, .data, .sentinel, .sentinel, .pinned], laidTests := true, laidLooks := .later }
def TesterToldCardSaid : Prop := Claim7.holds Tryd.pinned (.plain (OpenSpec.ofChange testerToldSpec)) testerToldCard

/-- THE TIED CARD OF 'kinetoscopelaw17.TesterTurns'. -/
def testerTurnsCard : Claim7 := { stood := { row := testerTurnsRow, standIns := [], harness := (true, "9ec87a7768e07a245de3f1790b917249d093ad4d39e648b098f89db6b954b1a7"), looks := true }, kinds := [], alts := [], laidByText := true, laidKinds := [.data, .data, .data, .data, .sentinel, .sentinel, .pinned], laidTests := true, laidLooks := .later }
def TesterTurnsCardSaid : Prop := Claim7.holds Tryd.pinned (.plain (OpenSpec.ofChange testerTurnsSpec)) testerTurnsCard

/-- THE TIED CARD OF 'kinetoscopelaw17.TesterFiles'. -/
def testerFilesCard : Claim7 := { stood := { row := testerFilesRow, standIns := [], harness := (true, "9ec87a7768e07a245de3f1790b917249d093ad4d39e648b098f89db6b954b1a7"), looks := true }, kinds := [], alts := [], laidByText := true, laidKinds := [.data, .data, .data, .data, .sentinel, .sentinel, .pinned], laidTests := true, laidLooks := .later }
def TesterFilesCardSaid : Prop := Claim7.holds Tryd.pinned (.plain (OpenSpec.ofChange testerFilesSpec)) testerFilesCard

/-- THE SECOND FORM's CARD OF 'kinetoscopelaw17.TesterTells'. -/
def testerTellsUptoCard : Claim7 := { stood := { row := testerTellsUptoRow, standIns := [], harness := (true, "9ec87a7768e07a245de3f1790b917249d093ad4d39e648b098f89db6b954b1a7"), looks := true }, kinds := [], alts := [], laidByText := true, laidKinds := [.data, .data, .data, .data, .sentinel, .sentinel, .pinned], laidTests := true, laidLooks := .later }
def TesterTellsUptoCardSaid : Prop := Claim7.holds Tryd.pinned (.plain (OpenSpec.upto testerTellsSpec)) testerTellsUptoCard

/-- THE SECOND FORM's CARD OF 'kinetoscopelaw17.TesterTold'. -/
def testerToldUptoCard : Claim7 := { stood := { row := testerToldUptoRow, standIns := [], harness := (true, "9ec87a7768e07a245de3f1790b917249d093ad4d39e648b098f89db6b954b1a7"), looks := true }, kinds := [], alts := [], laidByText := true, laidKinds := [.data, .data, .data, .data, .sentinel, .sentinel, .pinned], laidTests := true, laidLooks := .later }
def TesterToldUptoCardSaid : Prop := Claim7.holds Tryd.pinned (.plain (OpenSpec.upto testerToldSpec)) testerToldUptoCard

/-- THE SECOND FORM's CARD OF 'kinetoscopelaw17.TesterTurns'. -/
def testerTurnsUptoCard : Claim7 := { stood := { row := testerTurnsUptoRow, standIns := [], harness := (true, "9ec87a7768e07a245de3f1790b917249d093ad4d39e648b098f89db6b954b1a7"), looks := true }, kinds := [], alts := [], laidByText := true, laidKinds := [.data, .data, .data, .data, .sentinel, .sentinel, .pinned], laidTests := true, laidLooks := .later }
def TesterTurnsUptoCardSaid : Prop := Claim7.holds Tryd.pinned (.plain (OpenSpec.upto testerTurnsSpec)) testerTurnsUptoCard

/-- THE SECOND FORM's CARD OF 'kinetoscopelaw17.TesterFiles'. -/
def testerFilesUptoCard : Claim7 := { stood := { row := testerFilesUptoRow, standIns := [], harness := (true, "9ec87a7768e07a245de3f1790b917249d093ad4d39e648b098f89db6b954b1a7"), looks := true }, kinds := [], alts := [], laidByText := true, laidKinds := [.data, .data, .data, .data, .sentinel, .sentinel, .pinned], laidTests := true, laidLooks := .later }
def TesterFilesUptoCardSaid : Prop := Claim7.holds Tryd.pinned (.plain (OpenSpec.upto testerFilesSpec)) testerFilesUptoCard
end Rows
end Go.Proofs.YtjidclefpmcgoaaDoor
