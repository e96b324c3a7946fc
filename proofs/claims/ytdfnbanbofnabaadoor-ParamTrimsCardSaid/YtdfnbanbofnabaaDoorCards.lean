/-
  DERIVED. GIVEN WITH THE SEED: THE CARDS: each row of YtdfnbanbofnabaaDoorRows.lean that lists a variable, with what it lists TIED to the program's text (the seventh form; the later family's looks); each row that meets fmt, with fmt's text TOLD by the authors' own Lean function (tested against real Go, not proved from fmt's source: count such statements apart). THE CARD IS WHAT COUNTS. Prove the row's statement (the work); the ties are given (YtdfnbanbofnabaaDoorTie.lean); close each card by the builder's one call (the guide's Derived/Test/ToyasCard.lean, 'card_holds'). Laid BY PROGRAM, IN A SANDBOX (cutbox-door.mjs). By AI agents, Wed Nov 11 2026. No macro, syntax, notation, axiom, sorry.
-/
import Derived.Test.YtdfnbanbofnabaaDoorRows
import GoSem.ClaimSeven
namespace Go.Proofs.YtdfnbanbofnabaaDoor
namespace Rows

/-- THE TIED CARD OF 'kinetoscopelaw12.ParamDoes'. -/
def paramDoesCard : Claim7 := { stood := { row := paramDoesRow, standIns := [], harness := (true, "c67dcce50bdcf7ec774bbef8b64ddf9ddae85e9605db2f71b20c57c6d9d88302"), looks := true }, kinds := [], alts := [], laidByText := true, laidKinds := [.data, .data, .data], laidTests := true, laidLooks := .later }
def ParamDoesCardSaid : Prop := Claim7.holds Tryd.pinned (.plain (OpenSpec.ofChange paramDoesSpec)) paramDoesCard

/-- THE TIED CARD OF 'kinetoscopelaw12.ParamTrims'. -/
def paramTrimsCard : Claim7 := { stood := { row := paramTrimsRow, standIns := [], harness := (true, "c67dcce50bdcf7ec774bbef8b64ddf9ddae85e9605db2f71b20c57c6d9d88302"), looks := true }, kinds := [], alts := [], laidByText := true, laidKinds := [.data, .data, .data], laidTests := true, laidLooks := .later }
def ParamTrimsCardSaid : Prop := Claim7.holds Tryd.pinned (.plain (OpenSpec.ofChange paramTrimsSpec)) paramTrimsCard

/-- THE TIED CARD OF 'kinetoscopelaw12.ParamColons'. -/
def paramColonsCard : Claim7 := { stood := { row := paramColonsRow, standIns := [], harness := (true, "c67dcce50bdcf7ec774bbef8b64ddf9ddae85e9605db2f71b20c57c6d9d88302"), looks := true }, kinds := [], alts := [], laidByText := true, laidKinds := [.data, .data, .data], laidTests := true, laidLooks := .later }
def ParamColonsCardSaid : Prop := Claim7.holds Tryd.pinned (.plain (OpenSpec.ofChange paramColonsSpec)) paramColonsCard

/-- THE SECOND FORM's CARD OF 'kinetoscopelaw12.ParamDoes'. -/
def paramDoesUptoCard : Claim7 := { stood := { row := paramDoesUptoRow, standIns := [], harness := (true, "c67dcce50bdcf7ec774bbef8b64ddf9ddae85e9605db2f71b20c57c6d9d88302"), looks := true }, kinds := [], alts := [], laidByText := true, laidKinds := [.data, .data, .data], laidTests := true, laidLooks := .later }
def ParamDoesUptoCardSaid : Prop := Claim7.holds Tryd.pinned (.plain (OpenSpec.upto paramDoesSpec)) paramDoesUptoCard

/-- THE SECOND FORM's CARD OF 'kinetoscopelaw12.ParamTrims'. -/
def paramTrimsUptoCard : Claim7 := { stood := { row := paramTrimsUptoRow, standIns := [], harness := (true, "c67dcce50bdcf7ec774bbef8b64ddf9ddae85e9605db2f71b20c57c6d9d88302"), looks := true }, kinds := [], alts := [], laidByText := true, laidKinds := [.data, .data, .data], laidTests := true, laidLooks := .later }
def ParamTrimsUptoCardSaid : Prop := Claim7.holds Tryd.pinned (.plain (OpenSpec.upto paramTrimsSpec)) paramTrimsUptoCard

/-- THE SECOND FORM's CARD OF 'kinetoscopelaw12.ParamColons'. -/
def paramColonsUptoCard : Claim7 := { stood := { row := paramColonsUptoRow, standIns := [], harness := (true, "c67dcce50bdcf7ec774bbef8b64ddf9ddae85e9605db2f71b20c57c6d9d88302"), looks := true }, kinds := [], alts := [], laidByText := true, laidKinds := [.data, .data, .data], laidTests := true, laidLooks := .later }
def ParamColonsUptoCardSaid : Prop := Claim7.holds Tryd.pinned (.plain (OpenSpec.upto paramColonsSpec)) paramColonsUptoCard
end Rows
end Go.Proofs.YtdfnbanbofnabaaDoor
