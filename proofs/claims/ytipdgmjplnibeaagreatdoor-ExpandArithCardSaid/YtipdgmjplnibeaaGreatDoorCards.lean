/-
  DERIVED. GIVEN WITH THE SEED: THE CARDS: each row of YtipdgmjplnibeaaGreatDoorRows.lean that lists a variable, with what it lists TIED to the program's text (the seventh form; the later family's looks); each row that meets fmt, with fmt's text TOLD by the authors' own Lean function (tested against real Go, not proved from fmt's source: count such statements apart). THE CARD IS WHAT COUNTS. Prove the row's statement (the work); the ties are given (YtipdgmjplnibeaaGreatDoorTie.lean); close each card by the builder's one call (the guide's Derived/Test/ToyasCard.lean, 'card_holds'). Laid BY PROGRAM, IN A SANDBOX (cutbox-door.mjs). By AI agents, Wed Nov 11 2026. No macro, syntax, notation, axiom, sorry.
-/
import Derived.Test.YtipdgmjplnibeaaGreatDoorRows
import GoSem.ClaimSeven
namespace Go.Proofs.YtipdgmjplnibeaaGreatDoor
namespace Rows

/-- THE TIED CARD OF 'kinetoscopelaw15.ExpandQuoted'. -/
def expandQuotedCard : Claim7 := { stood := { row := expandQuotedRow, standIns := [], harness := (true, "b6ee30bd9154fed2a78fd1b174b4fb849f05656a0aa7212b6494054b858df41b"), looks := true }, kinds := [], alts := [], laidByText := true, laidKinds := [.data, .data, .data, .data, .sentinel, .sentinel, .widerDeep, .data, .data, .pinned], laidTests := true, laidLooks := .later }
def ExpandQuotedCardSaid : Prop := Claim7.holds Tryz.pinned (.plain (OpenSpec.ofChange expandQuotedSpec)) expandQuotedCard

/-- THE TIED CARD OF 'kinetoscopelaw15.ExpandArgs'. -/
def expandArgsCard : Claim7 := { stood := { row := expandArgsRow, standIns := [], harness := (true, "b6ee30bd9154fed2a78fd1b174b4fb849f05656a0aa7212b6494054b858df41b"), looks := true }, kinds := [], alts := [], laidByText := true, laidKinds := [.data, .data, .data, .data, .sentinel, .sentinel, .widerDeep, .data, .data, .pinned], laidTests := true, laidLooks := .later }
def ExpandArgsCardSaid : Prop := Claim7.holds Tryz.pinned (.plain (OpenSpec.ofChange expandArgsSpec)) expandArgsCard

/-- THE TIED CARD OF 'kinetoscopelaw15.ExpandDefault'. -/
def expandDefaultCard : Claim7 := { stood := { row := expandDefaultRow, standIns := [], harness := (true, "b6ee30bd9154fed2a78fd1b174b4fb849f05656a0aa7212b6494054b858df41b"), looks := true }, kinds := [], alts := [], laidByText := true, laidKinds := [.data, .data, .data, .data, .sentinel, .sentinel, .widerDeep, .data, .data, .pinned], laidTests := true, laidLooks := .later }
def ExpandDefaultCardSaid : Prop := Claim7.holds Tryz.pinned (.plain (OpenSpec.ofChange expandDefaultSpec)) expandDefaultCard

/-- THE TIED CARD OF 'kinetoscopelaw15.ExpandTrims'. -/
def expandTrimsCard : Claim7 := { stood := { row := expandTrimsRow, standIns := [], harness := (true, "b6ee30bd9154fed2a78fd1b174b4fb849f05656a0aa7212b6494054b858df41b"), looks := true }, kinds := [], alts := [], laidByText := true, laidKinds := [.data, .data, .data, .data, .sentinel, .sentinel, .widerDeep, .data, .data, .pinned], laidTests := true, laidLooks := .later }
def ExpandTrimsCardSaid : Prop := Claim7.holds Tryz.pinned (.plain (OpenSpec.ofChange expandTrimsSpec)) expandTrimsCard

/-- THE TIED CARD OF 'kinetoscopelaw15.ExpandSplits'. -/
def expandSplitsCard : Claim7 := { stood := { row := expandSplitsRow, standIns := [], harness := (true, "b6ee30bd9154fed2a78fd1b174b4fb849f05656a0aa7212b6494054b858df41b"), looks := true }, kinds := [], alts := [], laidByText := true, laidKinds := [.data, .data, .data, .data, .sentinel, .sentinel, .widerDeep, .data, .data, .pinned], laidTests := true, laidLooks := .later }
def ExpandSplitsCardSaid : Prop := Claim7.holds Tryz.pinned (.plain (OpenSpec.ofChange expandSplitsSpec)) expandSplitsCard

/-- THE TIED CARD OF 'kinetoscopelaw15.ExpandArith'. -/
def expandArithCard : Claim7 := { stood := { row := expandArithRow, standIns := [], harness := (true, "b6ee30bd9154fed2a78fd1b174b4fb849f05656a0aa7212b6494054b858df41b"), looks := true }, kinds := [], alts := [], laidByText := true, laidKinds := [.data, .data, .data, .data, .sentinel, .sentinel, .widerDeep, .data, .data, .pinned], laidTests := true, laidLooks := .later }
def ExpandArithCardSaid : Prop := Claim7.holds Tryz.pinned (.plain (OpenSpec.ofChange expandArithSpec)) expandArithCard

/-- THE SECOND FORM's CARD OF 'kinetoscopelaw15.ExpandQuoted'. -/
def expandQuotedUptoCard : Claim7 := { stood := { row := expandQuotedUptoRow, standIns := [], harness := (true, "b6ee30bd9154fed2a78fd1b174b4fb849f05656a0aa7212b6494054b858df41b"), looks := true }, kinds := [], alts := [], laidByText := true, laidKinds := [.data, .data, .data, .data, .sentinel, .sentinel, .widerDeep, .data, .data, .pinned], laidTests := true, laidLooks := .later }
def ExpandQuotedUptoCardSaid : Prop := Claim7.holds Tryz.pinned (.plain (OpenSpec.upto expandQuotedSpec)) expandQuotedUptoCard

/-- THE SECOND FORM's CARD OF 'kinetoscopelaw15.ExpandArgs'. -/
def expandArgsUptoCard : Claim7 := { stood := { row := expandArgsUptoRow, standIns := [], harness := (true, "b6ee30bd9154fed2a78fd1b174b4fb849f05656a0aa7212b6494054b858df41b"), looks := true }, kinds := [], alts := [], laidByText := true, laidKinds := [.data, .data, .data, .data, .sentinel, .sentinel, .widerDeep, .data, .data, .pinned], laidTests := true, laidLooks := .later }
def ExpandArgsUptoCardSaid : Prop := Claim7.holds Tryz.pinned (.plain (OpenSpec.upto expandArgsSpec)) expandArgsUptoCard

/-- THE SECOND FORM's CARD OF 'kinetoscopelaw15.ExpandDefault'. -/
def expandDefaultUptoCard : Claim7 := { stood := { row := expandDefaultUptoRow, standIns := [], harness := (true, "b6ee30bd9154fed2a78fd1b174b4fb849f05656a0aa7212b6494054b858df41b"), looks := true }, kinds := [], alts := [], laidByText := true, laidKinds := [.data, .data, .data, .data, .sentinel, .sentinel, .widerDeep, .data, .data, .pinned], laidTests := true, laidLooks := .later }
def ExpandDefaultUptoCardSaid : Prop := Claim7.holds Tryz.pinned (.plain (OpenSpec.upto expandDefaultSpec)) expandDefaultUptoCard

/-- THE SECOND FORM's CARD OF 'kinetoscopelaw15.ExpandTrims'. -/
def expandTrimsUptoCard : Claim7 := { stood := { row := expandTrimsUptoRow, standIns := [], harness := (true, "b6ee30bd9154fed2a78fd1b174b4fb849f05656a0aa7212b6494054b858df41b"), looks := true }, kinds := [], alts := [], laidByText := true, laidKinds := [.data, .data, .data, .data, .sentinel, .sentinel, .widerDeep, .data, .data, .pinned], laidTests := true, laidLooks := .later }
def ExpandTrimsUptoCardSaid : Prop := Claim7.holds Tryz.pinned (.plain (OpenSpec.upto expandTrimsSpec)) expandTrimsUptoCard

/-- THE SECOND FORM's CARD OF 'kinetoscopelaw15.ExpandSplits'. -/
def expandSplitsUptoCard : Claim7 := { stood := { row := expandSplitsUptoRow, standIns := [], harness := (true, "b6ee30bd9154fed2a78fd1b174b4fb849f05656a0aa7212b6494054b858df41b"), looks := true }, kinds := [], alts := [], laidByText := true, laidKinds := [.data, .data, .data, .data, .sentinel, .sentinel, .widerDeep, .data, .data, .pinned], laidTests := true, laidLooks := .later }
def ExpandSplitsUptoCardSaid : Prop := Claim7.holds Tryz.pinned (.plain (OpenSpec.upto expandSplitsSpec)) expandSplitsUptoCard

/-- THE SECOND FORM's CARD OF 'kinetoscopelaw15.ExpandArith'. -/
def expandArithUptoCard : Claim7 := { stood := { row := expandArithUptoRow, standIns := [], harness := (true, "b6ee30bd9154fed2a78fd1b174b4fb849f05656a0aa7212b6494054b858df41b"), looks := true }, kinds := [], alts := [], laidByText := true, laidKinds := [.data, .data, .data, .data, .sentinel, .sentinel, .widerDeep, .data, .data, .pinned], laidTests := true, laidLooks := .later }
def ExpandArithUptoCardSaid : Prop := Claim7.holds Tryz.pinned (.plain (OpenSpec.upto expandArithSpec)) expandArithUptoCard
end Rows
end Go.Proofs.YtipdgmjplnibeaaGreatDoor
