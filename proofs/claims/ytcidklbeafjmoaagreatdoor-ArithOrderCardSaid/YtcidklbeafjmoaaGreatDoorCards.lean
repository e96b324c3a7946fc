/-
  DERIVED. GIVEN WITH THE SEED: THE CARDS: each row of YtcidklbeafjmoaaGreatDoorRows.lean that lists a variable, with what it lists TIED to the program's text (the seventh form; the later family's looks); each row that meets fmt, with fmt's text TOLD by the authors' own Lean function (tested against real Go, not proved from fmt's source: count such statements apart). THE CARD IS WHAT COUNTS. Prove the row's statement (the work); the ties are given (YtcidklbeafjmoaaGreatDoorTie.lean); close each card by the builder's one call (the guide's Derived/Test/ToyasCard.lean, 'card_holds'). Laid BY PROGRAM, IN A SANDBOX (cutbox-door.mjs). By AI agents, Wed Nov 11 2026. No macro, syntax, notation, axiom, sorry.
-/
import Derived.Test.YtcidklbeafjmoaaGreatDoorRows
import GoSem.ClaimSeven
namespace Go.Proofs.YtcidklbeafjmoaaGreatDoor
namespace Rows

/-- THE TIED CARD OF 'kinetoscopelaw10.ArithLaws'. -/
def arithLawsCard : Claim7 := { stood := { row := arithLawsRow, standIns := [], harness := (true, "c36b1958ba421e4ce2415623c5b98b6c4782b74ad702614d6796ac2e0070666f"), looks := true }, kinds := [], alts := [], laidByText := true, laidKinds := [.data, .data, .data, .data, .sentinel, .sentinel, .widerDeep, .data, .pinned], laidTests := true, laidLooks := .later }
def ArithLawsCardSaid : Prop := Claim7.holds Tryz.pinned (.plain (OpenSpec.ofChange arithLawsSpec)) arithLawsCard

/-- THE TIED CARD OF 'kinetoscopelaw10.ArithOrder'. -/
def arithOrderCard : Claim7 := { stood := { row := arithOrderRow, standIns := [], harness := (true, "c36b1958ba421e4ce2415623c5b98b6c4782b74ad702614d6796ac2e0070666f"), looks := true }, kinds := [], alts := [], laidByText := true, laidKinds := [.data, .data, .data, .data, .sentinel, .sentinel, .widerDeep, .data, .pinned], laidTests := true, laidLooks := .later }
def ArithOrderCardSaid : Prop := Claim7.holds Tryz.pinned (.plain (OpenSpec.ofChange arithOrderSpec)) arithOrderCard

/-- THE TIED CARD OF 'kinetoscopelaw10.ArithShort'. -/
def arithShortCard : Claim7 := { stood := { row := arithShortRow, standIns := [], harness := (true, "c36b1958ba421e4ce2415623c5b98b6c4782b74ad702614d6796ac2e0070666f"), looks := true }, kinds := [], alts := [], laidByText := true, laidKinds := [.data, .data, .data, .data, .sentinel, .sentinel, .widerDeep, .data, .pinned], laidTests := true, laidLooks := .later }
def ArithShortCardSaid : Prop := Claim7.holds Tryz.pinned (.plain (OpenSpec.ofChange arithShortSpec)) arithShortCard

/-- THE SECOND FORM's CARD OF 'kinetoscopelaw10.ArithLaws'. -/
def arithLawsUptoCard : Claim7 := { stood := { row := arithLawsUptoRow, standIns := [], harness := (true, "c36b1958ba421e4ce2415623c5b98b6c4782b74ad702614d6796ac2e0070666f"), looks := true }, kinds := [], alts := [], laidByText := true, laidKinds := [.data, .data, .data, .data, .sentinel, .sentinel, .widerDeep, .data, .pinned], laidTests := true, laidLooks := .later }
def ArithLawsUptoCardSaid : Prop := Claim7.holds Tryz.pinned (.plain (OpenSpec.upto arithLawsSpec)) arithLawsUptoCard

/-- THE SECOND FORM's CARD OF 'kinetoscopelaw10.ArithOrder'. -/
def arithOrderUptoCard : Claim7 := { stood := { row := arithOrderUptoRow, standIns := [], harness := (true, "c36b1958ba421e4ce2415623c5b98b6c4782b74ad702614d6796ac2e0070666f"), looks := true }, kinds := [], alts := [], laidByText := true, laidKinds := [.data, .data, .data, .data, .sentinel, .sentinel, .widerDeep, .data, .pinned], laidTests := true, laidLooks := .later }
def ArithOrderUptoCardSaid : Prop := Claim7.holds Tryz.pinned (.plain (OpenSpec.upto arithOrderSpec)) arithOrderUptoCard

/-- THE SECOND FORM's CARD OF 'kinetoscopelaw10.ArithShort'. -/
def arithShortUptoCard : Claim7 := { stood := { row := arithShortUptoRow, standIns := [], harness := (true, "c36b1958ba421e4ce2415623c5b98b6c4782b74ad702614d6796ac2e0070666f"), looks := true }, kinds := [], alts := [], laidByText := true, laidKinds := [.data, .data, .data, .data, .sentinel, .sentinel, .widerDeep, .data, .pinned], laidTests := true, laidLooks := .later }
def ArithShortUptoCardSaid : Prop := Claim7.holds Tryz.pinned (.plain (OpenSpec.upto arithShortSpec)) arithShortUptoCard
end Rows
end Go.Proofs.YtcidklbeafjmoaaGreatDoor
