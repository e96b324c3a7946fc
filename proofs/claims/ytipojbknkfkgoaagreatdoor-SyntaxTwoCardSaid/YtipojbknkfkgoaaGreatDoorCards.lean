/-
  DERIVED. GIVEN WITH THE SEED: THE CARDS: each row of YtipojbknkfkgoaaGreatDoorRows.lean that lists a variable, with what it lists TIED to the program's text (the seventh form; the later family's looks); each row that meets fmt, with fmt's text TOLD by the authors' own Lean function (tested against real Go, not proved from fmt's source: count such statements apart). THE CARD IS WHAT COUNTS. Prove the row's statement (the work); the ties are given (YtipojbknkfkgoaaGreatDoorTie.lean); close each card by the builder's one call (the guide's Derived/Test/ToyasCard.lean, 'card_holds'). Laid BY PROGRAM, IN A SANDBOX (cutbox-door.mjs). By AI agents, Wed Nov 11 2026. No macro, syntax, notation, axiom, sorry.
-/
import Derived.Test.YtipojbknkfkgoaaGreatDoorRows
import GoSem.ClaimSeven
namespace Go.Proofs.YtipojbknkfkgoaaGreatDoor
namespace Rows

/-- THE TIED CARD OF 'kinetoscopelaw07.SyntaxBlanks'. -/
def syntaxBlanksCard : Claim7 := { stood := { row := syntaxBlanksRow, standIns := [], harness := (true, "345b0a9a94b994dc5a57b80501fcc14e1de13433f826f48a90fc24e028258b9b"), looks := true }, kinds := [], alts := [], laidByText := true, laidKinds := [.data], laidTests := true, laidLooks := .later }
def SyntaxBlanksCardSaid : Prop := Claim7.holds Tryz.pinned (.plain (OpenSpec.ofChange syntaxBlanksSpec)) syntaxBlanksCard

/-- THE TIED CARD OF 'kinetoscopelaw07.SyntaxTwo'. -/
def syntaxTwoCard : Claim7 := { stood := { row := syntaxTwoRow, standIns := [], harness := (true, "345b0a9a94b994dc5a57b80501fcc14e1de13433f826f48a90fc24e028258b9b"), looks := true }, kinds := [], alts := [], laidByText := true, laidKinds := [.data], laidTests := true, laidLooks := .later }
def SyntaxTwoCardSaid : Prop := Claim7.holds Tryz.pinned (.plain (OpenSpec.ofChange syntaxTwoSpec)) syntaxTwoCard

/-- THE SECOND FORM's CARD OF 'kinetoscopelaw07.SyntaxBlanks'. -/
def syntaxBlanksUptoCard : Claim7 := { stood := { row := syntaxBlanksUptoRow, standIns := [], harness := (true, "345b0a9a94b994dc5a57b80501fcc14e1de13433f826f48a90fc24e028258b9b"), looks := true }, kinds := [], alts := [], laidByText := true, laidKinds := [.data], laidTests := true, laidLooks := .later }
def SyntaxBlanksUptoCardSaid : Prop := Claim7.holds Tryz.pinned (.plain (OpenSpec.upto syntaxBlanksSpec)) syntaxBlanksUptoCard

/-- THE SECOND FORM's CARD OF 'kinetoscopelaw07.SyntaxTwo'. -/
def syntaxTwoUptoCard : Claim7 := { stood := { row := syntaxTwoUptoRow, standIns := [], harness := (true, "345b0a9a94b994dc5a57b80501fcc14e1de13433f826f48a90fc24e028258b9b"), looks := true }, kinds := [], alts := [], laidByText := true, laidKinds := [.data], laidTests := true, laidLooks := .later }
def SyntaxTwoUptoCardSaid : Prop := Claim7.holds Tryz.pinned (.plain (OpenSpec.upto syntaxTwoSpec)) syntaxTwoUptoCard
end Rows
end Go.Proofs.YtipojbknkfkgoaaGreatDoor
