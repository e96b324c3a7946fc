/-
  DERIVED. GIVEN WITH THE SEED: THE CARDS: each row of YtjijbgogdaafdaaDoorRows.lean that lists a variable, with what it lists TIED to the program's text (the seventh form; the later family's looks); each row that meets fmt, with fmt's text TOLD by the authors' own Lean function (tested against real Go, not proved from fmt's source: count such statements apart). THE CARD IS WHAT COUNTS. Prove the row's statement (the work); the ties are given (YtjijbgogdaafdaaDoorTie.lean); close each card by the builder's one call (the guide's Derived/Test/ToyasCard.lean, 'card_holds'). Laid BY PROGRAM, IN A SANDBOX (cutbox-door.mjs). By AI agents, Wed Nov 11 2026. No macro, syntax, notation, axiom, sorry.
-/
import Derived.Test.YtjijbgogdaafdaaDoorRows
import GoSem.ClaimSeven
namespace Go.Proofs.YtjijbgogdaafdaaDoor
namespace Rows

/-- THE TIED CARD OF 'kinetoscopelaw16.FdsPlay'. -/
def fdsPlayCard : Claim7 := { stood := { row := fdsPlayRow, standIns := [], harness := (true, "83f1bdfc596964c631305d788a10c6b1b2e27ab4ce5b04ac5692d8d234b9f443"), looks := false }, kinds := [], alts := [], laidByText := true, laidKinds := [.data, .data, .data], laidTests := true, laidLooks := .later }
def FdsPlayCardSaid : Prop := Claim7.holds Tryd.pinned (.plain (OpenSpec.ofChange fdsPlaySpec)) fdsPlayCard

/-- THE TIED CARD OF 'kinetoscopelaw16.FdsOther'. -/
def fdsOtherCard : Claim7 := { stood := { row := fdsOtherRow, standIns := [], harness := (true, "83f1bdfc596964c631305d788a10c6b1b2e27ab4ce5b04ac5692d8d234b9f443"), looks := false }, kinds := [], alts := [], laidByText := true, laidKinds := [.data, .data, .data], laidTests := true, laidLooks := .later }
def FdsOtherCardSaid : Prop := Claim7.holds Tryd.pinned (.plain (OpenSpec.ofChange fdsOtherSpec)) fdsOtherCard

/-- THE SECOND FORM's CARD OF 'kinetoscopelaw16.FdsPlay'. -/
def fdsPlayUptoCard : Claim7 := { stood := { row := fdsPlayUptoRow, standIns := [], harness := (true, "83f1bdfc596964c631305d788a10c6b1b2e27ab4ce5b04ac5692d8d234b9f443"), looks := false }, kinds := [], alts := [], laidByText := true, laidKinds := [.data, .data, .data], laidTests := true, laidLooks := .later }
def FdsPlayUptoCardSaid : Prop := Claim7.holds Tryd.pinned (.plain (OpenSpec.upto fdsPlaySpec)) fdsPlayUptoCard

/-- THE SECOND FORM's CARD OF 'kinetoscopelaw16.FdsOther'. -/
def fdsOtherUptoCard : Claim7 := { stood := { row := fdsOtherUptoRow, standIns := [], harness := (true, "83f1bdfc596964c631305d788a10c6b1b2e27ab4ce5b04ac5692d8d234b9f443"), looks := false }, kinds := [], alts := [], laidByText := true, laidKinds := [.data, .data, .data], laidTests := true, laidLooks := .later }
def FdsOtherUptoCardSaid : Prop := Claim7.holds Tryd.pinned (.plain (OpenSpec.upto fdsOtherSpec)) fdsOtherUptoCard
end Rows
end Go.Proofs.YtjijbgogdaafdaaDoor
