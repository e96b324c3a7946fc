/-
  NARROWER THAN 'FOR EVERY INPUT', by the rows' own cells (each row's printed sentence says how): SyntaxKids: laid · SyntaxDeep: laid · SyntaxLeft: laid · SyntaxQuoted: laid.
  DERIVED. THE GIVEN ROWS OF THIS SEAT. 4 by the template 'for every input the law returns true; each argument reads behind the call as it read before'; 0 by the template 'total and deterministic' (their statements: YtipojbknkfkgoaaDoorTotals.lean).
  GIVEN WITH THE SEED: the statements are not yours to turn. If you find one false, say at which input.
  Laid BY PROGRAM, IN A SANDBOX (cutbox-rows.mjs): the forced cells as the released guide's own fill.sh prints them over the translation f015ab37bf65fa47… (all of the seat's roots in one cut). By AI agents, Wed Nov 11 2026. No macro, syntax, notation, axiom, sorry.
-/
import Derived.Test.YtipojbknkfkgoaaDoorChecked
import GoSem.Claim
import GoSem.ClaimJoined
import GoSem.ClaimMapViews
import Derived.JoinedTies
import Derived.KernelRfl
namespace Go.Proofs.YtipojbknkfkgoaaDoor
/- THE CELL 'sum', in the pinned program and in every row, IS THE sha256 OF THE DUMP (.gsa) THAT YtipojbknkfkgoaaDoorProg.lean LOADS. Nothing in Lean hashes anything: it is a label: what it is worth is what the hold of that sum in a sandbox is worth. -/
noncomputable def Tryd.pinned : Pinned := { name := "ytipojbknkfkgoaadoor", sum := "f015ab37bf65fa476cdf2a2c64414ea7036f0bc6903430019becca8ad5ddaf55", checked := Tryd.checked }
namespace Rows
def none {H : Type} : Left H := { results := [], args := [] }

/- WHAT THE LISTED PACKAGE-LEVEL VARIABLES READ AS WHEN THE CALL BEGINS. Each datum BY PROGRAM (the guide's laid-datum.mjs) off the statement by which the dump's own 'gosem.cut.vars' lays the variable. In a bare row this is a premise. The card (YtipojbknkfkgoaaDoorCards.lean) ties it to the program's text. -/
def laid_kinetoscope_lexer_signs {H : Type} : DataW H := .agg [.lit (.string [38, 38]), .lit (.string [124, 124]), .lit (.string [59, 59]), .lit (.string [60, 60]), .lit (.string [62, 62]), .lit (.string [59]), .lit (.string [124]), .lit (.string [40]), .lit (.string [41]), .lit (.string [60]), .lit (.string [62])]

/-- 'kinetoscopelaw07.SyntaxKids': WHATEVER THE INPUT: true; the input reads as it did. -/
def syntaxKidsSpec : ChangeSpec := { name := "syntaxKids", fn := fun _ => fun
  | [d] => { results := [.lit (.bool true)], args := [d] }
  | _ => none }
def syntaxKidsRow : OpenClaim := { program := "ytipojbknkfkgoaadoor", sum := "f015ab37bf65fa476cdf2a2c64414ea7036f0bc6903430019becca8ad5ddaf55", func := "kinetoscope/kinetoscopelaw07.SyntaxKids", spec := "syntaxKids", inPlace := ["internal/bytealg.IndexByteString", "internal/bytealg.IndexString"], unfollowed := true, recurses := true, named := ["kinetoscope/lexer.signs", "internal/bytealg.MaxLen"], apart := false, laid := [("kinetoscope/lexer.signs", laid_kinetoscope_lexer_signs)] }
def SyntaxKidsSaid : Prop := syntaxKidsRow.holds Tryd.pinned (OpenSpec.ofChange syntaxKidsSpec)

/-- ITS FALSE NEIGHBOUR: 'it returns false'. Refute it at one input. -/
def syntaxKidsWrong : ChangeSpec := { name := "syntaxKids", fn := fun _ => fun
  | [d] => { results := [.lit (.bool false)], args := [d] }
  | _ => none }
def SyntaxKidsWrongFalsely : Prop := syntaxKidsRow.holds Tryd.pinned (OpenSpec.ofChange syntaxKidsWrong)

/-- 'kinetoscopelaw07.SyntaxDeep': WHATEVER THE INPUT: true; the input reads as it did. -/
def syntaxDeepSpec : ChangeSpec := { name := "syntaxDeep", fn := fun _ => fun
  | [d1, d2] => { results := [.lit (.bool true)], args := [d1, d2] }
  | _ => none }
def syntaxDeepRow : OpenClaim := { program := "ytipojbknkfkgoaadoor", sum := "f015ab37bf65fa476cdf2a2c64414ea7036f0bc6903430019becca8ad5ddaf55", func := "kinetoscope/kinetoscopelaw07.SyntaxDeep", spec := "syntaxDeep", inPlace := ["internal/bytealg.IndexByteString", "internal/bytealg.IndexString"], unfollowed := true, recurses := true, named := ["kinetoscope/lexer.signs", "internal/bytealg.MaxLen"], apart := false, laid := [("kinetoscope/lexer.signs", laid_kinetoscope_lexer_signs)] }
def SyntaxDeepSaid : Prop := syntaxDeepRow.holds Tryd.pinned (OpenSpec.ofChange syntaxDeepSpec)

/-- ITS FALSE NEIGHBOUR: 'it returns false'. Refute it at one input. -/
def syntaxDeepWrong : ChangeSpec := { name := "syntaxDeep", fn := fun _ => fun
  | [d1, d2] => { results := [.lit (.bool false)], args := [d1, d2] }
  | _ => none }
def SyntaxDeepWrongFalsely : Prop := syntaxDeepRow.holds Tryd.pinned (OpenSpec.ofChange syntaxDeepWrong)

/-- 'kinetoscopelaw07.SyntaxLeft': WHATEVER THE INPUT: true; the input reads as it did. -/
def syntaxLeftSpec : ChangeSpec := { name := "syntaxLeft", fn := fun _ => fun
  | [d] => { results := [.lit (.bool true)], args := [d] }
  | _ => none }
def syntaxLeftRow : OpenClaim := { program := "ytipojbknkfkgoaadoor", sum := "f015ab37bf65fa476cdf2a2c64414ea7036f0bc6903430019becca8ad5ddaf55", func := "kinetoscope/kinetoscopelaw07.SyntaxLeft", spec := "syntaxLeft", inPlace := ["internal/bytealg.IndexByteString", "internal/bytealg.IndexString"], unfollowed := true, recurses := true, named := ["kinetoscope/lexer.signs", "internal/bytealg.MaxLen"], apart := false, laid := [("kinetoscope/lexer.signs", laid_kinetoscope_lexer_signs)] }
def SyntaxLeftSaid : Prop := syntaxLeftRow.holds Tryd.pinned (OpenSpec.ofChange syntaxLeftSpec)

/-- ITS FALSE NEIGHBOUR: 'it returns false'. Refute it at one input. -/
def syntaxLeftWrong : ChangeSpec := { name := "syntaxLeft", fn := fun _ => fun
  | [d] => { results := [.lit (.bool false)], args := [d] }
  | _ => none }
def SyntaxLeftWrongFalsely : Prop := syntaxLeftRow.holds Tryd.pinned (OpenSpec.ofChange syntaxLeftWrong)

/-- 'kinetoscopelaw07.SyntaxQuoted': WHATEVER THE INPUT: true; the input reads as it did. -/
def syntaxQuotedSpec : ChangeSpec := { name := "syntaxQuoted", fn := fun _ => fun
  | [d1, d2] => { results := [.lit (.bool true)], args := [d1, d2] }
  | _ => none }
def syntaxQuotedRow : OpenClaim := { program := "ytipojbknkfkgoaadoor", sum := "f015ab37bf65fa476cdf2a2c64414ea7036f0bc6903430019becca8ad5ddaf55", func := "kinetoscope/kinetoscopelaw07.SyntaxQuoted", spec := "syntaxQuoted", inPlace := ["internal/bytealg.IndexByteString", "internal/bytealg.IndexString"], unfollowed := true, recurses := true, named := ["kinetoscope/lexer.signs", "internal/bytealg.MaxLen"], apart := false, laid := [("kinetoscope/lexer.signs", laid_kinetoscope_lexer_signs)] }
def SyntaxQuotedSaid : Prop := syntaxQuotedRow.holds Tryd.pinned (OpenSpec.ofChange syntaxQuotedSpec)

/-- ITS FALSE NEIGHBOUR: 'it returns false'. Refute it at one input. -/
def syntaxQuotedWrong : ChangeSpec := { name := "syntaxQuoted", fn := fun _ => fun
  | [d1, d2] => { results := [.lit (.bool false)], args := [d1, d2] }
  | _ => none }
def SyntaxQuotedWrongFalsely : Prop := syntaxQuotedRow.holds Tryd.pinned (OpenSpec.ofChange syntaxQuotedWrong)

/- THE SECOND FORM. 'bulk': how many values and letters a reading holds, each counted each time it is reached (what is shared counts as often as it is met; a slice's spare places count too). A statement '..UptoSaid' is the law's where the arguments, and the package variables that the reading takes, are together of bulk at most 1048576: NARROWER than '..Said'. Prove '..Said' where nothing that the law and all that it calls make is longer than what came in: it says more and counts as full. Else prove '..UptoSaid'. A law counts once. -/
mutual
def uptoBulk {H : Type} : DataW H → Nat
  | .lit (.string bytes) => bytes.length + 1
  | .lit _ => 1
  | .nil => 1
  | .ptr d => uptoBulk d + 1
  | .slice elems spare => uptoBulkAll elems + uptoBulkAll spare + 1
  | .agg parts => uptoBulkAll parts + 1
  | .iface _ d => uptoBulk d + 1
  | .map entries => uptoBulkEntries entries + 1
  | .held _ => 1
def uptoBulkAll {H : Type} : List (DataW H) → Nat
  | [] => 0
  | d :: r => uptoBulk d + uptoBulkAll r
def uptoBulkEntries {H : Type} : List (Lit × DataW H) → Nat
  | [] => 0
  | x :: r => uptoBulkEntry x + uptoBulkEntries r
def uptoBulkEntry {H : Type} : Lit × DataW H → Nat
  | (.string bytes, d) => bytes.length + uptoBulk d + 1
  | (_, d) => uptoBulk d + 1
 end
def uptoSmall : (H : Type) → List (DataW H) → Bool := fun _ ds => decide (uptoBulkAll ds ≤ 1048576)
def OpenSpec.upto (s : _root_.Go.ChangeSpec) : _root_.Go.OpenSpec := { _root_.Go.OpenSpec.ofChange s with cond := some uptoSmall }

/-- 'kinetoscopelaw07.SyntaxKids', WHERE WHAT IT READS IS OF BULK AT MOST 1048576: true; the input reads as it did. -/
def syntaxKidsUptoRow : OpenClaim := { program := "ytipojbknkfkgoaadoor", sum := "f015ab37bf65fa476cdf2a2c64414ea7036f0bc6903430019becca8ad5ddaf55", func := "kinetoscope/kinetoscopelaw07.SyntaxKids", spec := "syntaxKids", inPlace := ["internal/bytealg.IndexByteString", "internal/bytealg.IndexString"], unfollowed := true, recurses := true, named := ["kinetoscope/lexer.signs", "internal/bytealg.MaxLen"], apart := false, laid := [("kinetoscope/lexer.signs", laid_kinetoscope_lexer_signs)], narrowed := true }
def SyntaxKidsUptoSaid : Prop := syntaxKidsUptoRow.holds Tryd.pinned (OpenSpec.upto syntaxKidsSpec)

/-- 'kinetoscopelaw07.SyntaxDeep', WHERE WHAT IT READS IS OF BULK AT MOST 1048576: true; the input reads as it did. -/
def syntaxDeepUptoRow : OpenClaim := { program := "ytipojbknkfkgoaadoor", sum := "f015ab37bf65fa476cdf2a2c64414ea7036f0bc6903430019becca8ad5ddaf55", func := "kinetoscope/kinetoscopelaw07.SyntaxDeep", spec := "syntaxDeep", inPlace := ["internal/bytealg.IndexByteString", "internal/bytealg.IndexString"], unfollowed := true, recurses := true, named := ["kinetoscope/lexer.signs", "internal/bytealg.MaxLen"], apart := false, laid := [("kinetoscope/lexer.signs", laid_kinetoscope_lexer_signs)], narrowed := true }
def SyntaxDeepUptoSaid : Prop := syntaxDeepUptoRow.holds Tryd.pinned (OpenSpec.upto syntaxDeepSpec)

/-- 'kinetoscopelaw07.SyntaxLeft', WHERE WHAT IT READS IS OF BULK AT MOST 1048576: true; the input reads as it did. -/
def syntaxLeftUptoRow : OpenClaim := { program := "ytipojbknkfkgoaadoor", sum := "f015ab37bf65fa476cdf2a2c64414ea7036f0bc6903430019becca8ad5ddaf55", func := "kinetoscope/kinetoscopelaw07.SyntaxLeft", spec := "syntaxLeft", inPlace := ["internal/bytealg.IndexByteString", "internal/bytealg.IndexString"], unfollowed := true, recurses := true, named := ["kinetoscope/lexer.signs", "internal/bytealg.MaxLen"], apart := false, laid := [("kinetoscope/lexer.signs", laid_kinetoscope_lexer_signs)], narrowed := true }
def SyntaxLeftUptoSaid : Prop := syntaxLeftUptoRow.holds Tryd.pinned (OpenSpec.upto syntaxLeftSpec)

/-- 'kinetoscopelaw07.SyntaxQuoted', WHERE WHAT IT READS IS OF BULK AT MOST 1048576: true; the input reads as it did. -/
def syntaxQuotedUptoRow : OpenClaim := { program := "ytipojbknkfkgoaadoor", sum := "f015ab37bf65fa476cdf2a2c64414ea7036f0bc6903430019becca8ad5ddaf55", func := "kinetoscope/kinetoscopelaw07.SyntaxQuoted", spec := "syntaxQuoted", inPlace := ["internal/bytealg.IndexByteString", "internal/bytealg.IndexString"], unfollowed := true, recurses := true, named := ["kinetoscope/lexer.signs", "internal/bytealg.MaxLen"], apart := false, laid := [("kinetoscope/lexer.signs", laid_kinetoscope_lexer_signs)], narrowed := true }
def SyntaxQuotedUptoSaid : Prop := syntaxQuotedUptoRow.holds Tryd.pinned (OpenSpec.upto syntaxQuotedSpec)

end Rows
end Go.Proofs.YtipojbknkfkgoaaDoor
