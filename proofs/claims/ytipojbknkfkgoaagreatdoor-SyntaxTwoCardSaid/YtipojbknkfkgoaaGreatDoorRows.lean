/-
  NARROWER THAN 'FOR EVERY INPUT', by the rows' own cells (each row's printed sentence says how): SyntaxBlanks: laid · SyntaxTwo: laid.
  DERIVED. THE GIVEN ROWS OF THIS SEAT. 2 by the template 'for every input the law returns true; each argument reads behind the call as it read before'; 0 by the template 'total and deterministic' (their statements: YtipojbknkfkgoaaGreatDoorTotals.lean).
  GIVEN WITH THE SEED: the statements are not yours to turn. If you find one false, say at which input.
  Laid BY PROGRAM, IN A SANDBOX (cutbox-rows.mjs): the forced cells as the released guide's own fill.sh prints them over the translation 1b93008f54082591… (all of the seat's roots in one cut). By AI agents, Wed Nov 11 2026. No macro, syntax, notation, axiom, sorry.
-/
import Derived.Test.YtipojbknkfkgoaaGreatDoorChecked
import GoSem.Claim
import GoSem.ClaimJoined
import GoSem.ClaimMapViews
import Derived.JoinedTies
import Derived.KernelRfl
namespace Go.Proofs.YtipojbknkfkgoaaGreatDoor
/- THE CELL 'sum', in the pinned program and in every row, IS THE sha256 OF THE DUMP (.gsa) THAT YtipojbknkfkgoaaGreatDoorProg.lean LOADS. Nothing in Lean hashes anything: it is a label: what it is worth is what the hold of that sum in a sandbox is worth. -/
noncomputable def Tryz.pinned : Pinned := { name := "ytipojbknkfkgoaagreatdoor", sum := "1b93008f54082591df9e6fae27d9ddaf88f93c96c1bfe494da0c34ba6d459bcc", checked := Tryz.checked }
namespace Rows
def none {H : Type} : Left H := { results := [], args := [] }

/- WHAT THE LISTED PACKAGE-LEVEL VARIABLES READ AS WHEN THE CALL BEGINS. Each datum BY PROGRAM (the guide's laid-datum.mjs) off the statement by which the dump's own 'gosem.cut.vars' lays the variable. In a bare row this is a premise. The card (YtipojbknkfkgoaaGreatDoorCards.lean) ties it to the program's text. -/
def laid_kinetoscope_lexer_signs {H : Type} : DataW H := .agg [.lit (.string [38, 38]), .lit (.string [124, 124]), .lit (.string [59, 59]), .lit (.string [60, 60]), .lit (.string [62, 62]), .lit (.string [59]), .lit (.string [124]), .lit (.string [40]), .lit (.string [41]), .lit (.string [60]), .lit (.string [62])]

/-- 'kinetoscopelaw07.SyntaxBlanks': WHATEVER THE INPUT: true; the input reads as it did. -/
def syntaxBlanksSpec : ChangeSpec := { name := "syntaxBlanks", fn := fun _ => fun
  | [d1, d2] => { results := [.lit (.bool true)], args := [d1, d2] }
  | _ => none }
def syntaxBlanksRow : OpenClaim := { program := "ytipojbknkfkgoaagreatdoor", sum := "1b93008f54082591df9e6fae27d9ddaf88f93c96c1bfe494da0c34ba6d459bcc", func := "kinetoscope/kinetoscopelaw07.SyntaxBlanks", spec := "syntaxBlanks", inPlace := ["internal/bytealg.IndexByteString", "internal/bytealg.IndexString"], unfollowed := true, recurses := true, named := ["kinetoscope/lexer.signs", "internal/bytealg.MaxLen"], apart := false, laid := [("kinetoscope/lexer.signs", laid_kinetoscope_lexer_signs)] }
def SyntaxBlanksSaid : Prop := syntaxBlanksRow.holds Tryz.pinned (OpenSpec.ofChange syntaxBlanksSpec)

/-- ITS FALSE NEIGHBOUR: 'it returns false'. Refute it at one input. -/
def syntaxBlanksWrong : ChangeSpec := { name := "syntaxBlanks", fn := fun _ => fun
  | [d1, d2] => { results := [.lit (.bool false)], args := [d1, d2] }
  | _ => none }
def SyntaxBlanksWrongFalsely : Prop := syntaxBlanksRow.holds Tryz.pinned (OpenSpec.ofChange syntaxBlanksWrong)

/-- 'kinetoscopelaw07.SyntaxTwo': WHATEVER THE INPUT: true; the input reads as it did. -/
def syntaxTwoSpec : ChangeSpec := { name := "syntaxTwo", fn := fun _ => fun
  | [d1, d2] => { results := [.lit (.bool true)], args := [d1, d2] }
  | _ => none }
def syntaxTwoRow : OpenClaim := { program := "ytipojbknkfkgoaagreatdoor", sum := "1b93008f54082591df9e6fae27d9ddaf88f93c96c1bfe494da0c34ba6d459bcc", func := "kinetoscope/kinetoscopelaw07.SyntaxTwo", spec := "syntaxTwo", inPlace := ["internal/bytealg.IndexByteString", "internal/bytealg.IndexString"], unfollowed := true, recurses := true, named := ["kinetoscope/lexer.signs", "internal/bytealg.MaxLen"], apart := false, laid := [("kinetoscope/lexer.signs", laid_kinetoscope_lexer_signs)] }
def SyntaxTwoSaid : Prop := syntaxTwoRow.holds Tryz.pinned (OpenSpec.ofChange syntaxTwoSpec)

/-- ITS FALSE NEIGHBOUR: 'it returns false'. Refute it at one input. -/
def syntaxTwoWrong : ChangeSpec := { name := "syntaxTwo", fn := fun _ => fun
  | [d1, d2] => { results := [.lit (.bool false)], args := [d1, d2] }
  | _ => none }
def SyntaxTwoWrongFalsely : Prop := syntaxTwoRow.holds Tryz.pinned (OpenSpec.ofChange syntaxTwoWrong)

/- THE SECOND FORM. 'bulk': how many values and letters a reading holds, each counted each time it is reached (what is shared counts as often as it is met; a slice's spare places count too). A statement '..UptoSaid' is the law's where the arguments, and the package variables that the reading takes, are together of bulk at most 1048576: NARROWER than '..Said'. Prove '..Said' where nothing that the law and all that it calls make is longer than what came in: it says more and counts as full. Else prove '..UptoSaid'. A law counts once. -/
mutual
def uptoBulk {H : Type} : DataW H → Nat
  | .lit (.string bytes) => bytes.length + 1
  | .lit _ => 1
  | .nil => 1
  | .ptr d => uptoBulk d + 1
  | .slice elems spare => uptoBulkAll elems + uptoBulkAll spare + 1
  | .agg parts => uptoBulkAll parts + 1
  | .iface _ d => uptoBulk d + 1
  | .map entries => uptoBulkEntries entries + 1
  | .held _ => 1
def uptoBulkAll {H : Type} : List (DataW H) → Nat
  | [] => 0
  | d :: r => uptoBulk d + uptoBulkAll r
def uptoBulkEntries {H : Type} : List (Lit × DataW H) → Nat
  | [] => 0
  | x :: r => uptoBulkEntry x + uptoBulkEntries r
def uptoBulkEntry {H : Type} : Lit × DataW H → Nat
  | (.string bytes, d) => bytes.length + uptoBulk d + 1
  | (_, d) => uptoBulk d + 1
 end
def uptoSmall : (H : Type) → List (DataW H) → Bool := fun _ ds => decide (uptoBulkAll ds ≤ 1048576)
def OpenSpec.upto (s : _root_.Go.ChangeSpec) : _root_.Go.OpenSpec := { _root_.Go.OpenSpec.ofChange s with cond := some uptoSmall }

/-- 'kinetoscopelaw07.SyntaxBlanks', WHERE WHAT IT READS IS OF BULK AT MOST 1048576: true; the input reads as it did. -/
def syntaxBlanksUptoRow : OpenClaim := { program := "ytipojbknkfkgoaagreatdoor", sum := "1b93008f54082591df9e6fae27d9ddaf88f93c96c1bfe494da0c34ba6d459bcc", func := "kinetoscope/kinetoscopelaw07.SyntaxBlanks", spec := "syntaxBlanks", inPlace := ["internal/bytealg.IndexByteString", "internal/bytealg.IndexString"], unfollowed := true, recurses := true, named := ["kinetoscope/lexer.signs", "internal/bytealg.MaxLen"], apart := false, laid := [("kinetoscope/lexer.signs", laid_kinetoscope_lexer_signs)], narrowed := true }
def SyntaxBlanksUptoSaid : Prop := syntaxBlanksUptoRow.holds Tryz.pinned (OpenSpec.upto syntaxBlanksSpec)

/-- 'kinetoscopelaw07.SyntaxTwo', WHERE WHAT IT READS IS OF BULK AT MOST 1048576: true; the input reads as it did. -/
def syntaxTwoUptoRow : OpenClaim := { program := "ytipojbknkfkgoaagreatdoor", sum := "1b93008f54082591df9e6fae27d9ddaf88f93c96c1bfe494da0c34ba6d459bcc", func := "kinetoscope/kinetoscopelaw07.SyntaxTwo", spec := "syntaxTwo", inPlace := ["internal/bytealg.IndexByteString", "internal/bytealg.IndexString"], unfollowed := true, recurses := true, named := ["kinetoscope/lexer.signs", "internal/bytealg.MaxLen"], apart := false, laid := [("kinetoscope/lexer.signs", laid_kinetoscope_lexer_signs)], narrowed := true }
def SyntaxTwoUptoSaid : Prop := syntaxTwoUptoRow.holds Tryz.pinned (OpenSpec.upto syntaxTwoSpec)

end Rows
end Go.Proofs.YtipojbknkfkgoaaGreatDoor
