/-
  NARROWER THAN 'FOR EVERY INPUT', by the rows' own cells (each row's printed sentence says how): LexerWords: laid · LexerLines: laid · LexerBlanks: laid · LexerQuotes: laid · LexerJoins: laid · LexerHere: laid.
  DERIVED. THE GIVEN ROWS OF THIS SEAT. 6 by the template 'for every input the law returns true; each argument reads behind the call as it read before'; 0 by the template 'total and deterministic' (their statements: YtnjabmacbgehlaaDoorTotals.lean).
  GIVEN WITH THE SEED: the statements are not yours to turn. If you find one false, say at which input.
  Laid BY PROGRAM, IN A SANDBOX (cutbox-rows.mjs): the forced cells as the released guide's own fill.sh prints them over the translation 62eeeb062dc5315f… (all of the seat's roots in one cut). By AI agents, Wed Nov 11 2026. No macro, syntax, notation, axiom, sorry.
-/
import Derived.Test.YtnjabmacbgehlaaDoorChecked
import GoSem.Claim
import GoSem.ClaimJoined
import GoSem.ClaimMapViews
import Derived.JoinedTies
import Derived.KernelRfl
namespace Go.Proofs.YtnjabmacbgehlaaDoor
/- THE CELL 'sum', in the pinned program and in every row, IS THE sha256 OF THE DUMP (.gsa) THAT YtnjabmacbgehlaaDoorProg.lean LOADS. Nothing in Lean hashes anything: it is a label: what it is worth is what the hold of that sum in a sandbox is worth. -/
noncomputable def Tryd.pinned : Pinned := { name := "ytnjabmacbgehlaadoor", sum := "62eeeb062dc5315f73cd760fe98e7d3554876496b1c95af7922deeecf23595c0", checked := Tryd.checked }
namespace Rows
def none {H : Type} : Left H := { results := [], args := [] }

/- WHAT THE LISTED PACKAGE-LEVEL VARIABLES READ AS WHEN THE CALL BEGINS. Each datum BY PROGRAM (the guide's laid-datum.mjs) off the statement by which the dump's own 'gosem.cut.vars' lays the variable. In a bare row this is a premise. The card (YtnjabmacbgehlaaDoorCards.lean) ties it to the program's text. -/
def laid_kinetoscope_lexer_signs {H : Type} : DataW H := .agg [.lit (.string [38, 38]), .lit (.string [124, 124]), .lit (.string [59, 59]), .lit (.string [60, 60]), .lit (.string [62, 62]), .lit (.string [59]), .lit (.string [124]), .lit (.string [40]), .lit (.string [41]), .lit (.string [60]), .lit (.string [62])]

/-- 'kinetoscopelaw06.LexerWords': WHATEVER THE INPUT: true; the input reads as it did. -/
def lexerWordsSpec : ChangeSpec := { name := "lexerWords", fn := fun _ => fun
  | [d] => { results := [.lit (.bool true)], args := [d] }
  | _ => none }
def lexerWordsRow : OpenClaim := { program := "ytnjabmacbgehlaadoor", sum := "62eeeb062dc5315f73cd760fe98e7d3554876496b1c95af7922deeecf23595c0", func := "kinetoscope/kinetoscopelaw06.LexerWords", spec := "lexerWords", inPlace := ["internal/bytealg.IndexByteString", "internal/bytealg.IndexString"], unfollowed := true, recurses := true, named := ["kinetoscope/lexer.signs", "internal/bytealg.MaxLen"], apart := false, laid := [("kinetoscope/lexer.signs", laid_kinetoscope_lexer_signs)] }
def LexerWordsSaid : Prop := lexerWordsRow.holds Tryd.pinned (OpenSpec.ofChange lexerWordsSpec)

/-- ITS FALSE NEIGHBOUR: 'it returns false'. Refute it at one input. -/
def lexerWordsWrong : ChangeSpec := { name := "lexerWords", fn := fun _ => fun
  | [d] => { results := [.lit (.bool false)], args := [d] }
  | _ => none }
def LexerWordsWrongFalsely : Prop := lexerWordsRow.holds Tryd.pinned (OpenSpec.ofChange lexerWordsWrong)

/-- 'kinetoscopelaw06.LexerLines': WHATEVER THE INPUT: true; the input reads as it did. -/
def lexerLinesSpec : ChangeSpec := { name := "lexerLines", fn := fun _ => fun
  | [d] => { results := [.lit (.bool true)], args := [d] }
  | _ => none }
def lexerLinesRow : OpenClaim := { program := "ytnjabmacbgehlaadoor", sum := "62eeeb062dc5315f73cd760fe98e7d3554876496b1c95af7922deeecf23595c0", func := "kinetoscope/kinetoscopelaw06.LexerLines", spec := "lexerLines", inPlace := ["internal/bytealg.IndexByteString", "internal/bytealg.IndexString"], unfollowed := true, recurses := true, named := ["kinetoscope/lexer.signs", "internal/bytealg.MaxLen"], apart := false, laid := [("kinetoscope/lexer.signs", laid_kinetoscope_lexer_signs)] }
def LexerLinesSaid : Prop := lexerLinesRow.holds Tryd.pinned (OpenSpec.ofChange lexerLinesSpec)

/-- ITS FALSE NEIGHBOUR: 'it returns false'. Refute it at one input. -/
def lexerLinesWrong : ChangeSpec := { name := "lexerLines", fn := fun _ => fun
  | [d] => { results := [.lit (.bool false)], args := [d] }
  | _ => none }
def LexerLinesWrongFalsely : Prop := lexerLinesRow.holds Tryd.pinned (OpenSpec.ofChange lexerLinesWrong)

/-- 'kinetoscopelaw06.LexerBlanks': WHATEVER THE INPUT: true; the input reads as it did. -/
def lexerBlanksSpec : ChangeSpec := { name := "lexerBlanks", fn := fun _ => fun
  | [d] => { results := [.lit (.bool true)], args := [d] }
  | _ => none }
def lexerBlanksRow : OpenClaim := { program := "ytnjabmacbgehlaadoor", sum := "62eeeb062dc5315f73cd760fe98e7d3554876496b1c95af7922deeecf23595c0", func := "kinetoscope/kinetoscopelaw06.LexerBlanks", spec := "lexerBlanks", inPlace := ["internal/bytealg.IndexByteString", "internal/bytealg.IndexString"], unfollowed := true, recurses := true, named := ["kinetoscope/lexer.signs", "internal/bytealg.MaxLen"], apart := false, laid := [("kinetoscope/lexer.signs", laid_kinetoscope_lexer_signs)] }
def LexerBlanksSaid : Prop := lexerBlanksRow.holds Tryd.pinned (OpenSpec.ofChange lexerBlanksSpec)

/-- ITS FALSE NEIGHBOUR: 'it returns false'. Refute it at one input. -/
def lexerBlanksWrong : ChangeSpec := { name := "lexerBlanks", fn := fun _ => fun
  | [d] => { results := [.lit (.bool false)], args := [d] }
  | _ => none }
def LexerBlanksWrongFalsely : Prop := lexerBlanksRow.holds Tryd.pinned (OpenSpec.ofChange lexerBlanksWrong)

/-- 'kinetoscopelaw06.LexerQuotes': WHATEVER THE INPUT: true; the input reads as it did. -/
def lexerQuotesSpec : ChangeSpec := { name := "lexerQuotes", fn := fun _ => fun
  | [d] => { results := [.lit (.bool true)], args := [d] }
  | _ => none }
def lexerQuotesRow : OpenClaim := { program := "ytnjabmacbgehlaadoor", sum := "62eeeb062dc5315f73cd760fe98e7d3554876496b1c95af7922deeecf23595c0", func := "kinetoscope/kinetoscopelaw06.LexerQuotes", spec := "lexerQuotes", inPlace := ["internal/bytealg.IndexByteString", "internal/bytealg.IndexString"], unfollowed := true, recurses := true, named := ["kinetoscope/lexer.signs", "internal/bytealg.MaxLen"], apart := false, laid := [("kinetoscope/lexer.signs", laid_kinetoscope_lexer_signs)] }
def LexerQuotesSaid : Prop := lexerQuotesRow.holds Tryd.pinned (OpenSpec.ofChange lexerQuotesSpec)

/-- ITS FALSE NEIGHBOUR: 'it returns false'. Refute it at one input. -/
def lexerQuotesWrong : ChangeSpec := { name := "lexerQuotes", fn := fun _ => fun
  | [d] => { results := [.lit (.bool false)], args := [d] }
  | _ => none }
def LexerQuotesWrongFalsely : Prop := lexerQuotesRow.holds Tryd.pinned (OpenSpec.ofChange lexerQuotesWrong)

/-- 'kinetoscopelaw06.LexerJoins': WHATEVER THE INPUT: true; the input reads as it did. -/
def lexerJoinsSpec : ChangeSpec := { name := "lexerJoins", fn := fun _ => fun
  | [d1, d2] => { results := [.lit (.bool true)], args := [d1, d2] }
  | _ => none }
def lexerJoinsRow : OpenClaim := { program := "ytnjabmacbgehlaadoor", sum := "62eeeb062dc5315f73cd760fe98e7d3554876496b1c95af7922deeecf23595c0", func := "kinetoscope/kinetoscopelaw06.LexerJoins", spec := "lexerJoins", inPlace := ["internal/bytealg.IndexByteString", "internal/bytealg.IndexString"], unfollowed := true, recurses := true, named := ["kinetoscope/lexer.signs", "internal/bytealg.MaxLen"], apart := false, laid := [("kinetoscope/lexer.signs", laid_kinetoscope_lexer_signs)] }
def LexerJoinsSaid : Prop := lexerJoinsRow.holds Tryd.pinned (OpenSpec.ofChange lexerJoinsSpec)

/-- ITS FALSE NEIGHBOUR: 'it returns false'. Refute it at one input. -/
def lexerJoinsWrong : ChangeSpec := { name := "lexerJoins", fn := fun _ => fun
  | [d1, d2] => { results := [.lit (.bool false)], args := [d1, d2] }
  | _ => none }
def LexerJoinsWrongFalsely : Prop := lexerJoinsRow.holds Tryd.pinned (OpenSpec.ofChange lexerJoinsWrong)

/-- 'kinetoscopelaw06.LexerHere': WHATEVER THE INPUT: true; the input reads as it did. -/
def lexerHereSpec : ChangeSpec := { name := "lexerHere", fn := fun _ => fun
  | [d1, d2, d3] => { results := [.lit (.bool true)], args := [d1, d2, d3] }
  | _ => none }
def lexerHereRow : OpenClaim := { program := "ytnjabmacbgehlaadoor", sum := "62eeeb062dc5315f73cd760fe98e7d3554876496b1c95af7922deeecf23595c0", func := "kinetoscope/kinetoscopelaw06.LexerHere", spec := "lexerHere", inPlace := ["internal/bytealg.IndexByteString", "internal/bytealg.IndexString"], unfollowed := true, recurses := true, named := ["kinetoscope/lexer.signs", "internal/bytealg.MaxLen"], apart := false, laid := [("kinetoscope/lexer.signs", laid_kinetoscope_lexer_signs)] }
def LexerHereSaid : Prop := lexerHereRow.holds Tryd.pinned (OpenSpec.ofChange lexerHereSpec)

/-- ITS FALSE NEIGHBOUR: 'it returns false'. Refute it at one input. -/
def lexerHereWrong : ChangeSpec := { name := "lexerHere", fn := fun _ => fun
  | [d1, d2, d3] => { results := [.lit (.bool false)], args := [d1, d2, d3] }
  | _ => none }
def LexerHereWrongFalsely : Prop := lexerHereRow.holds Tryd.pinned (OpenSpec.ofChange lexerHereWrong)

/- THE SECOND FORM. 'bulk': how many values and letters a reading holds, each counted each time it is reached (what is shared counts as often as it is met; a slice's spare places count too). A statement '..UptoSaid' is the law's where the arguments, and the package variables that the reading takes, are together of bulk at most 1048576: NARROWER than '..Said'. Prove '..Said' where nothing that the law and all that it calls make is longer than what came in: it says more and counts as full. Else prove '..UptoSaid'. A law counts once. -/
mutual
def uptoBulk {H : Type} : DataW H → Nat
  | .lit (.string bytes) => bytes.length + 1
  | .lit _ => 1
  | .nil => 1
  | .ptr d => uptoBulk d + 1
  | .slice elems spare => uptoBulkAll elems + uptoBulkAll spare + 1
  | .agg parts => uptoBulkAll parts + 1
  | .iface _ d => uptoBulk d + 1
  | .map entries => uptoBulkEntries entries + 1
  | .held _ => 1
def uptoBulkAll {H : Type} : List (DataW H) → Nat
  | [] => 0
  | d :: r => uptoBulk d + uptoBulkAll r
def uptoBulkEntries {H : Type} : List (Lit × DataW H) → Nat
  | [] => 0
  | x :: r => uptoBulkEntry x + uptoBulkEntries r
def uptoBulkEntry {H : Type} : Lit × DataW H → Nat
  | (.string bytes, d) => bytes.length + uptoBulk d + 1
  | (_, d) => uptoBulk d + 1
 end
def uptoSmall : (H : Type) → List (DataW H) → Bool := fun _ ds => decide (uptoBulkAll ds ≤ 1048576)
def OpenSpec.upto (s : _root_.Go.ChangeSpec) : _root_.Go.OpenSpec := { _root_.Go.OpenSpec.ofChange s with cond := some uptoSmall }

/-- 'kinetoscopelaw06.LexerWords', WHERE WHAT IT READS IS OF BULK AT MOST 1048576: true; the input reads as it did. -/
def lexerWordsUptoRow : OpenClaim := { program := "ytnjabmacbgehlaadoor", sum := "62eeeb062dc5315f73cd760fe98e7d3554876496b1c95af7922deeecf23595c0", func := "kinetoscope/kinetoscopelaw06.LexerWords", spec := "lexerWords", inPlace := ["internal/bytealg.IndexByteString", "internal/bytealg.IndexString"], unfollowed := true, recurses := true, named := ["kinetoscope/lexer.signs", "internal/bytealg.MaxLen"], apart := false, laid := [("kinetoscope/lexer.signs", laid_kinetoscope_lexer_signs)], narrowed := true }
def LexerWordsUptoSaid : Prop := lexerWordsUptoRow.holds Tryd.pinned (OpenSpec.upto lexerWordsSpec)

/-- 'kinetoscopelaw06.LexerLines', WHERE WHAT IT READS IS OF BULK AT MOST 1048576: true; the input reads as it did. -/
def lexerLinesUptoRow : OpenClaim := { program := "ytnjabmacbgehlaadoor", sum := "62eeeb062dc5315f73cd760fe98e7d3554876496b1c95af7922deeecf23595c0", func := "kinetoscope/kinetoscopelaw06.LexerLines", spec := "lexerLines", inPlace := ["internal/bytealg.IndexByteString", "internal/bytealg.IndexString"], unfollowed := true, recurses := true, named := ["kinetoscope/lexer.signs", "internal/bytealg.MaxLen"], apart := false, laid := [("kinetoscope/lexer.signs", laid_kinetoscope_lexer_signs)], narrowed := true }
def LexerLinesUptoSaid : Prop := lexerLinesUptoRow.holds Tryd.pinned (OpenSpec.upto lexerLinesSpec)

/-- 'kinetoscopelaw06.LexerBlanks', WHERE WHAT IT READS IS OF BULK AT MOST 1048576: true; the input reads as it did. -/
def lexerBlanksUptoRow : OpenClaim := { program := "ytnjabmacbgehlaadoor", sum := "62eeeb062dc5315f73cd760fe98e7d3554876496b1c95af7922deeecf23595c0", func := "kinetoscope/kinetoscopelaw06.LexerBlanks", spec := "lexerBlanks", inPlace := ["internal/bytealg.IndexByteString", "internal/bytealg.IndexString"], unfollowed := true, recurses := true, named := ["kinetoscope/lexer.signs", "internal/bytealg.MaxLen"], apart := false, laid := [("kinetoscope/lexer.signs", laid_kinetoscope_lexer_signs)], narrowed := true }
def LexerBlanksUptoSaid : Prop := lexerBlanksUptoRow.holds Tryd.pinned (OpenSpec.upto lexerBlanksSpec)

/-- 'kinetoscopelaw06.LexerQuotes', WHERE WHAT IT READS IS OF BULK AT MOST 1048576: true; the input reads as it did. -/
def lexerQuotesUptoRow : OpenClaim := { program := "ytnjabmacbgehlaadoor", sum := "62eeeb062dc5315f73cd760fe98e7d3554876496b1c95af7922deeecf23595c0", func := "kinetoscope/kinetoscopelaw06.LexerQuotes", spec := "lexerQuotes", inPlace := ["internal/bytealg.IndexByteString", "internal/bytealg.IndexString"], unfollowed := true, recurses := true, named := ["kinetoscope/lexer.signs", "internal/bytealg.MaxLen"], apart := false, laid := [("kinetoscope/lexer.signs", laid_kinetoscope_lexer_signs)], narrowed := true }
def LexerQuotesUptoSaid : Prop := lexerQuotesUptoRow.holds Tryd.pinned (OpenSpec.upto lexerQuotesSpec)

/-- 'kinetoscopelaw06.LexerJoins', WHERE WHAT IT READS IS OF BULK AT MOST 1048576: true; the input reads as it did. -/
def lexerJoinsUptoRow : OpenClaim := { program := "ytnjabmacbgehlaadoor", sum := "62eeeb062dc5315f73cd760fe98e7d3554876496b1c95af7922deeecf23595c0", func := "kinetoscope/kinetoscopelaw06.LexerJoins", spec := "lexerJoins", inPlace := ["internal/bytealg.IndexByteString", "internal/bytealg.IndexString"], unfollowed := true, recurses := true, named := ["kinetoscope/lexer.signs", "internal/bytealg.MaxLen"], apart := false, laid := [("kinetoscope/lexer.signs", laid_kinetoscope_lexer_signs)], narrowed := true }
def LexerJoinsUptoSaid : Prop := lexerJoinsUptoRow.holds Tryd.pinned (OpenSpec.upto lexerJoinsSpec)

/-- 'kinetoscopelaw06.LexerHere', WHERE WHAT IT READS IS OF BULK AT MOST 1048576: true; the input reads as it did. -/
def lexerHereUptoRow : OpenClaim := { program := "ytnjabmacbgehlaadoor", sum := "62eeeb062dc5315f73cd760fe98e7d3554876496b1c95af7922deeecf23595c0", func := "kinetoscope/kinetoscopelaw06.LexerHere", spec := "lexerHere", inPlace := ["internal/bytealg.IndexByteString", "internal/bytealg.IndexString"], unfollowed := true, recurses := true, named := ["kinetoscope/lexer.signs", "internal/bytealg.MaxLen"], apart := false, laid := [("kinetoscope/lexer.signs", laid_kinetoscope_lexer_signs)], narrowed := true }
def LexerHereUptoSaid : Prop := lexerHereUptoRow.holds Tryd.pinned (OpenSpec.upto lexerHereSpec)

end Rows
end Go.Proofs.YtnjabmacbgehlaaDoor
