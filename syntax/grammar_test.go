package syntax_test

import (
	"math/rand"
	"regexp"
	"slices"
	"strings"
	"testing"

	"kinetoscope/api"
	"kinetoscope/lexer"
	"kinetoscope/syntax"
)

// grammar is the chapter's, spelt another way: what a thing may be, each way a row of things, and of tokens.
var grammar = map[string][]string{
	"script":   {"any END"},
	"any":      {"lines some"},
	"list":     {"lines parts"},
	"some":     {"", "parts"},
	"parts":    {"andor parted"},
	"parted":   {"", "; lines some", "LINE lines some"},
	"lines":    {"", "LINE lines"},
	"andor":    {"pipeline chain"},
	"chain":    {"", "&& lines andor", "|| lines andor"},
	"pipeline": {"commands", "! commands"},
	"commands": {"command piped"},
	"piped":    {"", "| lines commands"},
	"command":  {"simple", "compound redirs", "FUNC ( ) lines compound redirs"},
	"simple":   {"FIRST more", "redir more"},
	"more":     {"NOWORD", "WORD more", "redir more"},
	"redirs":   {"", "redir redirs"},
	"redir":    {"arrow WORD", "IO arrow WORD"},
	"arrow":    {"<", ">", ">>", "<<"},
	"compound": {"{ list }", "( list )", "if list then list elifs other fi", "while list body", "until list body", "for NAME what lines body", "case WORD lines in lines items esac"},
	"elifs":    {"", "elif list then list elifs"},
	"other":    {"", "else list"},
	"body":     {"do list done"},
	"what":     {"", ";", "lines in words ;", "lines in words LINE"},
	"words":    {"", "WORD words"},
	"items":    {"", "ITEM pattern", "( WORD pattern"},
	"pattern":  {"| WORD pattern", ") any next"},
	"next":     {"", ";; lines items"},
}

var (
	reservedOnes = strings.Fields("! { } case do done elif else esac fi for if then until while")
	nameOnes     = regexp.MustCompile(`^[A-Za-z_][A-Za-z_0-9]*$`)
)

// fits tells whether a token is what a row asks for.
func fits(t api.Token, want string) bool {
	word, reserved := t.Kind == lexer.Word, slices.Contains(reservedOnes, t.Text)
	switch want {
	case "END":
		return t.Kind == lexer.End
	case "LINE":
		return t.Kind == lexer.Line
	case "IO":
		return t.Kind == lexer.Io
	case "WORD":
		return word
	case "FIRST":
		return word && !reserved
	case "FUNC":
		return word && !reserved && nameOnes.MatchString(t.Text)
	case "NAME":
		return word && nameOnes.MatchString(t.Text)
	case "ITEM":
		return word && t.Text != "esac"
	}
	return (word || t.Kind == lexer.Op) && t.Text == want
}

// open adds to all ways those in which a row of what is still to come begins with a token, or is empty.
func open(row string, all map[string]bool) {
	first, rest, _ := strings.Cut(row, " ")
	more, ok := grammar[first]
	if all[row] || !ok {
		all[row] = true
		return
	}
	for _, way := range more {
		open(strings.TrimSpace(way+" "+rest), all)
	}
}

// begun is all ways of a script.
func begun() map[string]bool {
	all := map[string]bool{}
	open("script", all)
	return all
}

// went is the ways that are left behind a token; none: it doesn't go on.
func went(ways map[string]bool, t api.Token) map[string]bool {
	all := map[string]bool{}
	for row := range ways {
		first, rest, _ := strings.Cut(row, " ")
		switch {
		case first == "NOWORD" && t.Kind != lexer.Word: // words go on with a simple command wherever they may
			behind := map[string]bool{}
			open(rest, behind)
			for row := range went(behind, t) {
				all[row] = true
			}
		case row != "" && fits(t, first):
			open(rest, all)
		}
	}
	return all
}

// wrongAt is the line of the first token that doesn't go on; 0: all do.
func wrongAt(tokens []api.Token) int {
	ways := begun()
	for _, t := range tokens {
		ways = went(ways, t)
		if len(ways) == 0 {
			return t.Line
		}
	}
	return 0
}

// agrees holds that a script is one, or isn't, by the grammar; true: it is one.
func agrees(t *testing.T, s string) bool {
	t.Helper()
	tokens, e, _ := lexer.All(s)
	if e != api.OK {
		t.Fatalf("%q: the lexer's error %d", s, e)
	}
	want := wrongAt(tokens)
	tree, e, line := syntax.Parse(s)
	if want > 0 {
		if e != api.ErrSyntax || line != want || len(tree.Nodes) > 0 {
			t.Errorf("Parse(%q): %d nodes, error %d, line %d, not %d", s, len(tree.Nodes), e, line, want)
		}
		return false
	}
	if e != api.OK || line != 0 {
		t.Errorf("Parse(%q): error %d, line %d", s, e, line)
		return false
	}
	ordered(t, s, tree)
	return true
}

var pieces = []string{
	"a", "x=1", "-", "\n", ";", "&&", "||", "|", "!", "(", ")", "{", "}", ";;", "if", "then", "elif", "else", "fi", "while", "until", "do", "done", "for", "in", "case", "esac", ">", "2<",
}

// every holds agreement of what begins so, and goes on with up to n of the pieces; how many of them are scripts. A join stands between each two, so that a line has one of them.
func every(t *testing.T, s string, n int) int {
	whole := 0
	if agrees(t, s) {
		whole++
	}
	if n == 0 || !goesOn(s) {
		return whole
	}
	for _, p := range pieces {
		whole += every(t, s+" \\\n"+p, n-1)
	}
	return whole
}

// goesOn tells whether more may stand behind what begins so.
func goesOn(s string) bool {
	tokens, _, _ := lexer.All(s)
	return wrongAt(tokens[:len(tokens)-1]) == 0
}

func TestShortOnes(t *testing.T) {
	if whole := every(t, "", 4); whole < 50000 {
		t.Errorf("only %d scripts", whole)
	}
}

func TestBegun(t *testing.T) {
	whole := 0
	for _, s := range []string{
		"a ;", "! a", "a &&", "a |", "{ a", "{ a ;", "( a", "{ a ; }", "( a )", "( a ) >f", "if a ;", "if a ; then", "if a ; then b ;", "if a ; then b ; elif c ;", "if a ; then b ; elif c ; then d ;", "if a ; then b ; else c ;", "if a ; then b ; fi",
		"while a ;", "while a ; do b ;", "until a ; do b ; done", "for", "for a", "for a ;", "for a \n", "for a in", "for a in b ;", "for a do", "for a do b ;",
		"case", "case a", "case a in", "case a in (", "case a in b", "case a in b )", "case a in b ) c", "case a in b ) c ;", "case a in b ) c ;;", "case a in b ) ;; esac", "case a in b ) ( c )", "f", "f (", "f ( )", "f ( ) { a", "f ( ) { a ; }", "f ( ) ( a ) ;", "a >", "a >f", "2> f",
	} {
		whole += every(t, s, 2)
	}
	if whole < 1000 {
		t.Errorf("only %d scripts", whole)
	}
}

// Long ones go on, token by token, but for some of them.
func TestLongOnes(t *testing.T) {
	chance := rand.New(rand.NewSource(7))
	whole := 0
	for range 8000 {
		s, ways := "", begun()
		for range 4 + chance.Intn(30) {
			p := pieces[chance.Intn(len(pieces))]
			tokens, _, _ := lexer.All(p)
			next := ways
			for _, token := range tokens[:len(tokens)-1] {
				next = went(next, token)
			}
			if len(next) > 0 || chance.Intn(300) == 0 {
				s, ways = s+" \\\n"+p, next
			}
		}
		if agrees(t, s) {
			whole++
		}
	}
	if whole < 1000 {
		t.Errorf("only %d scripts", whole)
	}
}
