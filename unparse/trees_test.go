package unparse_test

import (
	"fmt"
	"math/rand"
	"slices"
	"strings"
	"testing"

	"kinetoscope/api"
	"kinetoscope/syntax"
	"kinetoscope/unparse"
)

// told is a node as a text: all that it is but its Line, an elif as an else with a list of its own.
func told(t syntax.Tree, at int) string {
	n := t.Nodes[at]
	s := fmt.Sprintf("%d %q %t %q %d", n.Kind, n.Text, n.Flag, n.Words, n.Sets)
	for _, r := range n.Redirs {
		s += fmt.Sprintf(" %d %q %q %q", r.FD, r.Op, r.Word, r.Body)
	}
	s += "("
	for i, k := range n.Kids {
		kid := told(t, k)
		if n.Kind == syntax.If && i == 2 && t.Nodes[k].Kind == syntax.If {
			list := syntax.Tree{Nodes: []api.Node{{Kind: syntax.Seq}}}
			kid = strings.TrimSuffix(told(list, 0), ")") + kid + ")"
		}
		s += kid
	}
	return s + ")"
}

// back holds that a tree's text is parsed as that tree, and shown again as it was; false: the text is too long.
func back(t *testing.T, tree syntax.Tree) bool {
	t.Helper()
	s := unparse.Show(tree)
	if len(s) > api.MaxText {
		return false
	}
	again, e, line := syntax.Parse(s)
	if e != api.OK {
		t.Errorf("%v, shown as %q: error %d, line %d", tree, s, e, line)
		return true
	}
	if got, want := told(again, again.Root()), told(tree, tree.Root()); got != want {
		t.Errorf("%q is the tree\n%s, not\n%s", s, got, want)
	}
	if got := unparse.Show(again); got != s {
		t.Errorf("shown again it is\n%q, not\n%q", got, s)
	}
	return true
}

// Marks in what is spelt: a newline of the chapter's list, and the head and the tail of what stands behind the next one.
const (
	newline = "\x01"
	head    = "\x02"
	tail    = "\x03"
)

// spelt is a node's text, with marks.
func spelt(t syntax.Tree, at int) string {
	n := t.Nodes[at]
	var kids, redirs []string
	for _, k := range n.Kids {
		kids = append(kids, spelt(t, k))
	}
	for _, r := range n.Redirs {
		s := fmt.Sprint(r.FD) + r.Op + r.Word
		if r.Op == "<<" {
			s += head + r.Body + strings.NewReplacer("'", "", `"`, "", `\`, "").Replace(r.Word) + "\n" + tail
		}
		redirs = append(redirs, s)
	}
	behind := strings.Join(append([]string{""}, redirs...), " ")
	switch n.Kind {
	case syntax.Simple:
		return strings.Join(append(redirs, n.Words...), " ")
	case syntax.Pipe:
		return map[bool]string{true: "! "}[n.Flag] + strings.Join(kids, " | ")
	case syntax.And:
		return kids[0] + " && " + kids[1]
	case syntax.Or:
		return kids[0] + " || " + kids[1]
	case syntax.Seq:
		return strings.Join(append(kids, ""), newline)
	case syntax.If:
		s := "if" + newline + kids[0] + "then" + newline + kids[1]
		if len(kids) > 2 {
			s += "else" + newline + kids[2]
			if t.Nodes[n.Kids[2]].Kind == syntax.If {
				s += newline
			}
		}
		return s + "fi" + behind
	case syntax.While:
		return map[bool]string{false: "while", true: "until"}[n.Flag] + newline + kids[0] + "do" + newline + kids[1] + "done" + behind
	case syntax.For:
		s := "for " + n.Text
		if !n.Flag {
			s += strings.Join(append([]string{" in"}, n.Words...), " ")
		}
		return s + newline + "do" + newline + kids[0] + "done" + behind
	case syntax.Case:
		return "case " + n.Text + " in" + newline + strings.Join(kids, "") + "esac" + behind
	case syntax.Item:
		return "(" + strings.Join(n.Words, "|") + ")" + newline + kids[0] + ";;" + newline
	case syntax.Group:
		return "{" + newline + kids[0] + "}" + behind
	case syntax.Sub:
		return "(" + newline + kids[0] + ")" + behind
	}
	return n.Text + "() " + kids[0]
}

// unmarked is what is spelt, with all that stands behind a newline there.
func unmarked(s string) string {
	var text, bodies strings.Builder
	for s != "" {
		i := strings.IndexAny(s, newline+head)
		if i < 0 {
			break
		}
		text.WriteString(s[:i])
		mark := s[i : i+1]
		s = s[i+1:]
		if mark == head {
			body, rest, _ := strings.Cut(s, tail)
			bodies.WriteString(body)
			s = rest
			continue
		}
		text.WriteString("\n" + bodies.String())
		bodies.Reset()
	}
	return text.String() + s
}

// maker makes trees by chance, as scripts have them, but for their Lines.
type maker struct {
	*rand.Rand
	nodes []api.Node
}

// one is one of them.
func (m *maker) one(l ...string) string { return l[m.Intn(len(l))] }

// maybe is true once in n times.
func (m *maker) maybe(n int) bool { return m.Intn(n) == 0 }

// some is fewer than n of them.
func (m *maker) some(n int, l ...string) []string {
	var all []string
	for range m.Intn(n) {
		all = append(all, m.one(l...))
	}
	return all
}

// add adds a node: its place.
func (m *maker) add(n api.Node) int {
	m.nodes = append(m.nodes, n)
	return len(m.nodes) - 1
}

// list makes one of least and-ors at least.
func (m *maker) list(deep, least int) int {
	n := api.Node{Kind: syntax.Seq}
	for range least + m.Intn(3) {
		n.Kids = append(n.Kids, m.andOr(deep))
	}
	return m.add(n)
}

func (m *maker) andOr(deep int) int {
	left := m.pipeline(deep)
	for m.maybe(4) {
		n := api.Node{Kind: syntax.And + m.Intn(2), Kids: []int{left, 0}}
		n.Kids[1] = m.pipeline(deep)
		left = m.add(n)
	}
	return left
}

func (m *maker) pipeline(deep int) int {
	n := api.Node{Kind: syntax.Pipe, Flag: m.maybe(6), Kids: []int{m.command(deep)}}
	for m.maybe(5) {
		n.Kids = append(n.Kids, m.command(deep))
	}
	if !n.Flag && len(n.Kids) == 1 {
		return n.Kids[0]
	}
	return m.add(n)
}

func (m *maker) command(deep int) int {
	switch {
	case deep == 0 || m.maybe(2):
		return m.plain()
	case m.maybe(6):
		n := api.Node{Kind: syntax.Func, Text: m.one("f", "in", "_9")}
		n.Kids = []int{m.compound(deep)}
		return m.add(n)
	}
	return m.compound(deep)
}

// plain makes a simple command.
func (m *maker) plain() int {
	n := api.Node{Kind: syntax.Simple, Redirs: m.redirs(4)}
	n.Words = m.some(3, "x=1", "y=", "_z='a\nb'")
	n.Sets = len(n.Words)
	first := []string{"a", "2", "-l", "'b\nc'", "1=2", "$", "in", "\"if\"", "}a", "${x:-'a\n}'}", "$((1\n+(2)))", "\\ b", "e\\|"}
	later := append(first[:len(first):len(first)], "x=2", "if", "}", "!", "done", "esac", "{", "case", "9")
	begun := n.Sets+len(n.Redirs) > 0
	switch {
	case begun && m.maybe(3):
		return m.add(n)
	case begun:
		first = append(first, "if", "}", "!", "{", "esac")
	}
	n.Words = append(n.Words, m.one(first...))
	n.Words = append(n.Words, m.some(4, later...)...)
	return m.add(n)
}

func (m *maker) redirs(n int) []api.Redir {
	var l []api.Redir
	for range m.Intn(n) {
		r := api.Redir{FD: m.Intn(100), Op: m.one("<", ">", ">>", "<<"), Word: m.one("f", "if", "'a\nb'", "$x", "1")}
		if r.Op == "<<" {
			r.Word = m.one("E", "'E F'", `\E`, `"E"G`, "''")
			r.Body = m.one("", "1\n", "a;\n$b 'c\n", " \n<<E \\\n")
		}
		l = append(l, r)
	}
	return l
}

func (m *maker) compound(deep int) int {
	within := func() int { return m.list(deep-1, 1) }
	n := api.Node{Kind: syntax.If + m.Intn(6), Flag: m.maybe(2)}
	switch n.Kind {
	case syntax.If:
		n = m.choice(deep)
	case syntax.While:
		n.Kids = []int{within(), within()}
	case syntax.For:
		n.Text, n.Kids = m.one("x", "if", "do", "in"), []int{within()}
		if !n.Flag {
			n.Words = m.some(4, "a", "do", "{", "x=1", "2", "'b\nc'", "in")
		}
	case syntax.Case:
		n.Text, n.Flag = m.one("x", "in", "esac", "\"$y\nz\""), false
		for range m.Intn(4) {
			item := api.Node{Kind: syntax.Item, Words: []string{m.one("a", "*", "if", "'b\nc'", "!", "esac")}}
			item.Words = append(item.Words, m.some(3, "b", "esac", "in", "d$", "1")...)
			item.Kids = []int{m.list(deep-1, 0)}
			n.Kids = append(n.Kids, m.add(item))
		}
	default:
		n.Kind, n.Flag, n.Kids = syntax.Group+m.Intn(2), false, []int{within()}
	}
	n.Redirs = m.redirs(3)
	return m.add(n)
}

func (m *maker) choice(deep int) api.Node {
	n := api.Node{Kind: syntax.If, Kids: []int{m.list(deep-1, 1), m.list(deep-1, 1)}}
	switch {
	case m.maybe(3):
		n.Kids = append(n.Kids, m.add(m.choice(deep)))
	case m.maybe(2):
		n.Kids = append(n.Kids, m.list(deep-1, 1))
	}
	return n
}

// made is a tree by chance.
func made(chance *rand.Rand) syntax.Tree {
	m := &maker{Rand: chance}
	m.list(m.Intn(4), m.Intn(3))
	return syntax.Tree{Nodes: m.nodes}
}

// below is the tree of a node and of all below it.
func below(t syntax.Tree, at int) syntax.Tree {
	return syntax.Tree{Nodes: t.Nodes[:at+1]}
}

// P8.1, and P8.2, of trees by chance.
func TestMade(t *testing.T) {
	chance := rand.New(rand.NewSource(8))
	kinds := make([]int, syntax.Func+1)
	for range 2500 {
		tree := made(chance)
		if !back(t, tree) {
			continue
		}
		for at, n := range tree.Nodes {
			kinds[n.Kind]++
			want := unmarked(spelt(tree, at))
			line, _, _ := strings.Cut(want, "\n")
			if got := unparse.Line(tree, at); got != line {
				t.Errorf("Line at %d of %v: %q, not %q", at, tree, got, line)
			}
			if got := unparse.Show(below(tree, at)); got != want {
				t.Errorf("Show of %v:\n%q, not\n%q", below(tree, at), got, want)
			}
		}
	}
	for kind := syntax.Simple; kind <= syntax.Func; kind++ {
		if kinds[kind] < 500 {
			t.Errorf("kind %d: only %d of it", kind, kinds[kind])
		}
	}
}

// P8.2, of scripts

// pieces stand between blanks, so that all that is parsed has one row of tokens.
var pieces = []string{
	"a", "x=1", "2", "'b\nc'", ";", "\n", "&&", "||", "|", "!", "(", ")", "{", "}", ">f", "<<E", "\nE\n", "if", "then", "fi", "f()", "esac",
}

// every holds P8.2 of each script that begins so, and goes on with up to n of the pieces; how many of them are scripts.
func every(t *testing.T, s string, n int) int {
	whole := 0
	if tree, e, _ := syntax.Parse(s); e == api.OK {
		back(t, tree)
		whole++
	}
	if n > 0 {
		for _, p := range pieces {
			whole += every(t, s+" "+p, n-1)
		}
	}
	return whole
}

func TestShortOnes(t *testing.T) {
	if whole := every(t, "", 4); whole < 20000 {
		t.Errorf("only %d scripts", whole)
	}
}

func TestBegun(t *testing.T) {
	whole := 0
	for _, s := range []string{
		"{ a;", "( a", "{ a <<E\n1\nE\n }", "(a) |", "f() {", "if a;then b;", "if a;then b;elif c;then d;", "if a;then b;else c;", "while a;do b;done", "until a <<E;do b;done", "for i do a;done", "for i in b;do a;done", "for i in b",
		"case a in", "case a in b) c;;", "case a in (b) c", "case a in esac", "a <<E", "a <<E|",
	} {
		whole += every(t, s, 3)
	}
	if whole < 2000 {
		t.Errorf("only %d scripts", whole)
	}
}

// What the lexer left out, or told apart by it, makes no other words.
func TestJoins(t *testing.T) {
	for _, s := range []string{
		"2\\\n>f", "a\\\n#b", ">\\\nf\\\ng", "i\\\nf a;then b;fi", ">f i\\\nf", "f\\\n()(a)", "<<\\\nE\nE", "\"a\\\nb\"", "'a\\\nb'", "$((1\\\n+2))", "${x\\\n:-y}", "a\\\\\nb", "a\\#", "<<E\\\nF\n\\\nEF",
	} {
		back(t, parsed(t, s))
	}
}

// deepIf is an if with n elifs.
func deepIf(n int) string {
	return "if a;then b;" + strings.Repeat("elif c;then d;", n) + "else e;fi"
}

// The edges of P8.2: lists for elifs that are nested as deep as may be, and deeper; texts as long as may be, and longer.
func TestEdges(t *testing.T) {
	if !back(t, parsed(t, deepIf(39))) {
		t.Error("39 elifs are too long")
	}
	s := unparse.Show(parsed(t, deepIf(40)))
	if want := "if\na\nthen\nb\n" + strings.Repeat("else\nif\nc\nthen\nd\n", 40) + "else\ne\n" + strings.Repeat("fi\n", 41); s != want {
		t.Errorf("40 elifs:\n%q, not\n%q", s, want)
	}
	if _, e, _ := syntax.Parse(s); e != api.ErrDeep {
		t.Errorf("40 elifs, shown: error %d", e)
	}
	deep := strings.Repeat("{ ", 40) + "a" + strings.Repeat(";}", 40)
	if !back(t, parsed(t, deep)) {
		t.Error("40 groups are too long")
	}
	if !back(t, parsed(t, strings.Repeat(">f;", 1024))) {
		t.Error("4096 bytes are too long")
	}
	long := parsed(t, strings.Repeat(">f;", 1025))
	if got, want := unparse.Show(long), strings.Repeat("1>f\n", 1025); got != want || back(t, long) {
		t.Errorf("1025 lines: %q", got)
	}
	chain := parsed(t, "a"+strings.Repeat("&&a", 1365))
	if got, want := unparse.Show(chain), "a"+strings.Repeat(" && a", 1365)+"\n"; got != want {
		t.Errorf("a chain: %q", got)
	}
}

// Of a tree that is shown just the Lines may be others.
func TestLinesAlone(t *testing.T) {
	tree := parsed(t, "\n\n{ a;b <<E|c;}&&for i\n1\nE\nin d;do e;done\nf")
	again := parsed(t, unparse.Show(tree))
	same := slices.EqualFunc(tree.Nodes, again.Nodes, func(a, b api.Node) bool {
		a.Line, b.Line = 0, 0
		return fmt.Sprint(a) == fmt.Sprint(b)
	})
	if !same {
		t.Errorf("%v became %v", tree, again)
	}
}
