package syntax_test

import (
	"math/rand"
	"strings"
	"testing"

	"kinetoscope/api"
	"kinetoscope/syntax"
)

// writer writes a script by chance, and the nodes that it has.
type writer struct {
	*rand.Rand
	text   strings.Builder
	line   int
	waits  []*int      // Lines of what begins with the next token
	heres  []api.Redir // whose bodies stand behind the next newline
	nodes  []api.Node
	begun  []*int // the nodes' Lines
	simple bool   // whether a word now would be one of a simple command
}

// one is one of them.
func (w *writer) one(l ...string) string { return l[w.Intn(len(l))] }

// maybe is true once in n times.
func (w *writer) maybe(n int) bool { return w.Intn(n) == 0 }

// begin is the line of the next token, once that is written.
func (w *writer) begin() *int {
	line := new(int)
	w.waits = append(w.waits, line)
	return line
}

// came tells what waits for a token that it is here.
func (w *writer) came() {
	for _, line := range w.waits {
		*line = w.line
	}
	w.waits = nil
}

// put writes tokens, each behind what is passed by.
func (w *writer) put(l ...string) {
	for _, s := range l {
		gap := w.one(" ", " ", " ", "\t ", " \\\n", " \\\n \\\n\t")
		w.line += strings.Count(gap, "\n")
		w.came()
		w.text.WriteString(gap + s)
	}
}

// newline writes a Line, and the bodies behind it.
func (w *writer) newline() {
	w.text.WriteString(w.one("", "", " # '", "\t\\\n"))
	w.line = 1 + strings.Count(w.text.String(), "\n")
	w.text.WriteString("\n")
	for _, r := range w.heres {
		w.text.WriteString(r.Body + strings.NewReplacer("'", "", `\`, "").Replace(r.Word) + "\n")
	}
	w.heres = nil
	w.line = 1 + strings.Count(w.text.String(), "\n")
}

// lines writes some Lines, mostly none.
func (w *writer) lines() {
	for w.maybe(4) {
		w.newline()
	}
}

// part writes what parts a list's commands.
func (w *writer) part() {
	if w.maybe(2) {
		w.put(";")
	} else {
		w.newline()
	}
	w.lines()
	w.simple = false
}

// add adds a node that began at a line: its place.
func (w *writer) add(n api.Node, line *int) int {
	w.nodes = append(w.nodes, n)
	w.begun = append(w.begun, line)
	return len(w.nodes) - 1
}

// list writes a list, and parts it from a word that ends it.
func (w *writer) list(deep, least int, byWord bool) int {
	w.simple = false
	w.lines()
	line := w.begin()
	n := api.Node{Kind: syntax.Seq}
	for range least + w.Intn(3) {
		if len(n.Kids) > 0 {
			w.part()
		}
		n.Kids = append(n.Kids, w.andOr(deep))
	}
	if byWord && w.simple || len(n.Kids) > 0 && w.maybe(2) {
		w.part()
	}
	return w.add(n, line)
}

// within writes a list within something, that a word ends.
func (w *writer) within(deep int) int { return w.list(deep-1, 1, true) }

func (w *writer) andOr(deep int) int {
	line := w.begin()
	left := w.pipeline(deep)
	for w.maybe(4) {
		n := api.Node{Kind: syntax.And}
		sign := w.one("&&", "||")
		if sign == "||" {
			n.Kind = syntax.Or
		}
		w.put(sign)
		w.lines()
		n.Kids = []int{left, w.pipeline(deep)}
		left = w.add(n, line)
	}
	return left
}

func (w *writer) pipeline(deep int) int {
	line := w.begin()
	n := api.Node{Kind: syntax.Pipe, Flag: w.maybe(6)}
	if n.Flag {
		w.put("!")
	}
	n.Kids = append(n.Kids, w.command(deep))
	for w.maybe(5) {
		w.put("|")
		w.lines()
		n.Kids = append(n.Kids, w.command(deep))
	}
	if !n.Flag && len(n.Kids) == 1 {
		return n.Kids[0]
	}
	return w.add(n, line)
}

func (w *writer) command(deep int) int {
	switch {
	case deep == 0 || w.maybe(2):
		return w.plain()
	case w.maybe(6):
		line := w.begin()
		n := api.Node{Kind: syntax.Func, Text: w.one("f", "in", "_9")}
		w.put(n.Text, "(", ")")
		w.lines()
		n.Kids = []int{w.compound(deep)}
		return w.add(n, line)
	}
	return w.compound(deep)
}

// word writes one of them into a simple command, and perhaps redirections.
func (w *writer) word(n *api.Node, l ...string) {
	word := w.one(l...)
	n.Words = append(n.Words, word)
	w.put(word)
	n.Redirs = append(n.Redirs, w.redirs()...)
}

// plain writes a simple command.
func (w *writer) plain() int {
	line := w.begin()
	n := api.Node{Kind: syntax.Simple}
	for range w.Intn(3) {
		w.word(&n, "x=1", "y=", "_z='a b'")
		n.Sets++
	}
	words := []string{"a", "2", "-l", "'b c'", "1=2", "$x", "in", "\"if\"", "}a"}
	for range w.Intn(4) {
		w.word(&n, words...)
		words = append(words, "x=2", "if", "}", "!", "done", "esac", "case")
	}
	if len(n.Words) == 0 {
		n.Redirs = append(n.Redirs, w.redir())
	}
	w.simple = true
	return w.add(n, line)
}

func (w *writer) redirs() []api.Redir {
	var l []api.Redir
	for w.maybe(6) {
		l = append(l, w.redir())
	}
	return l
}

func (w *writer) redir() api.Redir {
	r := api.Redir{Op: w.one("<", ">", ">>", "<<"), Word: w.one("f", "if", "'a b'", "$x", "1")}
	io := w.one("", "", "0", "1", "2", "007", "99", "100", "18446744073709551618")
	r.FD = map[string]int{"0": 0, "1": 1, "2": 2, "007": 7, "99": 99, "100": 99, "18446744073709551618": 99}[io]
	if io == "" && r.Op[0] == '>' {
		r.FD = 1
	}
	if r.Op == "<<" {
		r.Word, r.Body = w.one("E", "'E F'", `\E`), w.one("", "1\n", "a\n\nb;\n")
		w.heres = append(w.heres, r)
	}
	w.put(io+r.Op, r.Word)
	return r
}

func (w *writer) compound(deep int) int {
	line := w.begin()
	var n api.Node
	switch w.Intn(6) {
	case 0:
		w.put("{")
		n = api.Node{Kind: syntax.Group, Kids: []int{w.within(deep)}}
		w.put("}")
	case 1:
		w.put("(")
		n = api.Node{Kind: syntax.Sub, Kids: []int{w.list(deep-1, 1, false)}}
		w.put(")")
	case 2:
		n = w.choice(deep, "if")
		w.put("fi")
	case 3:
		n.Kind, n.Flag = syntax.While, w.maybe(2)
		w.put(map[bool]string{false: "while", true: "until"}[n.Flag])
		n.Kids = append(n.Kids, w.within(deep))
		n.Kids = append(n.Kids, w.body(deep))
	case 4:
		n = w.each(deep)
	case 5:
		n = w.match(deep)
	}
	n.Redirs = w.redirs()
	w.simple = false
	return w.add(n, line)
}

func (w *writer) choice(deep int, word string) api.Node {
	n := api.Node{Kind: syntax.If}
	w.put(word)
	n.Kids = append(n.Kids, w.within(deep))
	w.put("then")
	n.Kids = append(n.Kids, w.within(deep))
	switch w.Intn(4) {
	case 0:
		line := w.begin()
		n.Kids = append(n.Kids, w.add(w.choice(deep, "elif"), line))
	case 1:
		w.put("else")
		n.Kids = append(n.Kids, w.within(deep))
	}
	return n
}

func (w *writer) body(deep int) int {
	w.put("do")
	list := w.within(deep)
	w.put("done")
	return list
}

func (w *writer) each(deep int) api.Node {
	n := api.Node{Kind: syntax.For, Text: w.one("x", "if", "do", "in"), Flag: w.maybe(2)}
	w.put("for", n.Text)
	if n.Flag && w.maybe(2) {
		w.put(";")
	}
	w.lines()
	if !n.Flag {
		w.put("in")
		for range w.Intn(4) {
			n.Words = append(n.Words, w.one("a", "do", "{", "x=1", "2", "'b c'"))
			w.put(n.Words[len(n.Words)-1])
		}
		w.part()
	}
	n.Kids = []int{w.body(deep)}
	return n
}

func (w *writer) match(deep int) api.Node {
	n := api.Node{Kind: syntax.Case, Text: w.one("x", "in", "esac", "\"$y z\"")}
	w.put("case", n.Text)
	w.lines()
	w.put("in")
	w.lines()
	count := w.Intn(4)
	for i := range count {
		last := i == count-1 && w.maybe(2)
		n.Kids = append(n.Kids, w.item(deep, last))
		if !last {
			w.put(";;")
			w.lines()
		}
	}
	w.put("esac")
	return n
}

func (w *writer) item(deep int, last bool) int {
	line := w.begin()
	n := api.Node{Kind: syntax.Item}
	words := []string{"a", "*", "if", "'b c'", "!", "x=1"}
	if w.maybe(2) {
		w.put("(")
		words = append(words, "esac", "esac")
	}
	n.Words = []string{w.one(words...)}
	w.put(n.Words[0])
	for w.maybe(3) {
		n.Words = append(n.Words, w.one("b", "esac", "in"))
		w.put("|", n.Words[len(n.Words)-1])
	}
	w.put(")")
	n.Kids = []int{w.list(deep-1, 0, last)}
	return w.add(n, line)
}

// written is a script, and its nodes.
func written(chance *rand.Rand) (string, []api.Node) {
	w := &writer{Rand: chance, line: 1}
	w.list(w.Intn(4), w.Intn(3), false)
	if len(w.heres) > 0 {
		w.newline()
	}
	w.came()
	for i, line := range w.begun {
		w.nodes[i].Line = *line
	}
	return w.text.String(), w.nodes
}

// P7.2 and P7.3: what is written is parsed as what was to be written.
func TestWritten(t *testing.T) {
	chance := rand.New(rand.NewSource(7))
	kinds := make([]int, syntax.Func+1)
	for range 8000 {
		s, want := written(chance)
		if len(s) > api.MaxText {
			continue
		}
		tree, e, line := syntax.Parse(s)
		if e != api.OK || line != 0 {
			t.Fatalf("Parse(%q): error %d, line %d", s, e, line)
		}
		ordered(t, s, tree)
		same(t, s, tree.Nodes, want)
		for _, n := range want {
			kinds[n.Kind]++
		}
	}
	for kind := syntax.Simple; kind <= syntax.Func; kind++ {
		if kinds[kind] < 500 {
			t.Errorf("kind %d: only %d of it", kind, kinds[kind])
		}
	}
}
