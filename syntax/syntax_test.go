package syntax_test

import (
	"fmt"
	"slices"
	"strings"
	"testing"

	"kinetoscope/api"
	"kinetoscope/syntax"
)

var kinds = []string{"none", "simple", "pipe", "and", "or", "seq", "if", "while", "for", "case", "item", "group", "sub", "func"}

// told is a node as a text: its kind, :Text, !, [Words], =Sets, {Redirs}, (Kids).
func told(t syntax.Tree, at int) string {
	n := t.Nodes[at]
	s := kinds[n.Kind]
	if n.Text != "" {
		s += ":" + n.Text
	}
	if n.Flag {
		s += "!"
	}
	if len(n.Words) > 0 {
		s += "[" + strings.Join(n.Words, " ") + "]"
	}
	if n.Sets != 0 {
		s += fmt.Sprint("=", n.Sets)
	}
	var redirs, kids []string
	for _, r := range n.Redirs {
		redir := fmt.Sprint(r.FD, r.Op, r.Word)
		if r.Body != "" {
			redir += fmt.Sprintf("/%q", r.Body)
		}
		redirs = append(redirs, redir)
	}
	for _, k := range n.Kids {
		kids = append(kids, told(t, k))
	}
	if len(redirs) > 0 {
		s += "{" + strings.Join(redirs, " ") + "}"
	}
	if len(kids) > 0 {
		s += "(" + strings.Join(kids, " ") + ")"
	}
	return s
}

// ended is the places of a node and of all below it, in the order in which they end.
func ended(t syntax.Tree, at int) []int {
	var l []int
	for _, k := range t.Nodes[at].Kids {
		if k < 0 || k >= at {
			return nil
		}
		l = append(l, ended(t, k)...)
	}
	return append(l, at)
}

// ordered holds that nodes stand in the order in which they end, each but the last one the Kid of just one.
func ordered(t *testing.T, s string, tree syntax.Tree) {
	t.Helper()
	n := len(tree.Nodes)
	if n == 0 || tree.Root() != n-1 {
		t.Fatalf("Parse(%q): %d nodes, root %d", s, n, tree.Root())
	}
	l := ended(tree, n-1)
	if len(l) != n || !slices.IsSorted(l) || l[0] != 0 {
		t.Errorf("Parse(%q): nodes end in the order %v", s, l)
	}
}

// reads holds that a script has just that tree.
func reads(t *testing.T, s, want string) {
	t.Helper()
	tree, e, line := syntax.Parse(s)
	if e != api.OK || line != 0 {
		t.Errorf("Parse(%q): error %d, line %d", s, e, line)
		return
	}
	ordered(t, s, tree)
	if got := told(tree, tree.Root()); got != want {
		t.Errorf("Parse(%q):\n%s, not\n%s", s, got, want)
	}
}

// readsAll holds of each script that it has just that tree.
func readsAll(t *testing.T, trees map[string]string) {
	t.Helper()
	for s, want := range trees {
		reads(t, s, want)
	}
}

// fails holds that a script has no tree, but an error, and its line.
func fails(t *testing.T, s string, want api.Errno, at int) {
	t.Helper()
	tree, e, line := syntax.Parse(s)
	if len(tree.Nodes) > 0 || tree.Root() != -1 || e != want || line != at {
		t.Errorf("Parse(%.200q): %d nodes, error %d, line %d; not 0, %d, %d", s, len(tree.Nodes), e, line, want, at)
	}
}

// failsAll holds of each script that it is none, from that line on.
func failsAll(t *testing.T, lines map[string]int) {
	t.Helper()
	for s, line := range lines {
		fails(t, s, api.ErrSyntax, line)
	}
}

// lined holds that nodes have just these Lines.
func lined(t *testing.T, s string, want ...int) {
	t.Helper()
	tree, e, _ := syntax.Parse(s)
	var got []int
	for _, n := range tree.Nodes {
		got = append(got, n.Line)
	}
	if e != api.OK || !slices.Equal(got, want) {
		t.Errorf("Parse(%q): error %d, Lines %v, not %v", s, e, got, want)
	}
}

// P7.1

func TestKinds(t *testing.T) {
	all := []int{
		syntax.Simple, syntax.Pipe, syntax.And, syntax.Or, syntax.Seq, syntax.If, syntax.While,
		syntax.For, syntax.Case, syntax.Item, syntax.Group, syntax.Sub, syntax.Func,
	}
	for i, kind := range all {
		if kind != i+1 {
			t.Errorf("kind %d is %d", i+1, kind)
		}
	}
}

func TestRoot(t *testing.T) {
	for n := range 5 {
		if got := (syntax.Tree{Nodes: make([]api.Node, n)}).Root(); got != n-1 {
			t.Errorf("the root of %d nodes is %d", n, got)
		}
	}
	if got := (syntax.Tree{Nodes: []api.Node{}}).Root(); got != -1 {
		t.Errorf("the root of none is %d", got)
	}
}

func TestOrder(t *testing.T) {
	for s, want := range map[string]string{
		"":                 "seq",
		"a && b; c":        "simple simple and simple seq",
		"a || b && c":      "simple simple or simple and seq",
		"! a | b":          "simple simple pipe seq",
		"{ a; }":           "simple seq group seq",
		"(a;b)":            "simple simple seq sub seq",
		"f() (a)":          "simple seq sub func seq",
		"if a; then b; fi": "simple seq simple seq if seq",
		"if a; then b; elif c; then d; else e; fi": "simple seq simple seq simple seq simple seq simple seq if if seq",
		"until a; do b; done":                      "simple seq simple seq while seq",
		"for x in a; do b; done":                   "simple seq for seq",
		"case x in a) b;; c) ;; esac; d":           "simple seq item seq item case simple seq",
	} {
		tree, e, line := syntax.Parse(s)
		var got []string
		for _, n := range tree.Nodes {
			got = append(got, kinds[n.Kind])
		}
		if strings.Join(got, " ") != want || e != api.OK || line != 0 {
			t.Errorf("Parse(%q): error %d, line %d, %s, not %s", s, e, line, got, want)
			continue
		}
		ordered(t, s, tree)
	}
}

func TestLexerErrors(t *testing.T) {
	failsAll(t, map[string]int{
		"'": 1, "a\n'b": 2, "a\\": 1, "a &": 1, "a\n`b`": 2, "a $(b)": 1, "${": 1, "a <<E": 1, "a <<E\nb\n": 1,
		"a\n}\n'": 3, // ahead of what the tokens would be
		")\n'":    2,
	})
	fails(t, strings.Repeat("(", 41)+"\n'", api.ErrSyntax, 2)
	fails(t, "a\n"+strings.Repeat("${x", 9)+strings.Repeat("}", 9), api.ErrDeep, 2)
	fails(t, "}\n"+strings.Repeat("${x", 9)+strings.Repeat("}", 9), api.ErrDeep, 2)
	fails(t, strings.Repeat("a", 4097), api.ErrBig, 0)
	fails(t, strings.Repeat(")\n", 2049), api.ErrBig, 0)
	fails(t, strings.Repeat("\n", 4095)+")", api.ErrSyntax, 4096)
	long := strings.Repeat("a", 4096)
	reads(t, long, "seq(simple["+long+"])")
}

func TestListWrong(t *testing.T) {
	failsAll(t, map[string]int{
		";": 1, "\n;": 2, "a;;": 1, "a\n;b": 2, "a; ;b": 1, "a;\n;": 2, ";;": 1, "a ;; b": 1, "a\n\n;;": 3,
		"&&": 1, "a &&": 1, "a &&\n\n": 3, "a\n&& b": 2, "a; && b": 1, "a && && b": 1, "a &&\n;": 2, "a || || b": 1, "a ||\n)": 2, "|| a": 1, "a && || b": 1,
		"|": 1, "a |": 1, "a |\n": 2, "a\n| b": 2, "a | | b": 1, "a |\n| b": 2, "a | ;": 1, "a | &&": 1, "a | ! b": 1, "a |\n! b": 2,
		"!": 1, "!\na": 1, "! ! a": 1, "! \\\n! a": 2, "!;": 1, "! |": 1, "! && a": 1,
		")": 1, "a )": 1, "a\n)": 2, "a;)": 1,
	})
}

func TestReservedWrong(t *testing.T) {
	for _, w := range []string{"}", "do", "done", "elif", "else", "esac", "fi", "then"} {
		fails(t, w, api.ErrSyntax, 1)
		fails(t, "a\n"+w, api.ErrSyntax, 2)
		fails(t, "a;\n"+w+" b", api.ErrSyntax, 2)
		fails(t, "a &&\n"+w, api.ErrSyntax, 2)
		fails(t, "a ||\n"+w, api.ErrSyntax, 2)
		fails(t, "a |\n"+w, api.ErrSyntax, 2)
		fails(t, "! \\\n"+w, api.ErrSyntax, 2)
		fails(t, "(\n"+w, api.ErrSyntax, 2)
		fails(t, "{\n"+w, api.ErrSyntax, 2)
		fails(t, "f()\n"+w, api.ErrSyntax, 2)
		fails(t, w+" \\\n() { a; }", api.ErrSyntax, 1)
		fails(t, w+" \\\n>f", api.ErrSyntax, 1)
	}
	for _, w := range []string{"!", "{", "case", "for", "if", "until", "while"} {
		fails(t, w, api.ErrSyntax, 1)
		fails(t, w+"\\\n)", api.ErrSyntax, 2)
		fails(t, w+"\\\n() { a; }", api.ErrSyntax, 2)
	}
}

func TestWithinWrong(t *testing.T) {
	failsAll(t, map[string]int{
		"{ }": 1, "{\n\n}": 3, "{ ;}": 1, "{ a": 1, "{ a;": 1, "{ a }": 1, "{ a;\n": 2, "{ a; )": 1, "{ a; } b": 1, "{ a; } \\\n}": 2, "{ a;; }": 1, "{ a; } >": 1, "{ a; } >f \\\nb": 2,
		"()": 1, "a\n( )": 2, "(\n\n)": 3, "(a": 1, "(a;": 1, "(a;;)": 1, "(a; })": 1, "(a) b": 1, "(a))": 1, "(a)\\\n(b)": 2, "(a) >f\\\n(b)": 2, "(a; b;\n;)": 2,
	})
}

func TestIfWrong(t *testing.T) {
	failsAll(t, map[string]int{
		"if": 1, "if a": 1, "if a\n": 2, "if a; b": 1, "if a\nthen": 2, "if\nthen": 2, "if a; then\nfi": 2, "if; then a; fi": 1, "if a then b; fi": 1,
		"if a; then b": 1, "if a; then b;\n": 2, "if a; then b; }": 1, "if a; then b; done": 1, "if a; then b\nthen": 2,
		"if a; then b; else\nfi": 2, "if a; then b; else c": 1, "if a; then b; else c;\nelse d; fi": 2, "if a; then b; else c;\nelif d; then e; fi": 2,
		"if a; then b; elif\nfi": 2, "if a; then b; elif c; fi": 1, "if a; then b; elif c;\nelse d; fi": 2, "if a; then b; elif c; then\nelif d; then e; fi": 2,
		"if a; then b; elif c; then d; fi \\\nfi": 2, "if a; then b; fi \\\nc": 2, "if a; then b; fi >f \\\nfi": 2, "if a; then b; else if c; then d; fi": 1,
	})
}

func TestLoopWrong(t *testing.T) {
	failsAll(t, map[string]int{
		"while": 1, "while a": 1, "while\ndo": 2, "while a; b\ndone": 2, "while a; do\ndone": 2, "while a; do b": 1, "while a; do b;\nfi": 2, "while a; do b; done \\\ndone": 2, "while a do b; done": 1, "while; do a; done": 1,
		"until": 1, "until a": 1, "until\ndo": 2, "until a; do\ndone": 2, "until a; do b;\n}": 2, "until a; do b; done \\\nc": 2, "until a; then b; done": 1,
		"for": 1, "for\nx": 1, "for;": 1, "for 1 in a; do b; done": 1, "for x-y in a; do b; done": 1, "for 'x' in a; do b; done": 1, "for $x in a; do b; done": 1, "for \\\n2>f": 2, "for x=1 in a; do b; done": 1, "for (": 1,
		"for x": 1, "for x\n": 2, "for x y": 1, "for x In a; do b; done": 1, "for x 'in' a; do b; done": 1, "for x;\n;": 2, "for x;\nin a; do b; done": 2, "for x\n; do b; done": 2, "for x do": 1, "for x do\ndone": 2, "for x; done": 1, "for x )": 1,
		"for x in": 1, "for x in a": 1, "for x in a do b\ndone": 2, "for x in a; b": 1, "for x in a;;": 1, "for x in a &&": 1, "for x in a\\\n>f": 2, "for x in 2\\\n>f": 2, "for x in \\\n2>f": 2, "for x in a (": 1, "for x in a;\n; do b; done": 2, "for x in a; do\ndone": 2, "for x in a; do b": 1, "for x in a; do b;\nfi": 2, "for x in a; do b; done \\\nc": 2,
	})
}

func TestCaseWrong(t *testing.T) {
	failsAll(t, map[string]int{
		"case": 1, "case\nx": 1, "case;": 1, "case (": 1, "case \\\n2>f": 2, "case x": 1, "case x\n\n": 3, "case x y": 1, "case x;\nin": 1, "case x 'in' a) esac": 1,
		"case x in": 1, "case x in\n\n": 3, "case x in a": 1, "case x in a\n)": 1, "case x in a b)": 1, "case x in a;": 1, "case x in )": 1, "case x in\n|": 2, "case x in ()": 1, "case x in (\na)": 1, "case x in ((": 1, "case x in (a": 1, "case x in \\\n2>f": 2, "case x in ;;": 1, "case x in >": 1,
		"case x in a|": 1, "case x in a|)": 1, "case x in a|\nb)": 1, "case x in a||b)": 1, "case x in a|(": 1, "case x in |a)": 1,
		"case x in a)": 1, "case x in a) ;": 1, "case x in a)\n;": 2, "case x in a) b": 1, "case x in a) b esac": 1, "case x in a) b\nc) d;; esac": 2, "case x in a) b; )": 1, "case x in a) b;\n;": 2, "case x in a) b\n}": 2, "case x in a) && b": 1, "case x in a) (b) \\\n(c) d;; esac": 2, "case x in a) (b) \\\nc) d;; esac": 2, "case x in a) { b; } \\\nc|d) ;; esac": 2,
		"case x in a) b;;": 1, "case x in a) b;;\n;;": 2, "case x in a) b;; ;": 1, "case x in a) b;; c": 1, "case x in esac)": 1, "case x in a) ;; esac)": 1, "case x in esac | a) b;; esac": 1, "case x in (esac": 1, "case x in esac \\\nb": 2, "case x in esac >f \\\nesac": 2,
	})
}

func TestFuncWrong(t *testing.T) {
	failsAll(t, map[string]int{
		"f(": 1, "f(\n)": 1, "f( x )": 1, "f(\\\nx )": 2, "f((": 1, "f()": 1, "f()\n\n": 3, "f();": 1, "f() a": 1, "f()\nx=1": 2, "f()\n>f": 2, "f() 2>f": 1, "f()\n! { a; }": 2, "f()\n)": 2, "f()()": 1,
		"f()\ng() { a; }": 2, "f() { }": 1, "f() { a; } b": 1, "f() { a; } \\\n{ b; }": 2, "f() (a)\\\n(b)": 2, "f()\n|": 2,
		"a-b() { c; }": 1, "1() { a; }": 1, "'f'() { a; }": 1, "f \\\n'g' \\\n() { a; }": 3, "$f() { a; }": 1, "x=1 \\\nf \\\n() { a; }": 3, "a f\\\n() { b; }": 2, ">g f \\\n() { a; }": 2, "f >g\\\n()": 2, "! f\\\n( ! )": 2,
	})
}

func TestRedirsWrong(t *testing.T) {
	failsAll(t, map[string]int{
		"a >": 1, "a >\nb": 1, "<": 1, ">>": 1, "<<": 1, "<<\nE": 1, "a > ;": 1, "a > >f": 1, "a >\\\n2>f": 2, "a <(": 1, "2>": 1, "2> 3>f": 1, "a 2>\\\n>f": 2, "a >|f": 1, "<< <E": 1, "a >\\\n)": 2, "> &&": 1, "a <>f": 1,
		"{ a; } 2>\n": 1, "(a) <\\\n<<E\nE\n": 2, "if a; then b; fi >>;": 1, "f() { a; } >": 1,
	})
}

// shells are what a command may stand in: what is ahead of the first token of that, up to the command, and behind it.
var shells = []struct{ ahead, head, tail string }{
	{"", "{\n", "\n}"},
	{"", "(\n", "\n)"},
	{"", "if\n", "\nthen a\nfi"},
	{"", "if a\nthen\n", "\nfi"},
	{"", "if a\nthen b\nelif\n", "\nthen c\nfi"},
	{"", "if a\nthen b\nelif c\nthen\n", "\nfi"},
	{"", "if a\nthen b\nelse\n", "\nfi"},
	{"", "while\n", "\ndo a\ndone"},
	{"", "while a\ndo\n", "\ndone"},
	{"", "until\n", "\ndo a\ndone"},
	{"", "until a\ndo\n", "\ndone"},
	{"", "for x in\ndo\n", "\ndone"},
	{"", "for x\ndo\n", "\ndone"},
	{"", "case x in\na)\n", "\n;;\nesac"},
	{"! ", "{\n", "\n} >f"},
	{"a &&\na |\n", "{\n", "\n} || b"},
	{"a; b\n", "(\nc;\n", "\nd)"},
}

// within is a script within n of these, from the i-th one on, and its line.
func within(i, n int, s string) (string, int) {
	head, tail := "", ""
	for k := range n {
		shell := shells[(i+k)%len(shells)]
		head, tail = head+shell.ahead+shell.head, shell.tail+tail
	}
	return head + s + tail, 1 + strings.Count(head, "\n")
}

// deep holds what error a script within n others has, in the down-th line behind its first one.
func deep(t *testing.T, n int, s string, want api.Errno, down int) {
	t.Helper()
	for i := range shells {
		script, line := within(i, n, s)
		if want != api.OK {
			fails(t, script, want, line+down)
			continue
		}
		tree, e, at := syntax.Parse(script)
		if e != api.OK || at != 0 {
			t.Errorf("Parse(%q), %d deep: error %d, line %d", script, n, e, at)
			continue
		}
		ordered(t, script, tree)
	}
}

func TestDeepAlike(t *testing.T) {
	for _, shell := range shells {
		again := shell.ahead + shell.head
		for n, want := range map[int]api.Errno{1: api.OK, 39: api.OK, 40: api.OK, 41: api.ErrDeep, 60: api.ErrDeep} {
			s := strings.Repeat(again, n) + "a" + strings.Repeat(shell.tail, n)
			if want != api.OK {
				fails(t, s, want, 1+40*strings.Count(again, "\n")+strings.Count(shell.ahead, "\n"))
				continue
			}
			if _, e, line := syntax.Parse(s); e != api.OK || line != 0 {
				t.Errorf("Parse(%.60q), %d deep: error %d, line %d", s, n, e, line)
			}
		}
	}
}

func TestDeep(t *testing.T) {
	for _, s := range []string{"{ a; }", "(a)", "if a; then b; elif c; then d; fi", "while a; do b; done", "until a; do b; done", "for x in a; do b; done", "for x do b; done", "case x in esac", "(a) >f && (b); ! { c; } | (d)"} {
		deep(t, 39, s, api.OK, 0)
		deep(t, 40, s, api.ErrDeep, 0)
		deep(t, 40, "a\n"+s, api.ErrDeep, 1)
		deep(t, 40, "a && ! b |\n"+s, api.ErrDeep, 1)
	}
	deep(t, 40, "a >f; ! b | c && x=1 if", api.OK, 0)
	deep(t, 39, "if a\nthen b\n"+strings.Repeat("elif a\nthen b\n", 100)+"fi", api.OK, 0) // elifs aren't within each other
	deep(t, 40, "f", api.OK, 0)
	deep(t, 40, "f\n(a)", api.ErrDeep, 1)
	for _, again := range []string{"(a)", "{ a; }", "f() (a)", "if a; then b; fi", "while a; do b; done", "for x do a; done", "case x in a) b;; esac"} { // nor what stands behind each other
		deep(t, 0, strings.Repeat(again+"\n", 60), api.OK, 0)
		deep(t, 38, strings.Repeat(again+" && ", 10)+"a", api.OK, 0)
	}
}

func TestDeepFuncs(t *testing.T) {
	deep(t, 38, "f() { a; }", api.OK, 0)
	deep(t, 38, "f()\n{\n(a); }", api.ErrDeep, 2)
	deep(t, 39, "f()\n{ a; }", api.ErrDeep, 1) // a function is one, what it does is another one
	deep(t, 39, "f\\\n()\n\n(a)", api.ErrDeep, 3)
	deep(t, 39, "f()\na", api.ErrSyntax, 1)
	deep(t, 39, "f()\ng() { a; }", api.ErrSyntax, 1)
	deep(t, 39, "f(\\\nx )", api.ErrSyntax, 1)
	deep(t, 40, "f() { a; }", api.ErrDeep, 0)
	deep(t, 40, "f\\\n() { a; }", api.ErrDeep, 0)
	for n, want := range map[int]api.Errno{1: api.OK, 19: api.OK, 20: api.OK, 21: api.ErrDeep} {
		s := strings.Repeat("f() {\n", n) + "a" + strings.Repeat("\n}", n)
		if want != api.OK {
			fails(t, s, want, 21)
		} else if _, e, line := syntax.Parse(s); e != api.OK || line != 0 {
			t.Errorf("Parse(%q): error %d, line %d", s, e, line)
		}
	}
}

func TestWhicheverComesFirst(t *testing.T) {
	for _, s := range []string{"{", "(", "if", "while", "until", "for", "case", "f(", "{ }", "( )", "if;", "f( x", "f() g", "for 1", "case )", "in()", "case x", "(;)"} { // wrong only behind what is too deep
		deep(t, 40, s, api.ErrDeep, 0)
		deep(t, 40, s+"\n;", api.ErrDeep, 0)
	}
	for s, down := range map[string]int{"}": 0, "! !": 0, "a |\\\n| (": 1, "a; ;\\\n(": 0, "a-b() (": 0, "do (": 0, "done() {": 0, "a f() {": 0, "a &&\n&& {": 1} { // wrong ahead of it
		deep(t, 40, s, api.ErrSyntax, down)
	}
	fails(t, "a\n)\n"+strings.Repeat("(", 41), api.ErrSyntax, 2)
	fails(t, strings.Repeat("(", 41)+"\n"+strings.Repeat(")", 50), api.ErrDeep, 1)
	fails(t, strings.Repeat("(", 40)+"\n"+strings.Repeat(")", 50), api.ErrSyntax, 2)
}

// P7.2

func TestLists(t *testing.T) {
	readsAll(t, map[string]string{
		"": "seq", " \t": "seq", "\n": "seq", "\n\n # a\n": "seq", "\\\n": "seq",
		"a": "seq(simple[a])", "\n\na": "seq(simple[a])", "a;": "seq(simple[a])", "a\n": "seq(simple[a])", "a;\n\n": "seq(simple[a])", "a\n\n\n": "seq(simple[a])", "\na;\n": "seq(simple[a])",
		"a;b": "seq(simple[a] simple[b])", "a\nb": "seq(simple[a] simple[b])", "a;\n\nb": "seq(simple[a] simple[b])", "a\n\nb;": "seq(simple[a] simple[b])", "a;b\nc;\nd\n": "seq(simple[a] simple[b] simple[c] simple[d])",
		"a && b": "seq(and(simple[a] simple[b]))", "a || b": "seq(or(simple[a] simple[b]))", "a &&\n\nb": "seq(and(simple[a] simple[b]))", "a||\nb": "seq(or(simple[a] simple[b]))",
		"a && b || c": "seq(or(and(simple[a] simple[b]) simple[c]))", "a || b && c": "seq(and(or(simple[a] simple[b]) simple[c]))", "a&&b&&c": "seq(and(and(simple[a] simple[b]) simple[c]))", "a||b||c||d": "seq(or(or(or(simple[a] simple[b]) simple[c]) simple[d]))",
		"a && b; c": "seq(and(simple[a] simple[b]) simple[c])", "a; b || c": "seq(simple[a] or(simple[b] simple[c]))",
		"a && { b || c; }": "seq(and(simple[a] group(seq(or(simple[b] simple[c])))))",
	})
}

func TestPipes(t *testing.T) {
	readsAll(t, map[string]string{
		"a | b": "seq(pipe(simple[a] simple[b]))", "a|b|c": "seq(pipe(simple[a] simple[b] simple[c]))", "a |\n\nb": "seq(pipe(simple[a] simple[b]))",
		"! a": "seq(pipe!(simple[a]))", "! a | b": "seq(pipe!(simple[a] simple[b]))", "! \\\na": "seq(pipe!(simple[a]))",
		"a | b && ! c | d": "seq(and(pipe(simple[a] simple[b]) pipe!(simple[c] simple[d])))", "! a || ! b": "seq(or(pipe!(simple[a]) pipe!(simple[b])))", "a &&\n! b": "seq(and(simple[a] pipe!(simple[b])))",
		"(a) | { b; }": "seq(pipe(sub(seq(simple[a])) group(seq(simple[b]))))", "! (a)": "seq(pipe!(sub(seq(simple[a]))))", "! { ! a; }": "seq(pipe!(group(seq(pipe!(simple[a])))))",
		"a | if b; then c; fi >f | d": "seq(pipe(simple[a] if{1>f}(seq(simple[b]) seq(simple[c])) simple[d]))", "! f() (a)": "seq(pipe!(func:f(sub(seq(simple[a])))))", "a | f() (b)": "seq(pipe(simple[a] func:f(sub(seq(simple[b])))))",
		"(a | b)": "seq(sub(seq(pipe(simple[a] simple[b]))))",
	})
}

func TestSimple(t *testing.T) {
	readsAll(t, map[string]string{
		"a b c": "seq(simple[a b c])", "a 'b c' \"d\" \\e $f ${g} $((1+2))": "seq(simple[a 'b c' \"d\" \\e $f ${g} $((1+2))])", "''": "seq(simple[''])", "a\\\nb \\\nc": "seq(simple[ab c])",
		"x=1": "seq(simple[x=1]=1)", "x=1 y= z=\"a b\" c": "seq(simple[x=1 y= z=\"a b\" c]=3)", "x=1 a y=2": "seq(simple[x=1 a y=2]=1)", "a x=1": "seq(simple[a x=1])", "1=2 x=1": "seq(simple[1=2 x=1])", "'x'=1 y=2": "seq(simple['x'=1 y=2])", "x== _9=x": "seq(simple[x== _9=x]=2)", "x-y=1": "seq(simple[x-y=1])",
		"x=1 >f y=2 a": "seq(simple[x=1 y=2 a]=2{1>f})", ">f x=1": "seq(simple[x=1]=1{1>f})", "x=1; y=2": "seq(simple[x=1]=1 simple[y=2]=1)",
		"!a": "seq(simple[!a])", "{a": "seq(simple[{a])", "}b": "seq(simple[}b])", "{}": "seq(simple[{}])", "'!'": "seq(simple['!'])", "\\if": "seq(simple[\\if])", "\"then\"": "seq(simple[\"then\"])", "i'f'": "seq(simple[i'f'])", "If": "seq(simple[If])", "$if": "seq(simple[$if])",
		"in": "seq(simple[in])", "in a; a in": "seq(simple[in a] simple[a in])", "f": "seq(simple[f])", "f\n(a)": "seq(simple[f] sub(seq(simple[a])))", "f;(a)": "seq(simple[f] sub(seq(simple[a])))",
		"x=1 if": "seq(simple[x=1 if]=1)", ">f if": "seq(simple[if]{1>f})", "2>f }": "seq(simple[}]{2>f})", "i\\\nf a; then b; fi": "seq(if(seq(simple[a]) seq(simple[b])))",
	})
	for _, w := range []string{"!", "{", "}", "case", "do", "done", "elif", "else", "esac", "fi", "for", "if", "then", "until", "while", "in"} {
		reads(t, "a "+w+" "+w, "seq(simple[a "+w+" "+w+"])")
		reads(t, "(a "+w+")", "seq(sub(seq(simple[a "+w+"])))")
		reads(t, w+"s", "seq(simple["+w+"s])")
		reads(t, "x"+w, "seq(simple[x"+w+"])")
		reads(t, "<"+w+" "+w, "seq(simple["+w+"]{0<"+w+"})")
	}
}

func TestRedirs(t *testing.T) {
	readsAll(t, map[string]string{
		"<f": "seq(simple{0<f})", ">f": "seq(simple{1>f})", ">>f": "seq(simple{1>>f})", "<<E\n1\nE\n": `seq(simple{0<<E/"1\n"})`, "<<E\nE": "seq(simple{0<<E})", "a<f": "seq(simple[a]{0<f})",
		"0>f": "seq(simple{0>f})", "1<f": "seq(simple{1<f})", "2>>f": "seq(simple{2>>f})", "3<<'E F'\n1\n2\nE F\n": `seq(simple{3<<'E F'/"1\n2\n"})`, "007>f": "seq(simple{7>f})", "10<f": "seq(simple{10<f})", "98>f": "seq(simple{98>f})", "99>f": "seq(simple{99>f})", "100>f": "seq(simple{99>f})", "990<f": "seq(simple{99<f})", "0100>f": "seq(simple{99>f})", "00000000000000000000042>>f": "seq(simple{42>>f})",
		"9223372036854775808>f": "seq(simple{99>f})", "18446744073709551617>f": "seq(simple{99>f})", "123456789012345678901234567890<f": "seq(simple{99<f})",
		"a >f 2>>g b <h": "seq(simple[a b]{1>f 2>>g 0<h})", ">f >f": "seq(simple{1>f 1>f})", "> 'f g' a": "seq(simple[a]{1>'f g'})", "a > if": "seq(simple[a]{1>if})", ">}": "seq(simple{1>}})", ">$x\\\ny": "seq(simple{1>$xy})", "a 2 >f": "seq(simple[a 2]{1>f})", "a>x=1": "seq(simple[a]{1>x=1})",
		"a <<E >f <<F; b <<E\n1\nE\nF\n2\nE\nc": `seq(simple[a]{0<<E/"1\n" 1>f 0<<F} simple[b]{0<<E/"2\n"} simple[c])`,
		"{ a; } >f":                             "seq(group{1>f}(seq(simple[a])))", "(a)2>f<g": "seq(sub{2>f 0<g}(seq(simple[a])))", "if a; then b; fi <f": "seq(if{0<f}(seq(simple[a]) seq(simple[b])))", "while a; do b; done >>f": "seq(while{1>>f}(seq(simple[a]) seq(simple[b])))", "until a; do b; done 3>f": "seq(while!{3>f}(seq(simple[a]) seq(simple[b])))", "for x in; do a; done <f >g": "seq(for:x{0<f 1>g}(seq(simple[a])))", "case x in esac <<E\n1\nE\n": `seq(case:x{0<<E/"1\n"})`,
		"f() { a; } >f 2>g": "seq(func:f(group{1>f 2>g}(seq(simple[a]))))", "f() (a) <<E; b\n1\nE\n": `seq(func:f(sub{0<<E/"1\n"}(seq(simple[a]))) simple[b])`,
		"{ a >f; } >g": "seq(group{1>g}(seq(simple[a]{1>f})))", "{ (a) >f; } <g": "seq(group{0<g}(seq(sub{1>f}(seq(simple[a])))))", "if a; then b; elif c; then d; fi >f": "seq(if{1>f}(seq(simple[a]) seq(simple[b]) if(seq(simple[c]) seq(simple[d]))))",
		"while a <<E; do\n1\nE\nb; done": `seq(while(seq(simple[a]{0<<E/"1\n"}) seq(simple[b])))`,
	})
}

func TestGroups(t *testing.T) {
	readsAll(t, map[string]string{
		"{ a; }": "seq(group(seq(simple[a])))", "{\na\n}": "seq(group(seq(simple[a])))", "{ a; b\n\nc;\n}": "seq(group(seq(simple[a] simple[b] simple[c])))", "{ { a; } }": "seq(group(seq(group(seq(simple[a])))))", "{ (a) }": "seq(group(seq(sub(seq(simple[a])))))",
		"(a)": "seq(sub(seq(simple[a])))", "(\na;b;\n)": "seq(sub(seq(simple[a] simple[b])))", "((a);(b))": "seq(sub(seq(sub(seq(simple[a])) sub(seq(simple[b])))))", "({ a; })": "seq(sub(seq(group(seq(simple[a])))))", "(a);(b)": "seq(sub(seq(simple[a])) sub(seq(simple[b])))",
		"( ! a && b | c )": "seq(sub(seq(and(pipe!(simple[a]) pipe(simple[b] simple[c])))))",
	})
}

func TestIf(t *testing.T) {
	readsAll(t, map[string]string{
		"if a; then b; fi":                                          "seq(if(seq(simple[a]) seq(simple[b])))",
		"if\n\na\nthen\n\nb\n\nfi":                                  "seq(if(seq(simple[a]) seq(simple[b])))",
		"if a; b; then c; d; else e; f; fi":                         "seq(if(seq(simple[a] simple[b]) seq(simple[c] simple[d]) seq(simple[e] simple[f])))",
		"if a; then b; elif c; then d; fi":                          "seq(if(seq(simple[a]) seq(simple[b]) if(seq(simple[c]) seq(simple[d]))))",
		"if a; then b; elif c; then d; else e; fi":                  "seq(if(seq(simple[a]) seq(simple[b]) if(seq(simple[c]) seq(simple[d]) seq(simple[e]))))",
		"if a; then b; elif c; then d; elif e\nthen f\nelse\ng\nfi": "seq(if(seq(simple[a]) seq(simple[b]) if(seq(simple[c]) seq(simple[d]) if(seq(simple[e]) seq(simple[f]) seq(simple[g])))))",
		"if a; then b; else if c; then d; fi; fi":                   "seq(if(seq(simple[a]) seq(simple[b]) seq(if(seq(simple[c]) seq(simple[d])))))",
		"if if a; then b; fi; then if c; then d; fi fi":             "seq(if(seq(if(seq(simple[a]) seq(simple[b]))) seq(if(seq(simple[c]) seq(simple[d])))))",
		"if (a) then { b; } else (c) fi":                            "seq(if(seq(sub(seq(simple[a]))) seq(group(seq(simple[b]))) seq(sub(seq(simple[c])))))",
		"if a then; then b fi; fi":                                  "seq(if(seq(simple[a then]) seq(simple[b fi])))",
		"if ! a && b; then c; fi; d":                                "seq(if(seq(and(pipe!(simple[a]) simple[b])) seq(simple[c])) simple[d])",
	})
}

func TestLoops(t *testing.T) {
	readsAll(t, map[string]string{
		"while a; do b; done": "seq(while(seq(simple[a]) seq(simple[b])))", "until a; do b; done": "seq(while!(seq(simple[a]) seq(simple[b])))", "while\na;b\ndo\nc\nd\n\ndone": "seq(while(seq(simple[a] simple[b]) seq(simple[c] simple[d])))", "until (a) do (b) done": "seq(while!(seq(sub(seq(simple[a]))) seq(sub(seq(simple[b])))))",
		"while until a; do b; done; do while c; do d; done; done": "seq(while(seq(while!(seq(simple[a]) seq(simple[b]))) seq(while(seq(simple[c]) seq(simple[d])))))", "while a do; do b done; done": "seq(while(seq(simple[a do]) seq(simple[b done])))",
		"for x in a b; do c; done": "seq(for:x[a b](seq(simple[c])))", "for x in; do c; done": "seq(for:x(seq(simple[c])))", "for x in\ndo c; done": "seq(for:x(seq(simple[c])))", "for x in a\n\ndo\nc\ndone": "seq(for:x[a](seq(simple[c])))", "for x in a;\n\ndo c; done": "seq(for:x[a](seq(simple[c])))", "for x\n\nin a; do c; done": "seq(for:x[a](seq(simple[c])))",
		"for x do c; done": "seq(for:x!(seq(simple[c])))", "for x; do c; done": "seq(for:x!(seq(simple[c])))", "for x\n\ndo c; done": "seq(for:x!(seq(simple[c])))", "for x;\n\ndo c; done": "seq(for:x!(seq(simple[c])))", "for x\ndo (c) done": "seq(for:x!(seq(sub(seq(simple[c])))))",
		"for in in in do; do c; done": "seq(for:in[in do](seq(simple[c])))", "for do do do=1; done": "seq(for:do!(seq(simple[do=1]=1)))", "for if in then { } !; do c; done": "seq(for:if[then { } !](seq(simple[c])))", "for _x9 in \"$@\" 'a b' y=1 2; do c; done": "seq(for:_x9[\"$@\" 'a b' y=1 2](seq(simple[c])))",
		"for x in a; do for y do b; done; c; done": "seq(for:x[a](seq(for:y!(seq(simple[b])) simple[c])))",
	})
}

func TestCase(t *testing.T) {
	readsAll(t, map[string]string{
		"case x in esac": "seq(case:x)", "case x\n\nin\n\nesac": "seq(case:x)", "case x in a) esac": "seq(case:x(item[a](seq)))", "case x in a)\n\nesac": "seq(case:x(item[a](seq)))", "case x in a) ;; esac": "seq(case:x(item[a](seq)))", "case x in a)\n;;\n\nesac": "seq(case:x(item[a](seq)))",
		"case x in a) b;; esac": "seq(case:x(item[a](seq(simple[b]))))", "case x in a) b\nesac": "seq(case:x(item[a](seq(simple[b]))))", "case x in a) b; esac": "seq(case:x(item[a](seq(simple[b]))))", "case x in a) b\n;; esac": "seq(case:x(item[a](seq(simple[b]))))", "case x in (a)b;\n;;\nesac": "seq(case:x(item[a](seq(simple[b]))))", "case x in a) (b) esac": "seq(case:x(item[a](seq(sub(seq(simple[b]))))))",
		"case x in a|b | c) d;; (e|f) g; h;;\n\ni) ;; j) esac": "seq(case:x(item[a b c](seq(simple[d])) item[e f](seq(simple[g] simple[h])) item[i](seq) item[j](seq)))",
		"case \"$x y\" in *) a;; esac":                         "seq(case:\"$x y\"(item[*](seq(simple[a]))))", "case in in in) in;; esac": "seq(case:in(item[in](seq(simple[in]))))", "case if in if) ;; then|fi) ;; esac": "seq(case:if(item[if](seq) item[then fi](seq)))", "case esac in esac": "seq(case:esac)",
		"case x in (esac) a;; esac": "seq(case:x(item[esac](seq(simple[a]))))", "case x in a|esac) b;; esac": "seq(case:x(item[a esac](seq(simple[b]))))", "case x in (esac|a) ;; esac": "seq(case:x(item[esac a](seq)))", "case x in 'esac') ;; esac": "seq(case:x(item['esac'](seq)))", "case x in (a) b esac;; esac": "seq(case:x(item[a](seq(simple[b esac]))))",
		"case x in a) case y in b) c;; esac;; esac": "seq(case:x(item[a](seq(case:y(item[b](seq(simple[c])))))))", "case x in a) case y in b) c;; esac esac": "seq(case:x(item[a](seq(case:y(item[b](seq(simple[c])))))))",
		"case x in !) ! a;; {) { b; } ;; esac": "seq(case:x(item[!](seq(pipe!(simple[a]))) item[{](seq(group(seq(simple[b]))))))",
	})
}

func TestFuncs(t *testing.T) {
	readsAll(t, map[string]string{
		"f() { a; }": "seq(func:f(group(seq(simple[a]))))", "f ( ) (a)": "seq(func:f(sub(seq(simple[a]))))", "f()\n\n{\na\n}": "seq(func:f(group(seq(simple[a]))))", "f()((a))": "seq(func:f(sub(seq(sub(seq(simple[a]))))))",
		"f() if a; then b; fi": "seq(func:f(if(seq(simple[a]) seq(simple[b]))))", "f() while a; do b; done": "seq(func:f(while(seq(simple[a]) seq(simple[b]))))", "f() until a; do b; done": "seq(func:f(while!(seq(simple[a]) seq(simple[b]))))", "f() for x do a; done": "seq(func:f(for:x!(seq(simple[a]))))", "f() case x in a) ;; esac": "seq(func:f(case:x(item[a](seq))))",
		"in() { a; }": "seq(func:in(group(seq(simple[a]))))", "_f9 () { a; }": "seq(func:_f9(group(seq(simple[a]))))", "f\\\n() { a; }": "seq(func:f(group(seq(simple[a]))))",
		"f() { g() { a; }; }; f": "seq(func:f(group(seq(func:g(group(seq(simple[a])))))) simple[f])", "f() (a) && b": "seq(and(func:f(sub(seq(simple[a]))) simple[b]))",
	})
}

func TestLines(t *testing.T) {
	lined(t, "", 1)
	lined(t, "\n\n", 3)
	lined(t, " \\\n # a\n\\\n", 4)
	lined(t, "\n\na\n\n", 3, 3)
	lined(t, "a\nb; c\n\nd", 1, 2, 2, 4, 1)
	lined(t, "a 'b\n\nc' d\ne", 1, 4, 1)
	lined(t, "a <<E; b\n1\nE\nc", 1, 1, 4, 1)
	lined(t, "\na &&\nb ||\n\nc", 2, 3, 2, 5, 2, 2)
	lined(t, "! \\\na |\nb", 2, 3, 1, 1)
	lined(t, "a |\nb |\n\nc", 1, 2, 4, 1, 1)
	lined(t, "\\\n>f \\\na", 2, 2)
	lined(t, "\\\n2>f", 2, 2)
	lined(t, "\n{\n\na\nb\n} >f", 4, 5, 4, 2, 2)
	lined(t, "a\n(\n\nb\n)", 1, 4, 4, 2, 1)
	lined(t, "if\na\nthen\n\nb\nelif\n\nc\nthen\nd\nelse\n\ne\nfi", 2, 2, 5, 5, 8, 8, 10, 10, 13, 13, 6, 1, 1)
	lined(t, "\nwhile\n\na\ndo\n\nb\ndone", 4, 4, 7, 7, 2, 2)
	lined(t, "until a\ndo b; done", 1, 1, 2, 2, 1, 1)
	lined(t, "a\nfor x\nin b\ndo\nc\ndone", 1, 5, 5, 2, 1)
	lined(t, "\ncase x\nin\na)\n\nb\n;;\n(\\\nc)\n\n;;\nd\\\n)\nesac", 6, 6, 4, 11, 8, 14, 12, 2, 2)
	lined(t, "\nf()\n\n{\na\n}", 5, 5, 4, 2, 2)
	lined(t, "f \\\n() (a)", 2, 2, 2, 1, 1)
	lined(t, "a \\\n&& b", 1, 2, 1, 1)
	lined(t, "if \\\na; then b; fi", 2, 2, 2, 2, 1, 1)
}

func TestEmptyFields(t *testing.T) { // what a kind doesn't name
	s := "x=1 <<E && ! f() { b; } >f | if c; then d; elif e; then g; else h; fi; until i; do j; done; for k; do l; done; for m in n; do o; done; case p in q) r; esac\n1\nE\n"
	tree, e, _ := syntax.Parse(s)
	if e != api.OK {
		t.Fatal(e)
	}
	for _, n := range tree.Nodes {
		is := func(l ...int) bool { return slices.Contains(l, n.Kind) }
		if n.Text != "" && !is(syntax.For, syntax.Case, syntax.Func) ||
			n.Flag && !is(syntax.Pipe, syntax.While, syntax.For) ||
			len(n.Words) > 0 && !is(syntax.Simple, syntax.For, syntax.Item) ||
			n.Sets != 0 && !is(syntax.Simple) ||
			len(n.Redirs) > 0 && is(syntax.Pipe, syntax.And, syntax.Or, syntax.Seq, syntax.Item, syntax.Func) ||
			len(n.Kids) > 0 && is(syntax.Simple) {
			t.Errorf("%+v", n)
		}
	}
}

// Another call's tree, and each list of one, are in memory of their own.
func TestNewMemory(t *testing.T) {
	s := "x=1 a b >f >g; for i in c d; do e; done; case h in i|j) k;; l) m; esac; a | b | c"
	want, _, _ := syntax.Parse(s)
	spoilt, _, _ := syntax.Parse(s)
	for i := range spoilt.Nodes {
		n := &spoilt.Nodes[i]
		_ = append(append(n.Words, "z"), n.Words...)
		_ = append(append(n.Kids, -7), n.Kids...)
		_ = append(append(n.Redirs, api.Redir{FD: -7}), n.Redirs...)
		same(t, s, spoilt.Nodes[i+1:], want.Nodes[i+1:])
		for k := range n.Words {
			n.Words[k] = "z"
		}
		clear(n.Kids)
		clear(n.Redirs)
		same(t, s, spoilt.Nodes[i+1:], want.Nodes[i+1:])
		*n = api.Node{Kind: -7}
	}
	again, _, _ := syntax.Parse(s)
	same(t, s, again.Nodes, want.Nodes)
}

// same holds that nodes are the same.
func same(t *testing.T, s string, got, want []api.Node) {
	t.Helper()
	if len(got) != len(want) {
		t.Fatalf("%q: %d nodes, not %d", s, len(got), len(want))
	}
	for i, n := range want {
		g := got[i]
		if g.Kind != n.Kind || g.Text != n.Text || g.Flag != n.Flag || g.Sets != n.Sets || g.Line != n.Line ||
			!slices.Equal(g.Words, n.Words) || !slices.Equal(g.Redirs, n.Redirs) || !slices.Equal(g.Kids, n.Kids) {
			t.Fatalf("%q, node %d:\n%+v, not\n%+v", s, i, g, n)
		}
	}
}
