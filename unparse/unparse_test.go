package unparse_test

import (
	"fmt"
	"math"
	"reflect"
	"slices"
	"strings"
	"testing"

	"kinetoscope/api"
	"kinetoscope/syntax"
	"kinetoscope/unparse"
)

// parsed is the tree of a script, which must be one.
func parsed(t *testing.T, s string) syntax.Tree {
	t.Helper()
	tree, e, line := syntax.Parse(s)
	if e != api.OK {
		t.Fatalf("Parse(%q): error %d, line %d", s, e, line)
	}
	return tree
}

// shows holds of each script that its tree is shown just so.
func shows(t *testing.T, scripts map[string]string) {
	t.Helper()
	for s, want := range scripts {
		if got := unparse.Show(parsed(t, s)); got != want {
			t.Errorf("Show of %q:\n%q, not\n%q", s, got, want)
		}
	}
}

// P8.1

func TestEmpty(t *testing.T) {
	shows(t, map[string]string{"": "", "\n": "", " # a": "", "\n\n\\\n": ""})
	for _, tree := range []syntax.Tree{{}, {Nodes: []api.Node{}}} {
		if got := unparse.Show(tree); got != "" {
			t.Errorf("Show of a tree without nodes: %q", got)
		}
	}
}

func TestSimple(t *testing.T) {
	shows(t, map[string]string{
		"a":                         "a\n",
		" a\t b\\\n  c # d":         "a b c\n",
		"x=1 y= a x=2":              "x=1 y= a x=2\n",
		"x=1":                       "x=1\n",
		"'a  b' \"c\" \\  d\\ e":    "'a  b' \"c\" \\  d\\ e\n",
		"a\\\nb \"c\\\nd\" 'e\\\n'": "ab \"cd\" 'e\\\n'\n",
		"$a ${b:- c } $((1 + 2)) $": "$a ${b:- c } $((1 + 2)) $\n",
		"a if } done esac":          "a if } done esac\n",
		"a\x00\xff":                 "a\x00\xff\n",
	})
}

func TestRedirs(t *testing.T) {
	shows(t, map[string]string{
		"a <f":                      "0<f a\n",
		"a >f":                      "1>f a\n",
		"a >>f":                     "1>>f a\n",
		"a 2< f":                    "2<f a\n",
		"a 2>f":                     "2>f a\n",
		"a 2>>\\\nf":                "2>>f a\n",
		">f":                        "1>f\n",
		"> f x=1 <g a 2>>'h i' b":   "1>f 0<g 2>>'h i' x=1 a b\n",
		"a <f <g >h":                "0<f 0<g 1>h a\n",
		"a 007>f 99>g 100>h":        "7>f 99>g 99>h a\n",
		"a 99999999999999999999>f":  "99>f a\n",
		"2 >f":                      "1>f 2\n",
		"2\\\n>f 3":                 "1>f 2 3\n",
		"a >2":                      "1>2 a\n",
		"a >2 >3":                   "1>2 1>3 a\n",
		">f if":                     "1>f if\n",
		">f { }":                    "1>f { }\n",
		"a >\"$x\" <${y:-'z z'}":    "1>\"$x\" 0<${y:-'z z'} a\n",
		"if a;then b;fi >f 2>>g <h": "if\na\nthen\nb\nfi 1>f 2>>g 0<h\n",
		"while a;do b;done >f <g":   "while\na\ndo\nb\ndone 1>f 0<g\n",
		"until a;do b;done >f":      "until\na\ndo\nb\ndone 1>f\n",
		"for i;do a;done >f <g":     "for i\ndo\na\ndone 1>f 0<g\n",
		"case a in b) ;;esac >f <g": "case a in\n(b)\n;;\nesac 1>f 0<g\n",
		"{ a;}>f 2>g":               "{\na\n} 1>f 2>g\n",
		"(a)>f 2>g":                 "(\na\n) 1>f 2>g\n",
		"f()(a)>f 2>g":              "f() (\na\n) 1>f 2>g\n",
		"f() { a >g; } >f":          "f() {\n1>g a\n} 1>f\n",
		"(a)>f|(b)<g&&(c)>h":        "(\na\n) 1>f | (\nb\n) 0<g && (\nc\n) 1>h\n",
	})
}

func TestPipes(t *testing.T) {
	shows(t, map[string]string{
		"a|b":                 "a | b\n",
		"a|\n\nb|c":           "a | b | c\n",
		"!  a":                "! a\n",
		"! a|b|c":             "! a | b | c\n",
		"! (a)":               "! (\na\n)\n",
		"a b|{ c;}|(d)":       "a b | {\nc\n} | (\nd\n)\n",
		"f()(a)|b":            "f() (\na\n) | b\n",
		"a >f|>g b":           "1>f a | 1>g b\n",
		"a 2|b":               "a 2 | b\n",
		"if a;then b;fi|c":    "if\na\nthen\nb\nfi | c\n",
		"a|while b;do c;done": "a | while\nb\ndo\nc\ndone\n",
	})
}

func TestAndOr(t *testing.T) {
	shows(t, map[string]string{
		"a&&b":               "a && b\n",
		"a||b":               "a || b\n",
		"a||\n\nb&&c||d":     "a || b && c || d\n",
		"a&&b&&c":            "a && b && c\n",
		"! a&&! b|c||d":      "! a && ! b | c || d\n",
		"{ a;}&&(b||c)":      "{\na\n} && (\nb || c\n)\n",
		"a <f&&b >g||>h":     "0<f a && 1>g b || 1>h\n",
		"f()(a)&&g() { b;}":  "f() (\na\n) && g() {\nb\n}\n",
		"for i;do a;done||b": "for i\ndo\na\ndone || b\n",
	})
}

func TestLists(t *testing.T) {
	shows(t, map[string]string{
		"a;b":             "a\nb\n",
		"a\nb":            "a\nb\n",
		"\n\na;\n\nb;\n":  "a\nb\n",
		"a b;c&&d|e;! f;": "a b\nc && d | e\n! f\n",
		"a # b\n# c\nd":   "a\nd\n",
	})
}

func TestIf(t *testing.T) {
	shows(t, map[string]string{
		"if a;then b;fi":                                  "if\na\nthen\nb\nfi\n",
		"if\na\nb;then\nc;d\nfi":                          "if\na\nb\nthen\nc\nd\nfi\n",
		"if a;then b;else c;d;fi":                         "if\na\nthen\nb\nelse\nc\nd\nfi\n",
		"if a;then b;elif c;then d;fi":                    "if\na\nthen\nb\nelse\nif\nc\nthen\nd\nfi\nfi\n",
		"if a;then b;elif c;then d;else e;fi>f":           "if\na\nthen\nb\nelse\nif\nc\nthen\nd\nelse\ne\nfi\nfi 1>f\n",
		"if a;then b;elif c;then d;elif e;then g;fi":      "if\na\nthen\nb\nelse\nif\nc\nthen\nd\nelse\nif\ne\nthen\ng\nfi\nfi\nfi\n",
		"if a;then b;else if c;then d;fi;fi":              "if\na\nthen\nb\nelse\nif\nc\nthen\nd\nfi\nfi\n",
		"if a;then b;else if c;then d;fi>f;e;fi>g":        "if\na\nthen\nb\nelse\nif\nc\nthen\nd\nfi 1>f\ne\nfi 1>g\n",
		"if if a;then b;fi;then if c;then d;fi;else e;fi": "if\nif\na\nthen\nb\nfi\nthen\nif\nc\nthen\nd\nfi\nelse\ne\nfi\n",
	})
}

func TestLoops(t *testing.T) {
	shows(t, map[string]string{
		"while a;do b;done":                  "while\na\ndo\nb\ndone\n",
		"until a;do b;done":                  "until\na\ndo\nb\ndone\n",
		"while a;! b;do c;d;done":            "while\na\n! b\ndo\nc\nd\ndone\n",
		"while until a;do b;done;do c;done":  "while\nuntil\na\ndo\nb\ndone\ndo\nc\ndone\n",
		"for i;do a;done":                    "for i\ndo\na\ndone\n",
		"for i\n\ndo a;b;done":               "for i\ndo\na\nb\ndone\n",
		"for i do a;done":                    "for i\ndo\na\ndone\n",
		"for i in;do a;done":                 "for i in\ndo\na\ndone\n",
		"for i\nin\ndo a;done":               "for i in\ndo\na\ndone\n",
		"for i in  a 'b c'\t$d;do e;done":    "for i in a 'b c' $d\ndo\ne\ndone\n",
		"for in in in do done;do e;done":     "for in in in do done\ndo\ne\ndone\n",
		"for i in 2 x=1;do e;done":           "for i in 2 x=1\ndo\ne\ndone\n",
		"for i do for j in k;do a;done;done": "for i\ndo\nfor j in k\ndo\na\ndone\ndone\n",
	})
}

func TestCase(t *testing.T) {
	shows(t, map[string]string{
		"case a in esac":                           "case a in\nesac\n",
		"case a in b)esac":                         "case a in\n(b)\n;;\nesac\n",
		"case a in b);;esac":                       "case a in\n(b)\n;;\nesac\n",
		"case a in (b)c;;\n\nesac":                 "case a in\n(b)\nc\n;;\nesac\n",
		"case a\nin\nb | c|d)e;f;;(esac)g;esac":    "case a in\n(b|c|d)\ne\nf\n;;\n(esac)\ng\n;;\nesac\n",
		"case in in in) ;;(esac|esac) ;;esac":      "case in in\n(in)\n;;\n(esac|esac)\n;;\nesac\n",
		"case \"$x y\" in 'a b'|*) c;;esac":        "case \"$x y\" in\n('a b'|*)\nc\n;;\nesac\n",
		"case a in b) case c in d) e;esac;;f)esac": "case a in\n(b)\ncase c in\n(d)\ne\n;;\nesac\n;;\n(f)\n;;\nesac\n",
		"case a in b$) c$;;esac":                   "case a in\n(b$)\nc$\n;;\nesac\n",
	})
}

func TestGroups(t *testing.T) {
	shows(t, map[string]string{
		"{ a;}":             "{\na\n}\n",
		"{\na;b\n}":         "{\na\nb\n}\n",
		"(a)":               "(\na\n)\n",
		"(\na;b\n)":         "(\na\nb\n)\n",
		"( (a) )":           "(\n(\na\n)\n)\n",
		"{ (a) }":           "{\n(\na\n)\n}\n",
		"f()(a)":            "f() (\na\n)\n",
		"f ( )\n{ a;}":      "f() {\na\n}\n",
		"in() { a;}":        "in() {\na\n}\n",
		"f()if a;then b;fi": "f() if\na\nthen\nb\nfi\n",
		"f()while a;do b;done;g()for i;do c;done": "f() while\na\ndo\nb\ndone\ng() for i\ndo\nc\ndone\n",
		"f()case a in b)c;esac":                   "f() case a in\n(b)\nc\n;;\nesac\n",
		"f() { g()(a);}":                          "f() {\ng() (\na\n)\n}\n",
	})
}

func TestHeres(t *testing.T) {
	shows(t, map[string]string{
		"a <<E\n1\n2\nE\nb":                                               "0<<E a\n1\n2\nE\nb\n",
		"<<E\nE":                                                          "0<<E\nE\n",
		"a 3<<E b\nE\n":                                                   "3<<E a b\nE\n",
		"a <<'E F'\n$x\nE F\n":                                            "0<<'E F' a\n$x\nE F\n",
		"a <<\\E\"F\"\n1\nEF\n":                                           "0<<\\E\"F\" a\n1\nEF\n",
		"a <<''\n1\n\nb":                                                  "0<<'' a\n1\n\nb\n",
		"a <<E\\\nF\n1\nEF\n":                                             "0<<EF a\n1\nEF\n",
		"a <<E\n\n \n'`$(\\\nE\n":                                         "0<<E a\n\n \n'`$(\\\nE\n",
		"a <<E <<F <g;b <<G\n1\nE\n2\nF\n3\nG\n":                          "0<<E 0<<F 0<g a\n1\nE\n2\nF\n0<<G b\n3\nG\n",
		"a <<E 4<<E\n1\nE\n2\nE\n":                                        "0<<E 4<<E a\n1\nE\n2\nE\n",
		"a <<E|b <<F&&c <<G||d\n1\nE\n2\nF\n3\nG\n":                       "0<<E a | 0<<F b && 0<<G c || d\n1\nE\n2\nF\n3\nG\n",
		"a <<E&&\n1\nE\nb <<F\n2\nF\n":                                    "0<<E a && 0<<F b\n1\nE\n2\nF\n",
		"a <<E 'b\nc'\n1\nE\n":                                            "0<<E a 'b\nc'\n1\nE\n",
		"a <<E <'b\nc' 'd\n'|e \"\n\"\n1\nE\nf":                           "0<<E 0<'b\nc' a 'd\n' | e \"\n\"\n1\nE\nf\n",
		"a <<E|{ b;c;} <<F\n1\nE\n2\nF\n":                                 "0<<E a | {\n1\nE\nb\nc\n} 0<<F\n2\nF\n",
		"a <<E|(b)\n1\nE\n":                                               "0<<E a | (\n1\nE\nb\n)\n",
		"a <<E&&if b;then c;fi\n1\nE\n":                                   "0<<E a && if\n1\nE\nb\nthen\nc\nfi\n",
		"a <<E|while b;do c;done\n1\nE\n":                                 "0<<E a | while\n1\nE\nb\ndo\nc\ndone\n",
		"a <<E|until b;do c;done\n1\nE\n":                                 "0<<E a | until\n1\nE\nb\ndo\nc\ndone\n",
		"a <<E|for i in 'b\nc' d;do e;done\n1\nE\n":                       "0<<E a | for i in 'b\nc' d\n1\nE\ndo\ne\ndone\n",
		"a <<E|for i do e;done\n1\nE\n":                                   "0<<E a | for i\n1\nE\ndo\ne\ndone\n",
		"a <<E|case 'b\nc' in d)e;esac\n1\nE\n":                           "0<<E a | case 'b\nc' in\n1\nE\n(d)\ne\n;;\nesac\n",
		"a <<E||f()(b)\n1\nE\n":                                           "0<<E a || f() (\n1\nE\nb\n)\n",
		"f() { a;} <<E\n1\nE\n":                                           "f() {\na\n} 0<<E\n1\nE\n",
		"if a <<E;then b <<F;else c <<G;fi <<H\n1\nE\n2\nF\n3\nG\n4\nH\n": "if\n0<<E a\n1\nE\nthen\n0<<F b\n2\nF\nelse\n0<<G c\n3\nG\nfi 0<<H\n4\nH\n",
		"if a;then b;elif c <<E;then d;fi <<F\n1\nE\n2\nF\n":              "if\na\nthen\nb\nelse\nif\n0<<E c\n1\nE\nthen\nd\nfi\nfi 0<<F\n2\nF\n",
		"while a <<E;do b <<F;done <<G\n1\nE\n2\nF\n3\nG\n":               "while\n0<<E a\n1\nE\ndo\n0<<F b\n2\nF\ndone 0<<G\n3\nG\n",
		"case a in b)c <<E;;d)e;;esac <<F\n1\nE\n2\nF\n":                  "case a in\n(b)\n0<<E c\n1\nE\n;;\n(d)\ne\n;;\nesac 0<<F\n2\nF\n",
		"(a) <<E|(b) <<F\n1\nE\n2\nF\n":                                   "(\na\n) 0<<E | (\n1\nE\nb\n) 0<<F\n2\nF\n",
	})
}

// Words that the chapter's list puts no newline into keep theirs, and no body stands behind these.
func TestNewlinesInWords(t *testing.T) {
	shows(t, map[string]string{
		"'a\nb';c":                         "'a\nb'\nc\n",
		"x='\n' a":                         "x='\n' a\n",
		"a >'\n'":                          "1>'\n' a\n",
		"${x:-\n}|b":                       "${x:-\n} | b\n",
		"$((1\n+2))":                       "$((1\n+2))\n",
		"for i in 'a\n' \"\nb\";do c;done": "for i in 'a\n' \"\nb\"\ndo\nc\ndone\n",
		"case '\n' in '\n'|a) ;;esac":      "case '\n' in\n('\n'|a)\n;;\nesac\n",
	})
}

func TestLine(t *testing.T) {
	for s, want := range map[string][]string{
		"":                                 {""},
		"a; b c":                           {"a", "b c", "a"},
		"! a|b >f":                         {"a", "1>f b", "! a | 1>f b", "! a | 1>f b"},
		"a&&b||c":                          {"a", "b", "a && b", "c", "a && b || c", "a && b || c"},
		"{ a;b;} >f":                       {"a", "b", "a", "{", "{"},
		"(a)|b":                            {"a", "a", "(", "b", "(", "("},
		"f()(a)":                           {"a", "a", "(", "f() (", "f() ("},
		"if a;then b;elif c;then d;fi":     {"a", "a", "b", "b", "c", "c", "d", "d", "if", "if", "if"},
		"while a;do b;done":                {"a", "a", "b", "b", "while", "while"},
		"until a;do b;done|c":              {"a", "a", "b", "b", "until", "c", "until", "until"},
		"for i in 'b c' d;do a;done":       {"a", "a", "for i in 'b c' d", "for i in 'b c' d"},
		"for i do a;done":                  {"a", "a", "for i", "for i"},
		"case a in b|c)d;;e)esac":          {"d", "d", "(b|c)", "", "(e)", "case a in", "case a in"},
		"a <<E|b\n1\nE\nc":                 {"0<<E a", "b", "0<<E a | b", "c", "0<<E a | b"},
		"a <<E|{ b;}\n1\nE\n":              {"0<<E a", "b", "b", "{", "0<<E a | {", "0<<E a | {"},
		"a 'b\nc' <f":                      {"0<f a 'b", "0<f a 'b"},
		"a <<E 'b\nc'\n1\nE\n":             {"0<<E a 'b", "0<<E a 'b"},
		"for i in '\n';do 'a\n';done":      {"'a", "'a", "for i in '", "for i in '"},
		"case '\n' in '\n'|a) \"\n\";esac": {"\"", "\"", "('", "case '", "case '"},
	} {
		tree := parsed(t, s)
		var got []string
		for at := range tree.Nodes {
			got = append(got, unparse.Line(tree, at))
		}
		if !slices.Equal(got, want) {
			t.Errorf("Lines of %q:\n%q, not\n%q", s, got, want)
		}
		noPlaces(t, tree)
	}
	noPlaces(t, syntax.Tree{})
}

// noPlaces holds that there is no line at places that there aren't.
func noPlaces(t *testing.T, tree syntax.Tree) {
	t.Helper()
	n := len(tree.Nodes)
	for _, at := range []int{-1, -2, -n, -n - 1, n, n + 1, 2 * n, math.MaxInt, math.MinInt} {
		if at >= 0 && at < n {
			continue
		}
		if got := unparse.Line(tree, at); got != "" {
			t.Errorf("Line at %d of %d nodes: %q", at, n, got)
		}
	}
}

// odd is trees that no script has.
func odd() []syntax.Tree {
	trees := []syntax.Tree{
		{Nodes: []api.Node{{}}},
		{Nodes: []api.Node{{Kind: -1}, {Kind: 14}, {Kind: syntax.Seq, Kids: []int{0, 1}}}},
		{Nodes: []api.Node{{Kind: syntax.Seq, Kids: []int{1}}, {Kind: syntax.Seq, Kids: []int{0}}}}, // kids of each other
		{Nodes: []api.Node{{Kind: syntax.Simple, Redirs: []api.Redir{{FD: -1}, {FD: math.MinInt, Op: "<<", Word: "'"}, {Op: "?"}}}}},
	}
	double := syntax.Tree{Nodes: []api.Node{{Kind: syntax.Simple, Words: []string{"a"}}}}
	for i := range 200 { // told kid by kid, there would be 2^200 of them
		double.Nodes = append(double.Nodes, api.Node{Kind: syntax.And, Kids: []int{i, i}})
	}
	trees = append(trees, double)
	for kind := syntax.Simple; kind <= syntax.Func; kind++ {
		for _, kids := range [][]int{nil, {0}, {1}, {0, 0}, {0, 1}, {0, 1, 0}, {1, 1, 1}, {0, 0, 0, 0}, {-1}, {2}, {0, -1}, {0, 0, 2}, {math.MaxInt}, {0, math.MinInt}} {
			leaf := api.Node{Kind: syntax.Simple, Words: []string{"a"}, Redirs: []api.Redir{{Op: "<<", Word: "E", Body: "1\n"}}}
			n := api.Node{Kind: kind, Kids: kids, Flag: len(kids)%2 > 0, Words: []string{"b"}, Redirs: leaf.Redirs}
			trees = append(trees, syntax.Tree{Nodes: []api.Node{leaf, n}}, syntax.Tree{Nodes: []api.Node{n, leaf}}, syntax.Tree{Nodes: []api.Node{n, n}})
		}
	}
	return trees
}

// copied is a tree in new memory.
func copied(t syntax.Tree) syntax.Tree {
	nodes := slices.Clone(t.Nodes)
	for i, n := range nodes {
		nodes[i].Words, nodes[i].Redirs, nodes[i].Kids = slices.Clone(n.Words), slices.Clone(n.Redirs), slices.Clone(n.Kids)
	}
	return syntax.Tree{Nodes: nodes}
}

// Of trees that no script has there is some answer, the same one each time; the tree is left as it is.
func TestOddTrees(t *testing.T) {
	for _, tree := range odd() {
		was := copied(tree)
		if a, b := unparse.Show(tree), unparse.Show(tree); a != b {
			t.Errorf("Show of %v: %q, then %q", tree, a, b)
		}
		for at := range tree.Nodes {
			if got := unparse.Line(tree, at); strings.Contains(got, "\n") || got != unparse.Line(tree, at) {
				t.Errorf("Line at %d of %v: %q", at, tree, got)
			}
		}
		noPlaces(t, tree)
		if !reflect.DeepEqual(tree, was) {
			t.Errorf("%v became %v", was, tree)
		}
	}
}

// A tree is left as it is, even where its lists have room behind them.
func TestLeftAsItIs(t *testing.T) {
	tree := parsed(t, "x=1 a >f <<E|case b in c|d)e;;esac >g\n1\nE\nfor i in j k;do l;done")
	for i, n := range tree.Nodes {
		tree.Nodes[i].Words = append(make([]string, 0, 9), n.Words...)
		tree.Nodes[i].Redirs = append(make([]api.Redir, 0, 9), n.Redirs...)
		tree.Nodes[i].Kids = append(make([]int, 0, 9), n.Kids...)
	}
	was, room := copied(tree), fmt.Sprint(rooms(tree))
	unparse.Show(tree)
	for at := range tree.Nodes {
		unparse.Line(tree, at)
	}
	if !reflect.DeepEqual(copied(tree), was) || fmt.Sprint(rooms(tree)) != room {
		t.Errorf("%v became %v", was, tree)
	}
}

// rooms is a tree's lists, with all that they have room for.
func rooms(t syntax.Tree) []any {
	var l []any
	for _, n := range t.Nodes {
		l = append(l, n.Words[:cap(n.Words)], n.Redirs[:cap(n.Redirs)], n.Kids[:cap(n.Kids)])
	}
	return l
}
