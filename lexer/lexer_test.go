package lexer_test

import (
	"math/rand"
	"regexp"
	"slices"
	"strings"
	"testing"

	"kinetoscope/api"
	"kinetoscope/lexer"
)

// row is tokens that are written down one behind the other, from line 1 on.
type row struct {
	tokens []api.Token
	line   int
}

func begin() *row { return &row{line: 1} }

func (r *row) put(kind int, l ...string) *row {
	for _, text := range l {
		r.tokens = append(r.tokens, api.Token{Kind: kind, Text: text, Line: r.line})
	}
	return r
}

func (r *row) word(l ...string) *row { return r.put(lexer.Word, l...) }
func (r *row) op(l ...string) *row   { return r.put(lexer.Op, l...) }
func (r *row) io(l ...string) *row   { return r.put(lexer.Io, l...) }

// down goes n lines down, without a token.
func (r *row) down(n int) *row {
	r.line += n
	return r
}

// ln is a Line.
func (r *row) ln() *row { return r.put(lexer.Line, "").down(1) }

// here is a here-document's sign, its word, and the Body.
func (r *row) here(word, body string) *row {
	r.op("<<").word(word)
	r.tokens[len(r.tokens)-1].Body = body
	return r
}

func (r *row) end() []api.Token { return r.put(lexer.End, "").tokens }

// reads holds that a script has just these tokens.
func reads(t *testing.T, s string, want []api.Token) {
	t.Helper()
	got, e, line := lexer.All(s)
	if !slices.Equal(got, want) || e != api.OK || line != 0 {
		t.Errorf("All(%.80q):\n%+v, error %d, %d; not\n%+v", s, got, e, line, want)
	}
}

// fails holds that a script has no tokens, but an error, and its line.
func fails(t *testing.T, s string, want api.Errno, at int) {
	t.Helper()
	got, e, line := lexer.All(s)
	if len(got) > 0 || e != want || line != at {
		t.Errorf("All(%.80q): %d tokens, error %d, line %d; not 0, %d, %d", s, len(got), e, line, want, at)
	}
}

// P6.1

func TestKinds(t *testing.T) {
	for i, kind := range []int{lexer.Word, lexer.Op, lexer.Line, lexer.End, lexer.Io} {
		if kind != i+1 {
			t.Errorf("kind %d is %d", i+1, kind)
		}
	}
}

func TestTokens(t *testing.T) {
	for s, want := range map[string][]api.Token{
		"":                    begin().end(),
		" \t ":                begin().end(),
		"\n":                  begin().ln().end(),
		"\n \n\t":             begin().ln().ln().end(),
		"a":                   begin().word("a").end(),
		"a 2>b":               begin().word("a").io("2").op(">").word("b").end(),
		"a b\tc":              begin().word("a", "b", "c").end(),
		" \ta  b\t":           begin().word("a", "b").end(),
		"a\nb\n":              begin().word("a").ln().word("b").ln().end(),
		"a;b|c":               begin().word("a").op(";").word("b").op("|").word("c").end(),
		"if true; then x; fi": begin().word("if", "true").op(";").word("then", "x").op(";").word("fi").end(),
		"(a)":                 begin().op("(").word("a").op(")").end(),
		"f(){ x;}":            begin().word("f").op("(", ")").word("{", "x").op(";").word("}").end(),
		"!a{b}c[d]*?~=:%+,-.": begin().word("!a{b}c[d]*?~=:%+,-.").end(),
		"\x00\x01 \x7f\xff\r": begin().word("\x00\x01", "\x7f\xff\r").end(),
		"h\xc3\xa9\v\f":       begin().word("h\xc3\xa9\v\f").end(),
	} {
		reads(t, s, want)
	}
}

func TestSigns(t *testing.T) {
	all := []string{"&&", "||", ";;", ">>", ";", "|", "(", ")", "<", ">"}
	for _, sign := range all {
		reads(t, sign, begin().op(sign).end())
		reads(t, "a"+sign+"b", begin().word("a").op(sign).word("b").end())
		reads(t, "a "+sign+"\tb", begin().word("a").op(sign).word("b").end())
		reads(t, "'"+sign+"'", begin().word("'"+sign+"'").end())
		reads(t, "\\"+sign[:1]+"a", begin().word("\\"+sign[:1]+"a").end())
	}
	for s, want := range map[string][]api.Token{
		"<<":       begin().op("<<").end(),
		"|||":      begin().op("||", "|").end(),
		"||||":     begin().op("||", "||").end(),
		";;;":      begin().op(";;", ";").end(),
		"<<<":      begin().op("<<", "<").end(),
		">>>":      begin().op(">>", ">").end(),
		"(())":     begin().op("(", "(", ")", ")").end(),
		"><":       begin().op(">", "<").end(),
		"<>":       begin().op("<", ">").end(),
		"&&&&":     begin().op("&&", "&&").end(),
		";|&&":     begin().op(";", "|", "&&").end(),
		"| |":      begin().op("|", "|").end(),
		"|\\\n|":   begin().op("|").down(1).op("|").end(),
		";\n;":     begin().op(";").ln().op(";").end(),
		"a>\\\n>b": begin().word("a").op(">").down(1).op(">").word("b").end(),
	} {
		reads(t, s, want)
	}
}

func TestIo(t *testing.T) {
	for s, want := range map[string][]api.Token{
		"2>":             begin().io("2").op(">").end(),
		"0<a":            begin().io("0").op("<").word("a").end(),
		"10>>a":          begin().io("10").op(">>").word("a").end(),
		"3<<":            begin().io("3").op("<<").end(),
		"007>x":          begin().io("007").op(">").word("x").end(),
		"9999999999999>": begin().io("9999999999999").op(">").end(),
		"0123456789<":    begin().io("0123456789").op("<").end(),
		"1>2>3":          begin().io("1").op(">").io("2").op(">").word("3").end(),
		"1<2<3":          begin().io("1").op("<").io("2").op("<").word("3").end(),
		"2 >b":           begin().word("2").op(">").word("b").end(),
		"2":              begin().word("2").end(),
		"2;":             begin().word("2").op(";").end(),
		"2|":             begin().word("2").op("|").end(),
		"2(":             begin().word("2").op("(").end(),
		"2)":             begin().word("2").op(")").end(),
		"2&&3":           begin().word("2").op("&&").word("3").end(),
		"2\n>b":          begin().word("2").ln().op(">").word("b").end(),
		"a2>b":           begin().word("a2").op(">").word("b").end(),
		"2a>b":           begin().word("2a").op(">").word("b").end(),
		"-2>b":           begin().word("-2").op(">").word("b").end(),
		"/>b":            begin().word("/").op(">").word("b").end(),
		":>b":            begin().word(":").op(">").word("b").end(),
		"'2'>b":          begin().word("'2'").op(">").word("b").end(),
		"\"2\">b":        begin().word("\"2\"").op(">").word("b").end(),
		"\\2>b":          begin().word("\\2").op(">").word("b").end(),
		"$2>b":           begin().word("$2").op(">").word("b").end(),
		"''>b":           begin().word("''").op(">").word("b").end(),
		"2\\\n>b":        begin().word("2").down(1).op(">").word("b").end(),
		"1\\\n2>b":       begin().word("12").down(1).op(">").word("b").end(),
		"\\\n2>b":        begin().down(1).io("2").op(">").word("b").end(),
		"1\\\n2 3>b":     begin().word("12").down(1).io("3").op(">").word("b").end(),
	} {
		reads(t, s, want)
	}
}

func TestComments(t *testing.T) {
	for s, want := range map[string][]api.Token{
		"#":             begin().end(),
		"# all of it":   begin().end(),
		"#\n":           begin().ln().end(),
		"a #b\nc":       begin().word("a").ln().word("c").end(),
		"a\t#b":         begin().word("a").end(),
		"a;#b\nc":       begin().word("a").op(";").ln().word("c").end(),
		"(#)\n)":        begin().op("(").ln().op(")").end(),
		"a#b":           begin().word("a#b").end(),
		"''#b":          begin().word("''#b").end(),
		"$#":            begin().word("$#").end(),
		"\\#b":          begin().word("\\#b").end(),
		"'#'":           begin().word("'#'").end(),
		"\"a #\"":       begin().word("\"a #\"").end(),
		"${ #}":         begin().word("${ #}").end(),
		"$(( #))":       begin().word("$(( #))").end(),
		"# `$(&'\"${\n": begin().ln().end(),
		"#a\\\nb":       begin().ln().word("b").end(),
		"\\\n#a\nb":     begin().down(1).ln().word("b").end(),
		"a\\\n#b":       begin().word("a#b").down(1).end(),
		"a \\\n#b":      begin().word("a").down(1).end(),
	} {
		reads(t, s, want)
	}
}

func TestJoins(t *testing.T) {
	for s, want := range map[string][]api.Token{
		"\\\n":                   begin().down(1).end(),
		"\\\n\\\n\n":             begin().down(2).ln().end(),
		" \\\n a":                begin().down(1).word("a").end(),
		"a\\\n":                  begin().word("a").down(1).end(),
		"a\\\nb":                 begin().word("ab").down(1).end(),
		"a\\\n\\\nb\\\n c":       begin().word("ab").down(3).word("c").end(),
		"a\\\n b":                begin().word("a").down(1).word("b").end(),
		"a\\\n;b":                begin().word("a").down(1).op(";").word("b").end(),
		"a\\\n\nb":               begin().word("a").down(1).ln().word("b").end(),
		"\\\\\nb":                begin().word("\\\\").ln().word("b").end(),
		"\\\\\\\nb":              begin().word("\\\\b").down(1).end(),
		"\"a\\\nb\"":             begin().word("\"ab\"").down(1).end(),
		"\"\\\n\"":               begin().word("\"\"").down(1).end(),
		"\"\\\\\n\"":             begin().word("\"\\\\\n\"").down(1).end(),
		"'a\\\nb'":               begin().word("'a\\\nb'").down(1).end(),
		"${a\\\nb}":              begin().word("${ab}").down(1).end(),
		"${\\\na}":               begin().word("${a}").down(1).end(),
		"${a:-'\\\n'}":           begin().word("${a:-'\\\n'}").down(1).end(),
		"\"${a:-\\\nb}\\\nc\"":   begin().word("\"${a:-b}c\"").down(2).end(),
		"$((1\\\n))":             begin().word("$((1\\\n))").down(1).end(),
		"\"$((\\\n))\"":          begin().word("\"$((\\\n))\"").down(1).end(),
		"$a\\\nb":                begin().word("$ab").down(1).end(),
		"\"'\\\n'\"":             begin().word("\"''\"").down(1).end(),
		"${a:-\"${b:-\\\n}\"} c": begin().word("${a:-\"${b:-}\"}").down(1).word("c").end(),
	} {
		reads(t, s, want)
	}
}

// wholes are words that stand on a line.
func wholes() []string {
	return []string{
		// a backslash, and a byte
		`\a`, `\ `, "\\\t", `\;`, `\&`, "\\`", `\'`, `\"`, `\\`, `\$`, `\$\(`, `\#`, "\\\xff", "\\\x00", `a\ b`, `\}`, `\)`,
		// single quotes
		`''`, `'a b'`, "'\t;&|()<>'", `'"'`, "'`$(x) ${ $(( '", `'\'`, `'#'`, `a'b'c`, `''''`, `'a'"b"`, `'}'`,
		// quoted parts
		`""`, `"a b"`, `"'"`, `"a'b"`, `"''"`, `"\""`, `"\\"`, "\"\\`\"", `"\a"`, `"\$(x)"`, "\"\t;&|()<>#{}\"", `"(("`,
		`"$"`, `"a$"`, `"$ ("`, `"$$"`, `"$x"`, `"$'"`, `"$)"`, `"$\("`, `"${a}"`, `"${a:-"b c"}"`, `"${a:-'"'}"`, `"${a:-'}'}"`, `"$((1))"`, `"$(("))"`,
		// dollar parts with {
		`${}`, `${a}`, `${a}b`, `a${b}c${d}`, `${a b}`, "${a\tb}", `${;&|()<>}`, `${a;;b&c}`, `${a:-'}'}`, `${a:-"}"}`, `${a:-\}}`, `${a:-${b}}`, `${a:-$b}`, `${${a}}`,
		`${a#}`, `${{}`, `${a:-{}`, `${a}}`, `}`, `{}`, `a}b`, `{a}`, `${$}`, `${a:-$((1))}`, `${a:-$((}))}`, `${a:-' '}`, `${a:-" "}`, `${a:-"'"}`, `${#a}`, `${a%%*}`, `${'a b'}`, "${\\`}", `${$$}`,
		// dollar parts with ((
		`$(())`, `$((1))`, `$((1+2))`, `$((1 + (2)))`, `$(((1)))`, `$(((1)+(2)))`, `$((()))`, `$((()()))`, `$(( ((1)) ))`, `$((a b))`, `$((;&|<>))`, "$((`))", `$(('))`, `$(("))`, `$((\))`,
		`$((${))`, `$((}))`, `$((#))`, `$(($(1)))`, `$(($((1))))`, `a$((1))b`, `$((1))$((2))`, "$((\t\x00\xff))", `$((\(\)))`,
		// a dollar by itself
		`$`, `$$`, `$a`, `$1`, `$?`, `a$`, `$=b`, `$'a b'`, `$"a b"`, `$}`, `$\a`, `$-$`, `$$a`, `$${a}`, `$$((1))`, `$'('`, `$\(`,
	}
}

func TestWords(t *testing.T) {
	for _, s := range wholes() {
		reads(t, s, begin().word(s).end())
		reads(t, " "+s+" ", begin().word(s).end())
		reads(t, s+";x", begin().word(s).op(";").word("x").end())
		reads(t, s+")", begin().word(s).op(")").end())
		reads(t, s+"\n", begin().word(s).ln().end())
		reads(t, s+"=1>b", begin().word(s+"=1").op(">").word("b").end())
		reads(t, "a"+s+s, begin().word("a"+s+s).end())
	}
	for s, want := range map[string][]api.Token{
		"'\n'":             begin().word("'\n'").down(1).end(),
		"\"a\n\nb\" c":     begin().word("\"a\n\nb\"").down(2).word("c").end(),
		"${a:-\n}\nb":      begin().word("${a:-\n}").down(1).ln().word("b").end(),
		"$((1\n+\n2)) b":   begin().word("$((1\n+\n2))").down(2).word("b").end(),
		"\"${a:-'\n'}\"":   begin().word("\"${a:-'\n'}\"").down(1).end(),
		"$((1)))":          begin().word("$((1))").op(")").end(),
		"$((1)) )":         begin().word("$((1))").op(")").end(),
		"$ (x)":            begin().word("$").op("(").word("x").op(")").end(),
		"$;":               begin().word("$").op(";").end(),
		"$)":               begin().word("$").op(")").end(),
		"$\n":              begin().word("$").ln().end(),
		"$<":               begin().word("$").op("<").end(),
		"${a}} b":          begin().word("${a}}", "b").end(),
		"a'b c'\"d e\"f g": begin().word("a'b c'\"d e\"f", "g").end(),
	} {
		reads(t, s, want)
	}
}

func TestBig(t *testing.T) {
	a := strings.Repeat("a", 4096)
	reads(t, a, begin().word(a).end())
	reads(t, strings.Repeat(" ", 4096), begin().end())
	reads(t, strings.Repeat("\n", 4095)+"a", lines(4095).word("a").end())
	reads(t, strings.Repeat("\n", 4096), lines(4096).end())
	fails(t, strings.Repeat("`", 4096), api.ErrSyntax, 1)
	for _, s := range []string{"a", " ", "\n", "`", "&", "'", "${", "<<E\n"} {
		fails(t, strings.Repeat(s, 4097)[:4097], api.ErrBig, 0)
		fails(t, strings.Repeat(s, 1<<20), api.ErrBig, 0)
	}
}

// lines is n Lines.
func lines(n int) *row {
	r := begin()
	for range n {
		r.ln()
	}
	return r
}

// wrongs are what is no token's beginning, and words that don't go on, or don't end, on a line.
func wrongs() []string {
	return []string{
		"&", "& ", "&;", "&|", "&#", "&\\\n&", "`", "`x`", "``", "$(", "$(x)", "$( (x))", "$()", "$\\\n(", "$\\\n{a}", "$\\\n",
		`\`, `a\`, `\\\`, `$\`, `'`, `'a`, `''\`, `'\''`, `"`, `"a`, `"\"`, `"\`, `"'"'`, `"${a"`, `"${a}`, `"$((1"`, `"$((1))`,
		"\"`\"", "\"a`b`\"", `"$("`, `"$(x)"`, `"$()"`, "\"$\\\n\"", "\"$\\\n(\"", "\"${`}\"", `"${$(}"`,
		"${", "${a", "${a:-", "${a ", "${a;", "${a:-'}", `${a:-"}`, `${a:-\}`, "${a:-`}", "${a:-$(x)}", "${$(}", "${$\\\n}", "${${a}", "${a\n", "${$((1)}", "${a:-\"`\"}", `${a:-"$("}`,
		"$((", "$((1", "$((1)", "$(((1))", "$((1) )", "$(( ) ))", "$((1)2))", "$(((1) ) 2))", "$(()x))", "$((1)\\\n)", "$((1\n", "$((1)\n)", "$(((", "$((((1)))", "$((')'))",
	}
}

func TestWrongs(t *testing.T) {
	for _, s := range wrongs() {
		fails(t, s, api.ErrSyntax, 1)
		fails(t, "a;"+s, api.ErrSyntax, 1)
		fails(t, "a "+s, api.ErrSyntax, 1)
		fails(t, "\na\n\t"+s, api.ErrSyntax, 3)
		fails(t, "\\\n"+s, api.ErrSyntax, 2)
		fails(t, "'\n\n' "+s, api.ErrSyntax, 3)
		fails(t, "#'\n"+s, api.ErrSyntax, 2)
		fails(t, "<<E\nb\nE\n"+s, api.ErrSyntax, 4)
		if s[0] != '&' { // that is a token of its own
			fails(t, "a"+s, api.ErrSyntax, 1)
			fails(t, "2"+s, api.ErrSyntax, 1)
			fails(t, "a'\n'"+s, api.ErrSyntax, 1)
			fails(t, "\na\\\n"+s, api.ErrSyntax, 2)
			fails(t, "${a}"+s, api.ErrSyntax, 1)
			fails(t, "\n\"\n\""+s, api.ErrSyntax, 2)
		}
	}
	for s, line := range map[string]int{
		"a\n'b":        2,
		"'\n\n":        1,
		"\n\n\"a\n\nb": 3,
		"a\n${b\n\nc`": 2,
		"\n$((\n\n)":   2,
		"a\n\nb &\nc":  3,
		"a\\\n&":       2,
		"a\\\n &b":     2,
		"a\n&\n`":      2,
		"a\n`\n&":      2,
		"a&&\n|\n&|":   3,
		"a|&":          1,
		"<&1":          1,
		">&2":          1,
		"&&&":          1,
		"&&\\\n&":      2,
	} {
		fails(t, s, api.ErrSyntax, line)
	}
}

// nested is a text within n dollar parts.
func nested(n int, s string) string {
	return strings.Repeat("${a:-", n) + s + strings.Repeat("}", n)
}

func TestDeep(t *testing.T) {
	for n := range 9 {
		for _, s := range []string{"x", "'${'", "\\${", "$((1))", "$((${${))", "$b", "\"x y\""} {
			w := nested(n, s)
			reads(t, w+" "+w, begin().word(w, w).end())
			if n > 0 { // else what is quoted in s wouldn't be
				reads(t, "\""+w+"\"", begin().word("\""+w+"\"").end())
			}
		}
	}
	deepest := nested(8, "x")
	reads(t, deepest+deepest, begin().word(deepest+deepest).end())
	wide := nested(7, "${b}${c}\"${d}\" ${e}")
	reads(t, wide, begin().word(wide).end())
	for n := 9; n < 600; n += 59 {
		fails(t, nested(n, "x"), api.ErrDeep, 1)
		fails(t, "a\n\n"+nested(n, "x"), api.ErrDeep, 3)
	}
	for s, line := range map[string]int{
		strings.Repeat("${", 9):               1,
		strings.Repeat("${", 9) + "`":         1,
		nested(9, "$(x)"):                     1,
		"\n" + nested(8, "\n${}"):             2,
		nested(8, "\"\n${b}\""):               1,
		"\"" + nested(8, "\"${b}\"") + "\"":   1,
		"a'\n'" + nested(9, ""):               1,
		"\\\n" + nested(9, ""):                2,
		nested(9, "") + " &":                  1,
		"a\n" + nested(9, "") + "\n'":         2,
		strings.Repeat("${a:-\"", 8) + "\n${": 1,
	} {
		fails(t, s, api.ErrDeep, line)
	}
	// what is wrong ahead of it is told
	for _, s := range []string{nested(8, "`${b}"), nested(8, "$(${b})"), "& " + nested(9, ""), "`" + nested(9, ""), "$(" + nested(9, ""), nested(8, "$\\\n${b}"), nested(8, "$((1)${b}))"), strings.Repeat("${", 8)} {
		fails(t, s, api.ErrSyntax, 1)
	}
}

// P6.2

func TestHere(t *testing.T) {
	for s, want := range map[string][]api.Token{
		"a <<E\nb\nE\n":              begin().word("a").here("E", "b\n").ln().down(2).end(),
		"a <<E\nb\nE":                begin().word("a").here("E", "b\n").ln().down(1).end(),
		"<<E\nE\n":                   begin().here("E", "").ln().down(1).end(),
		"<<E\nE":                     begin().here("E", "").ln().end(),
		"<<E\nE\nE\n":                begin().here("E", "").ln().down(1).word("E").ln().end(),
		"<<E\n1\n2\n\n3\nE\nb":       begin().here("E", "1\n2\n\n3\n").ln().down(5).word("b").end(),
		"a << \tE\nb\nE\n":           begin().word("a").here("E", "b\n").ln().down(2).end(),
		"a <<\\\nE\nb\nE\n":          begin().word("a").op("<<").down(1).body("E", "b\n").ln().down(2).end(),
		"a <<E b;c\n1\nE\n":          begin().word("a").here("E", "1\n").word("b").op(";").word("c").ln().down(2).end(),
		"a <<E # x\n1\nE\n":          begin().word("a").here("E", "1\n").ln().down(2).end(),
		"(a <<E)\n1\nE\nb":           begin().op("(").word("a").here("E", "1\n").op(")").ln().down(2).word("b").end(),
		"a <<E|b\n1\nE\nc":           begin().word("a").here("E", "1\n").op("|").word("b").ln().down(2).word("c").end(),
		"3<<E\n1\nE\n":               begin().io("3").here("E", "1\n").ln().down(2).end(),
		"<<2\n1\n2\n":                begin().here("2", "1\n").ln().down(2).end(),
		"<<E\\\nF\n1\nEF\n":          begin().here("EF", "1\n").down(1).ln().down(2).end(),
		"<<E \\\n\n1\nE\n":           begin().here("E", "1\n").down(1).ln().down(2).end(),
		"<<E 'x\ny'\n1\nE\n":         begin().here("E", "1\n").word("'x\ny'").down(1).ln().down(2).end(),
		"<<E\n E\nE \n\tE\nEE\ne\nE": begin().here("E", " E\nE \n\tE\nEE\ne\n").ln().down(5).end(),
		"<<E\nE\r\nE":                begin().here("E", "E\r\n").ln().down(1).end(),
		"<<E\n'`$(x)${&\\\nE\n":      begin().here("E", "'`$(x)${&\\\n").ln().down(2).end(),
		"<<E\n\\\nE\n":               begin().here("E", "\\\n").ln().down(2).end(),
		"<<E\n<<F\nE\nF":             begin().here("E", "<<F\n").ln().down(2).word("F").end(),
		"<<E\n#\nE\n#\n":             begin().here("E", "#\n").ln().down(2).ln().end(),
		"<<E\n\x00\xff\nE":           begin().here("E", "\x00\xff\n").ln().down(1).end(),
		"<<E\n1\nE\n<<F\n2\nF\n":     begin().here("E", "1\n").ln().down(2).here("F", "2\n").ln().down(2).end(),
		"<<}\n1\n}\n":                begin().here("}", "1\n").ln().down(2).end(),
	} {
		reads(t, s, want)
	}
}

// body is a here-document's word by itself.
func (r *row) body(word, body string) *row {
	r.word(word)
	r.tokens[len(r.tokens)-1].Body = body
	return r
}

func TestHereQuoted(t *testing.T) {
	for word, end := range map[string]string{
		`'F'`: "F", `"F"`: "F", `\F`: "F", `F''`: "F", `F"G"H`: "FGH", `'F G'`: "F G", `F\ G`: "F G", `'\F'`: "F", `"\""`: "", `''`: "", `""`: "",
		`$x`: "$x", `${x}`: "${x}", `"${x:-'y z'}"`: "${x:-y z}", `$((1))`: "$((1))", `'#'`: "#", `\\\\`: "", `'"'`: "",
	} {
		reads(t, "<<"+word+"\n1\n"+word+".\n"+end+"\nb", begin().here(word, "1\n"+word+".\n").ln().down(3).word("b").end())
		reads(t, "<<"+word+"\n"+end+"\n", begin().here(word, "").ln().down(1).end())
	}
	fails(t, "<<'F'\n1\n'F'\n", api.ErrSyntax, 1)
	fails(t, "<<''\n1\n", api.ErrSyntax, 1) // nothing behind the last newline is no line
	fails(t, "<<''\n", api.ErrSyntax, 1)
	fails(t, "<<'E\nF'\nE\nF\n", api.ErrSyntax, 2) // no line has a newline
}

func TestHeres(t *testing.T) {
	for s, want := range map[string][]api.Token{
		"a <<E <<'F'\n1\nE\n2\nF\nb":   begin().word("a").here("E", "1\n").here("'F'", "2\n").ln().down(4).word("b").end(),
		"a <<E <<E\n1\nE\n2\nE\nb":     begin().word("a").here("E", "1\n").here("E", "2\n").ln().down(4).word("b").end(),
		"a <<F;b <<E\nE\n1\nF\n2\nE":   begin().word("a").here("F", "E\n1\n").op(";").word("b").here("E", "2\n").ln().down(4).end(),
		"<<a<<b<<c\na\nb\nc":           begin().here("a", "").here("b", "").here("c", "").ln().down(2).end(),
		"<<a\\\n<<b x\n1\na\n2\nb\n":   begin().here("a", "1\n").down(1).here("b", "2\n").word("x").ln().down(4).end(),
		"<<a <<b\nb\na\na\nb\nc":       begin().here("a", "b\n").here("b", "a\n").ln().down(4).word("c").end(),
		"<<'' <<b\n\n1\nb\n":           begin().here("''", "").here("b", "1\n").ln().down(3).end(),
		"<<a\n<<b\na\n<<b\n<<a\nb\n\n": begin().here("a", "<<b\n").ln().down(2).here("b", "<<a\n").ln().down(2).ln().end(),
	} {
		reads(t, s, want)
	}
}

func TestNoHere(t *testing.T) {
	for s, want := range map[string][]api.Token{
		"<<":              begin().op("<<").end(),
		"<<\nE\n1\n":      begin().op("<<").ln().word("E").ln().word("1").ln().end(),
		"<<;E\n1":         begin().op("<<", ";").word("E").ln().word("1").end(),
		"<<2>E\n1":        begin().op("<<").io("2").op(">").word("E").ln().word("1").end(),
		"<<<E\n1":         begin().op("<<", "<").word("E").ln().word("1").end(),
		"< <E\n1":         begin().op("<", "<").word("E").ln().word("1").end(),
		"<\\\n<E\n1":      begin().op("<").down(1).op("<").word("E").ln().word("1").end(),
		">>E\n1":          begin().op(">>").word("E").ln().word("1").end(),
		"'<<' E\n1":       begin().word("'<<'", "E").ln().word("1").end(),
		"\\<\\< E\n1":     begin().word("\\<\\<", "E").ln().word("1").end(),
		"\"<<\" E\n1":     begin().word("\"<<\"", "E").ln().word("1").end(),
		"${<<E}\n1":       begin().word("${<<E}").ln().word("1").end(),
		"$((1<<E))\n1":    begin().word("$((1<<E))").ln().word("1").end(),
		"#<<E\n1":         begin().ln().word("1").end(),
		"<< #E\nF\n1":     begin().op("<<").ln().word("F").ln().word("1").end(),
		"<<E F\nE\nF G\n": begin().here("E", "").word("F").ln().down(1).word("F", "G").ln().end(),
	} {
		reads(t, s, want)
	}
}

func TestHereWrong(t *testing.T) {
	for s, line := range map[string]int{
		"<<E":                     1, // no Line
		"a <<E;b":                 1,
		"\n\na <<E":               3,
		"a <<E \\\n":              1,
		"a <<E \\\n  ":            1,
		"a <<E # b":               1,
		"a <<E \\\nb":             2,
		"a <<E 'b\n\nc'":          1,
		"a <<'E\n\n'":             1,
		"a <<E 'b\n\nc' d":        3,
		"<<E\n":                   1, // no such line
		"<<E\nx":                  1,
		"<<E\nx\ny\n\n":           1,
		"\n\na <<E\nx":            3,
		"a <<E;\\\nb\nx\n":        2,
		"a <<E 'b\n'\nx\ny\n":     2,
		"<<E\nE \n E\nEE\n\nEx":   1,
		"<<E\nE\r\n":              1,
		"<<E\n#E\n":               1,
		"<<E\nE\\\n":              1,
		"<<E <<F\n1\nE\n2\nE":     1,
		"<<E <<F\n1\nF\n2\nF":     1,
		"<<E <<E\n1\nE\n2\n":      1,
		"<<E <<F\n1\nE":           1,
		"<<E <<F\nE\nF\n<<G\n1\n": 4,
		"<<E\nE\n<<F":             3,
		"<<E '":                   1, // what comes first
		"<<E\\\n '":               2,
		"<<E\n`":                  1,
		"<<E\\\n&":                2,
		"<<E\n1\nE\n\n`":          5,
	} {
		fails(t, s, api.ErrSyntax, line)
	}
	fails(t, "<<E\\\n "+nested(9, ""), api.ErrDeep, 2)
	fails(t, "<<"+nested(9, ""), api.ErrDeep, 1)
	fails(t, "<<E\n"+nested(9, ""), api.ErrSyntax, 1)
}

// P6.3

func TestBare(t *testing.T) {
	for raw, want := range map[string]string{
		"": "", "a": "a", "a b": "a b", "$x": "$x", "${x:-y}": "${x:-y}", "a\nb`#": "a\nb`#", "\x00\xff\xc3\xa9": "\x00\xff\xc3\xa9",
	} {
		if got, had := lexer.Bare(raw); got != want || had {
			t.Errorf("Bare(%q) is %q, %t", raw, got, had)
		}
	}
	for raw, want := range map[string]string{
		`'`: "", `"`: "", `\`: "", `''`: "", `""`: "", `\\`: "", `'a'`: "a", `"a"`: "a", `\a`: "a", `a'`: "a", `'a`: "a", `a\`: "a", `a'b"c\d`: "abcd",
		`'"\`: "", `'a b'"c\"`: "a bc", "\\\n": "\n", "'\xff\x00'": "\xff\x00", `"${x:-'y'}"`: "${x:-y}", "`'`": "``", `'é'`: "é",
	} {
		if got, had := lexer.Bare(raw); got != want || !had {
			t.Errorf("Bare(%q) is %q, %t", raw, got, had)
		}
	}
}

func TestName(t *testing.T) {
	for _, s := range []string{"a", "z", "A", "Z", "_", "_0", "a9", "abc", "A_b_9", "__", "PATH", "x123456789", "a0", strings.Repeat("n", 5000)} {
		if !lexer.Name(s) {
			t.Errorf("%.20q is no name", s)
		}
	}
	for _, s := range []string{"", "0", "9a", "1", "a b", " a", "a ", "a-b", "a=", "=", "$a", "a.", "é", "aé", "a\x00", "a\n", "\xff", "a/", "a:", "a@", "a[", "a`", "a{", "@", "[", "`", "{", "/", ":", "a^", "?", "#", "*", "!"} {
		if lexer.Name(s) {
			t.Errorf("%q is a name", s)
		}
	}
	for c := range 256 {
		s := string([]byte{byte(c)})
		first := strings.Contains("abcdefghijklmnopqrstuvwxyzABCDEFGHIJKLMNOPQRSTUVWXYZ_", s)
		later := first || strings.Contains("0123456789", s)
		if lexer.Name(s) != first || lexer.Name("a"+s) != later || lexer.Name("a"+s+"b") != later {
			t.Errorf("byte %d: %t first, %t later", c, lexer.Name(s), lexer.Name("a"+s))
		}
	}
}

func TestSets(t *testing.T) {
	for raw, want := range map[string][2]string{
		"a=": {"a", ""}, "a=b": {"a", "b"}, "a==": {"a", "="}, "a=b=c": {"a", "b=c"}, "_9=x y": {"_9", "x y"}, "A='b c'": {"A", "'b c'"}, "a=$b\n": {"a", "$b\n"}, "a=\x00\xff": {"a", "\x00\xff"}, "a=\"": {"a", "\""},
	} {
		if name, value, ok := lexer.Sets(raw); name != want[0] || value != want[1] || !ok {
			t.Errorf("Sets(%q) is %q, %q, %t", raw, name, value, ok)
		}
	}
	for _, raw := range []string{"", "a", "=", "=b", "9=b", "9a=b", "a b=c", " a=b", "a =b", "a-=b", "a+=b", "'a'=b", "a'='b", "\\a=b", "a\\=b", "$a=b", "${a}=b", "a", "abc", "é=b", "a\x00=b", "a[0]=b"} {
		if name, value, ok := lexer.Sets(raw); name != "" || value != "" || ok {
			t.Errorf("Sets(%q) is %q, %q, %t", raw, name, value, ok)
		}
	}
}

// P6.4, and all of the others once more

// What a script is by the chapter's words, spelt another way: as what is cut from the head of what is left.
var (
	passed  = regexp.MustCompile(`^(?:[ \t]|\\\n|#[^\n]*)`)
	numbers = regexp.MustCompile(`^[0-9]+[<>]`)
	signed  = regexp.MustCompile(`^(?:&&|\|\||;;|<<|>>|[;|()<>])`)
	simple  = regexp.MustCompile(`^(?s:\\[^\n]|'[^']*')`)
	refused = regexp.MustCompile("^(?:`|\\$\\(|\\$\\\\\n|['\"\\\\])")
	bound   = regexp.MustCompile(`^(?:$|[ \t\n;&|()<>])`)
)

// part is how many bytes a part at the head of s has, and what it is without joins.
func part(s string, deep int) (int, string, api.Errno) {
	switch {
	case s == "":
		return 0, "", api.ErrSyntax
	case strings.HasPrefix(s, "\\\n"):
		return 2, "", api.OK
	case simple.MatchString(s):
		m := simple.FindString(s)
		return len(m), m, api.OK
	case s[0] == '"':
		return within(s, `"`, `"`, deep)
	case strings.HasPrefix(s, "${") && deep == 8:
		return 0, "", api.ErrDeep
	case strings.HasPrefix(s, "${"):
		return within(s, "${", "}", deep+1)
	case strings.HasPrefix(s, "$(("):
		return sum(s)
	case refused.MatchString(s):
		return 0, "", api.ErrSyntax
	}
	return 1, s[:1], api.OK
}

// within is the parts of s from head to tail.
func within(s, head, tail string, deep int) (int, string, api.Errno) {
	n, text := len(head), head
	for !strings.HasPrefix(s[n:], tail) {
		if tail == `"` && strings.HasPrefix(s[n:], "'") {
			n, text = n+1, text+"'"
			continue
		}
		m, more, e := part(s[n:], deep)
		if e != api.OK {
			return 0, "", e
		}
		n, text = n+m, text+more
	}
	return n + 1, text + tail, api.OK
}

// sum is what is reckoned, at the head of s: up to the first two `)` that have as many `(` as `)` ahead.
func sum(s string) (int, string, api.Errno) {
	for i := 3; i <= len(s); i++ {
		opened, closed := strings.Count(s[3:i], "("), strings.Count(s[3:i], ")")
		if closed > opened {
			break
		}
		if closed == opened && strings.HasPrefix(s[i:], "))") {
			return i + 2, s[:i+2], api.OK
		}
	}
	return 0, "", api.ErrSyntax
}

// spelt is a script's tokens.
func spelt(s string) ([]api.Token, api.Errno, int) {
	var l []api.Token
	var ends []int
	for i := 0; ; {
		rest, line := s[i:], 1+strings.Count(s[:i], "\n")
		here := len(l) > 0 && l[len(l)-1].Kind == lexer.Op && l[len(l)-1].Text == "<<"
		switch {
		case rest == "" && len(ends) > 0:
			return nil, api.ErrSyntax, l[len(l)-1].Line
		case rest == "":
			return append(l, api.Token{Kind: lexer.End, Line: line}), api.OK, 0
		case passed.MatchString(rest):
			i += len(passed.FindString(rest))
		case rest[0] == '\n':
			l = append(l, api.Token{Kind: lexer.Line, Line: line})
			i++
			for _, at := range ends {
				end := strings.NewReplacer("'", "", `"`, "", `\`, "").Replace(l[at].Text)
				n := strings.Index("\n"+s[i:]+"\n", "\n"+end+"\n")
				if n < 0 || n == len(s)-i {
					return nil, api.ErrSyntax, line
				}
				l[at].Body = s[i : i+n]
				i = min(i+n+len(end)+1, len(s))
			}
			ends = nil
		case signed.MatchString(rest):
			sign := signed.FindString(rest)
			l = append(l, api.Token{Kind: lexer.Op, Text: sign, Line: line})
			i += len(sign)
		case rest[0] == '&':
			return nil, api.ErrSyntax, line
		case numbers.MatchString(rest):
			text := numbers.FindString(rest)
			l = append(l, api.Token{Kind: lexer.Io, Text: text[:len(text)-1], Line: line})
			i += len(text) - 1
		default:
			text := ""
			for !bound.MatchString(s[i:]) {
				n, more, e := part(s[i:], 0)
				if e != api.OK {
					return nil, e, line
				}
				i, text = i+n, text+more
			}
			if here {
				ends = append(ends, len(l))
			}
			l = append(l, api.Token{Kind: lexer.Word, Text: text, Line: line})
		}
	}
}

// agrees holds that a script is what is spelt of it; true: it is one.
func agrees(t *testing.T, s string) bool {
	t.Helper()
	want, wantE, wantLine := spelt(s)
	got, e, line := lexer.All(s)
	if !slices.Equal(got, want) || e != wantE || line != wantLine {
		t.Errorf("All(%q):\n%+v, error %d, line %d; not\n%+v, %d, %d", s, got, e, line, want, wantE, wantLine)
	}
	if !slices.IsSortedFunc(got, func(a, b api.Token) int { return a.Line - b.Line }) {
		t.Errorf("All(%q): lines fall: %+v", s, got)
	}
	return e == api.OK
}

// every holds agreement of a script that begins so, and of each one with up to n bytes more; how many are whole.
func every(t *testing.T, s string, n int) int {
	whole := 0
	if agrees(t, s) {
		whole++
	}
	if n > 0 {
		for _, c := range []byte("a2'\"\\\n${}()`<#& ;") {
			whole += every(t, s+string([]byte{c}), n-1)
		}
	}
	return whole
}

func TestShortOnes(t *testing.T) {
	if whole := every(t, "", 4); whole < 10000 {
		t.Errorf("only %d scripts without an error", whole)
	}
}

func TestLongOnes(t *testing.T) {
	pieces := []string{
		"a", "2", "b c", " ", "\t", "\n", "\\\n", "\\", "\\a", "'", "'x y'", "\"", "\"x y\"", "$", "$x", "${", "${x:-", "}", "}", "$((", "$((1))", "(", ")", "))",
		"<", ">", "2>", "<<E", "<<'E F'", "\nE\n", "\nx\nE\n", "\nE F\n", "E", "<<", "<<''", "\n\n", "#", " #x\n", "&&", ";", ";;", "|", "||", "=", "\x00", "\xff",
	}
	rare := []string{"`", "&", "$(", "$\\\n"}
	chance := rand.New(rand.NewSource(6))
	whole := 0
	for range 200000 {
		s := ""
		for range 1 + chance.Intn(14) {
			if chance.Intn(60) == 0 {
				s += rare[chance.Intn(len(rare))]
			} else {
				s += pieces[chance.Intn(len(pieces))]
			}
		}
		if agrees(t, s) {
			whole++
		}
	}
	if whole < 20000 {
		t.Errorf("only %d scripts without an error", whole)
	}
}

// What is quoted isn't parted.
func TestQuoted(t *testing.T) {
	for _, s := range []string{"a b", "a;b", "\n", "a\tb", "&&", "||", ";;", "<<E\n1\nE\n", "2>", "(", ")", "<", ">", "#", " #x\n"} {
		down := strings.Count(s, "\n")
		for _, w := range []string{"'" + s + "'", "\"" + s + "\"", "${a:-" + s + "}", "${a:-'" + s + "'}", "${a:-\"" + s + "\"}", "\"${a:-" + s + "}\""} {
			reads(t, w, begin().word(w).down(down).end())
			reads(t, "x"+w+"y z", begin().word("x"+w+"y").down(down).word("z").end())
		}
	}
}

// Another call's tokens are in memory of their own.
func TestNewMemory(t *testing.T) {
	s := "a <<E 2>b\nx\nE\n"
	want := begin().word("a").here("E", "x\n").io("2").op(">").word("b").ln().down(2).end()
	l, _, _ := lexer.All(s)
	for i := range l {
		l[i] = api.Token{Kind: 9, Text: "z", Body: "z", Line: -1}
	}
	_ = append(l, api.Token{})
	reads(t, s, want)
}
