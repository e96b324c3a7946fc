package expand_test

import (
	"errors"
	"maps"
	"math/rand"
	"slices"
	"strconv"
	"strings"
	"testing"

	"kinetoscope/api"
	"kinetoscope/arith"
	"kinetoscope/env"
	"kinetoscope/expand"
	"kinetoscope/glob"
	"kinetoscope/split"
)

// The chapter's words spelt another way: words are made by chance out of pieces, of which each one knows how
// it is written, and what it puts: cells, each a byte and its letter, by turns, in a shell whose variables
// are a map. So neither words nor parameters are read here.

// shell is what pieces are put of.
type shell struct {
	vars  map[string]string
	args  []string
	flags string
}

// piece is how it is written, and what it puts.
type piece struct {
	raw string
	put func(s *shell) (string, error)
}

// wrong is what a piece that can't be put says.
type wrong expand.Fault

func (w wrong) Error() string { return w.E.Error() + " " + w.Text }

// cells are a text's, of one letter.
func cells(text, letter string) string {
	if text == "" && letter == "q" {
		return "\x00e"
	}
	var b strings.Builder
	for i := range len(text) {
		b.WriteString(text[i:i+1] + letter)
	}
	return b.String()
}

// halves are the bytes, and the letters, of cells without nothings.
func halves(c string) (string, string) {
	text, mask := "", ""
	for ; c != ""; c = c[2:] {
		if c[1] != 'e' {
			text, mask = text+c[:1], mask+c[1:2]
		}
	}
	return text, mask
}

// bytesOf are the bytes of cells without nothings.
func bytesOf(c string) string {
	text, _ := halves(c)
	return text
}

// putAll is what pieces put, one behind the other.
func putAll(s *shell, l []piece) (string, error) {
	all := ""
	for _, p := range l {
		c, err := p.put(s)
		if err != nil {
			return "", err
		}
		all += c
	}
	return all, nil
}

// rawOf is how pieces are written.
func rawOf(l []piece) string {
	raw := ""
	for _, p := range l {
		raw += p.raw
	}
	return raw
}

// value is a parameter's.
func (s *shell) value(name string) (string, bool) {
	first := " "
	if ifs, is := s.vars["IFS"]; is {
		first = ifs[:min(1, len(ifs))]
	}
	switch name {
	case "@", "*":
		return strings.Join(s.args, first), len(s.args) != 0
	case "#":
		return strconv.Itoa(len(s.args)), true
	case "-":
		return s.flags, true
	case "?":
		return "42", true
	case "0":
		return "sh", true
	}
	if n, err := strconv.Atoi(name); err == nil {
		if n > len(s.args) {
			return "", false
		}
		return s.args[n-1], true
	}
	v, is := s.vars[name]
	return v, is
}

// maker makes words by chance.
type maker struct{ *rand.Rand }

// of is one of some texts.
func (m maker) of(l ...string) string { return l[m.Intn(len(l))] }

// text is bytes of some.
func (m maker) text(of string) string {
	b := make([]byte, m.Intn(4))
	for i := range b {
		b[i] = of[m.Intn(len(of))]
	}
	return string(b)
}

// fixed is a piece that puts the same, wherever it stands.
func fixed(raw, c string) piece {
	return piece{raw, func(*shell) (string, error) { return c, nil }}
}

// words are pieces of a raw word.
func (m maker) words(deep int) []piece {
	var l []piece
	for range m.Intn(5) {
		switch m.Intn(6) {
		case 0, 1:
			s := m.text("ab *?[]:-=/,~\x00")
			l = append(l, fixed(s, cells(s, "l")))
		case 2:
			s := m.of(" ", "$", "\\", "'", "\"", "a", "}", "*", "~", "`", ":")
			l = append(l, fixed("\\"+s, cells(s, "q")))
		case 3:
			s := m.text("ab *\\\"$`:}")
			l = append(l, fixed("'"+s+"'", cells(s, "q")))
		case 4:
			l = append(l, m.double(deep))
		case 5:
			l = append(l, m.dollar("s", deep))
		}
	}
	return l
}

// inside are pieces of a quoted part, or of a here-document.
func (m maker) inside(deep int, bare string) []piece {
	var l []piece
	for range m.Intn(4) {
		switch m.Intn(4) {
		case 0:
			if s := m.text("ab '*:}\n"); s != "" {
				l = append(l, fixed(s, cells(s, "q")))
			}
		case 1:
			s := m.of("$", "\\", "`", "\"", "a", "}", "'")
			put := s
			if !strings.Contains(bare, s) {
				put = "\\" + s
			}
			l = append(l, fixed("\\"+s, cells(put, "q")))
		default:
			l = append(l, m.dollar("q", deep))
		}
	}
	return l
}

// double is a quoted part.
func (m maker) double(deep int) piece {
	l := m.inside(deep, "$`\"\\")
	raw := "\"" + rawOf(l) + "\""
	if len(l) == 0 {
		return fixed(raw, "\x00e")
	}
	return piece{raw, func(s *shell) (string, error) { return putAll(s, l) }}
}

// dollar is what a `$` is.
func (m maker) dollar(letter string, deep int) piece {
	name := m.of("x", "y", "z", "E", "n", "IFS", "HOME", "1", "2", "3", "10", "@", "*", "#", "?", "-", "0")
	switch n := m.Intn(12); {
	case n == 0:
		return m.reckoned(letter)
	case n < 4:
		return piece{"${" + name + "}", func(s *shell) (string, error) { return s.bare(name, letter) }}
	case n == 4:
		name = m.of("1", "2", "@", "*", "#", "?", "-", "0")
		return piece{"$" + name, func(s *shell) (string, error) { return s.bare(name, letter) }}
	case n == 5 && len(name) != 2:
		return piece{"${#" + name + "}", func(s *shell) (string, error) {
			v, is := s.value(name)
			if s.lacks(name, is) {
				return "", wrong{api.ErrName, name}
			}
			return cells(strconv.Itoa(len(v)), letter), nil
		}}
	case deep == 0:
		return fixed("$((4-5))", cells("-1", letter))
	}
	l := m.words(deep - 1)
	if op := m.of("%", "%%", "#", "##", "-", "=", "?", "+", ":-", ":=", ":?", ":+"); m.Intn(3) > 0 && name != "#" { // since `${#-}` is a length
		return piece{"${" + name + op + rawOf(l) + "}", func(s *shell) (string, error) { return s.with(name, op, letter, l) }}
	}
	op := m.of("%", "%%", "#", "##") // by themselves, so that there are as many of them
	return piece{"${x" + op + rawOf(l) + "}", func(s *shell) (string, error) { return s.with("x", op, letter, l) }}
}

// reckoned is an arith part.
func (m maker) reckoned(letter string) piece {
	text := m.of("n+1", "n*(n-8)", "x", "1/n", "5%z", "z", "1+", "(n)", "-y")
	return piece{"$((" + text + "))", func(s *shell) (string, error) {
		var vars []arith.Var
		for name, v := range s.vars {
			vars = append(vars, arith.Var{Name: name, Value: v})
		}
		n, e := arith.Eval(text, vars...)
		if e != api.OK {
			return "", wrong{e, text}
		}
		return cells(strconv.FormatInt(n, 10), letter), nil
	}}
}

// lacks tells whether what isn't set is a fault.
func (s *shell) lacks(name string, is bool) bool {
	return !is && strings.Contains(s.flags, "u") && name != "@" && name != "*"
}

// bare is what a parameter without an operation puts.
func (s *shell) bare(name, letter string) (string, error) {
	if name+letter == "@s" || name+letter == "*s" || name+letter == "@q" {
		var l []string
		for _, a := range s.args {
			l = append(l, cells(a, letter))
		}
		return strings.Join(l, " b"), nil
	}
	v, is := s.value(name)
	if s.lacks(name, is) {
		return "", wrong{api.ErrName, name}
	}
	return cells(v, letter), nil
}

// with is what a parameter with an operation, and a word, puts.
func (s *shell) with(name, op, letter string, l []piece) (string, error) {
	v, is := s.value(name)
	state := 0 // of the chapter's table: set, with a value; set, empty; not set
	if v == "" {
		state = 1
	}
	if !is {
		state = 2
	}
	table := map[string]string{":-": "VWW", "-": "VVW", ":=": "VAA", "=": "VVA", ":?": "VFF", "?": "VVF", ":+": "WNN", "+": "WWN"}
	does, told := table[op]
	if !told {
		does = "TTN"
		if s.lacks(name, is) {
			return "", wrong{api.ErrName, name}
		}
	}
	switch does[state] {
	case 'V':
		return cells(v, letter), nil
	case 'T':
		c, err := putAll(s, l)
		if err != nil {
			return "", err
		}
		return cells(trim(v, op, c), letter), nil
	case 'W':
		c, err := putAll(s, l)
		if letter == "q" && err == nil {
			return cells(bytesOf(c), "q"), nil
		}
		return bareAsSplit(c), err
	case 'A':
		return s.assign(name, letter, l)
	case 'F':
		return "", wrong{api.ErrName, name}
	}
	return cells("", letter), nil
}

// bareAsSplit is cells of which those that stand bare are split as values are.
func bareAsSplit(c string) string {
	b := []byte(c)
	for i := 1; i < len(b); i += 2 {
		if b[i] == 'l' {
			b[i] = 's'
		}
	}
	return string(b)
}

// assign sets a parameter to a word.
func (s *shell) assign(name, letter string, l []piece) (string, error) {
	if !strings.Contains(" x y z E n IFS HOME ", " "+name+" ") {
		return "", wrong{api.ErrName, name}
	}
	c, err := putAll(s, l)
	if err != nil {
		return "", err
	}
	s.vars[name] = bytesOf(c)
	return cells(s.vars[name], letter), nil
}

// trim is a value without its shortest, or longest, beginning, or end, of a pattern.
func trim(v, op, c string) string {
	var fit []string // what is left, from the shortest that is cut off on
	text, mask := halves(c)
	for n := 0; n <= len(v); n++ {
		if op[0] == '#' && glob.Match(glob.Pat{Text: text, Mask: mask}, v[:n]) {
			fit = append(fit, v[n:])
		}
		if op[0] == '%' && glob.Match(glob.Pat{Text: text, Mask: mask}, v[len(v)-n:]) {
			fit = append(fit, v[:len(v)-n])
		}
	}
	switch {
	case len(fit) == 0:
		return v
	case len(op) == 2:
		return fit[len(fit)-1]
	}
	return fit[0]
}

// shell is one by chance.
func (m maker) shell() *shell {
	s := &shell{vars: map[string]string{}, flags: m.of("", "", "", "u", "efux")}
	for _, name := range []string{"x", "y", "z", "E", "n", "IFS", "HOME"} {
		if m.Intn(2) == 0 {
			s.vars[name] = m.of("", "a b", " a", "7", "0", "a*b", "*", ": a::b ", "/h", "\x00", "a", ":", " ", "x  y")
		}
	}
	if m.Intn(2) == 0 {
		s.vars["n"] = m.of("1", "7", "-3", "0")
	}
	for range m.Intn(4) {
		s.args = append(s.args, m.of("", "", "a b", ":", "c", " ", "*"))
	}
	return s
}

// env is a shell as one of package env.
func (s *shell) env() env.Env {
	e := env.Env{Args: slices.Clone(s.args), Status: 42, Flags: s.flags}
	for _, name := range slices.Sorted(maps.Keys(s.vars)) {
		e.Vars = append(e.Vars, arith.Var{Name: name, Value: s.vars[name]})
	}
	return e
}

// home is a tilde, or not, ahead of the pieces of a word.
func (m maker) home(l []piece) []piece {
	tilde := piece{"~", func(s *shell) (string, error) {
		if home, is := s.vars["HOME"]; is {
			return cells(home, "q"), nil
		}
		return "~l", nil
	}}
	switch {
	case len(l) == 0 || m.Intn(9) == 0:
		return []piece{tilde}
	case m.Intn(9) == 0:
		return append([]piece{tilde, fixed("/", "/l")}, l...)
	case strings.HasPrefix(rawOf(l), "~"):
		return append([]piece{fixed("a", "al")}, l...)
	}
	return l
}

// asSpelt holds a word, or a here-document, that was made; it tells whether it was a fault.
func asSpelt(t *testing.T, s *shell, l []piece, document bool) bool {
	t.Helper()
	e, raw := s.env(), rawOf(l)
	before := s.env()
	c, err := putAll(s, l)
	then, fault := s.env(), expand.Fault{}
	if w := (wrong{}); errors.As(err, &w) {
		c, then, fault = "", before, expand.Fault(w)
	}
	holds := func(what string, same bool, got any, o env.Env, f expand.Fault) {
		t.Helper()
		if !same || f != fault || !env.Same(o, then) || !env.Same(e, before) {
			t.Errorf("%s of %q, %+v: %q, %+v, %+v; not %q, %+v, %+v", what, raw, before, got, o, f, c, then, fault)
		}
	}
	text, mask := halves(c)
	if document {
		d, o, f := expand.Body(e, raw, false)
		holds("Body", d == text, d, o, f)
		return err != nil
	}
	var row split.Row
	for i := 0; i < len(c); i += 2 {
		row.Text, row.Mask = row.Text+c[i:i+1], row.Mask+c[i+1:i+2]
	}
	r, o, f := expand.Fields(e, raw)
	holds("Fields", slices.Equal(r, split.Split(row, then.Ifs())), r, o, f)
	w, o, f := expand.One(e, raw)
	holds("One", w == text, w, o, f)
	p, o, f := expand.Pattern(e, raw)
	holds("Pattern", p == glob.Pat{Text: text, Mask: mask}, p, o, f)
	return err != nil
}

func TestWordsByChance(t *testing.T) {
	m := maker{rand.New(rand.NewSource(1501))}
	faults := 0
	for range 60000 {
		if asSpelt(t, m.shell(), m.home(m.words(3)), false) {
			faults++
		}
		if t.Failed() {
			return
		}
	}
	if faults < 3000 || faults > 57000 {
		t.Error("of 60000 words", faults, "are faults")
	}
}

func TestBodiesByChance(t *testing.T) {
	m := maker{rand.New(rand.NewSource(1502))}
	for range 30000 {
		asSpelt(t, m.shell(), m.inside(3, "$`\\"), true)
		if t.Failed() {
			return
		}
	}
}
