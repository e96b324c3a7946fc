package word_test

import (
	"math/rand"
	"strings"
	"testing"

	"kinetoscope/api"
	"kinetoscope/lexer"
	"kinetoscope/word"
)

// Parts by chance are written as one of the many texts that stand for them, and these are parsed.

// maker makes parts, and texts of them.
type maker struct {
	*rand.Rand
	text strings.Builder
	open bool // whether a quoted part is open
}

func (m *maker) maybe() bool { return m.Intn(2) == 0 }

func (m *maker) one(l ...string) string { return l[m.Intn(len(l))] }

// some is up to n pieces that stand for text of a kind.
func (m *maker) some(n int, pieces ...string) string {
	s := ""
	for range n {
		s += m.one(pieces...)
	}
	return s
}

// row makes parts that stand within deep braces; no two behind each other are texts of one kind.
func (m *maker) row(deep int) []word.Part {
	var l []word.Part
	for range m.Intn(5) {
		if p := m.part(deep); len(l) == 0 || p.Kind != l[len(l)-1].Kind || p.Kind > word.Quo {
			l = append(l, p)
		}
	}
	return l
}

func (m *maker) part(deep int) word.Part {
	switch m.Intn(5) {
	case 0:
		return lit(m.some(1+m.Intn(3), "a", "_1", "/", "{", "(x)", "$.", "$=", " ", "#", ":-", "*", "é", "\n;&", ".~"))
	case 1:
		return quo(m.some(m.Intn(4), "a", "_1", "/", "}", "$", "`", "'", `"`, `\`, "{", "~", "\n", "\xff", "$("))
	case 2:
		p := ari(m.one("", "1+2", "(x)", "$((1))", "()()", "}'\"`", " "))
		p.Quoted = m.maybe()
		return p
	}
	p := par(m.one("x", "ab_1", "_", "0", "12", "?", "#", "@", "*", "-"))
	p.Quoted = m.maybe()
	switch {
	case m.maybe():
	case m.maybe() && p.Text != "12":
		p.Op = "len"
	case deep < api.MaxWord-1 && p.Text != "#": // so that braces may stand in it
		p.Op = m.one(":-", ":=", ":?", ":+", "%%", "##", "-", "=", "?", "+", "%", "#")
		p.Word = m.row(deep + 1)
		if len(p.Word) > 0 && p.Word[0].Kind == word.Lit { // lest it make a longer Op
			p.Word[0].Text = "." + p.Word[0].Text
		}
	}
	return p
}

// put puts parts' text.
func (m *maker) put(l []word.Part) {
	for i, p := range l {
		switch {
		case p.Kind == word.Lit:
			m.quote(false)
			m.text.WriteString(p.Text)
		case p.Kind == word.Quo:
			m.putQuo(p.Text)
		case p.Kind == word.Tilde:
			m.text.WriteString("~")
		default:
			m.quote(p.Quoted)
			m.putDollar(p, l[i+1:])
		}
	}
	m.quote(false)
}

// quote opens, or closes, a quoted part; sometimes it closes one to open another.
func (m *maker) quote(open bool) {
	if m.open && (!open || m.maybe()) {
		m.text.WriteString(`"`)
		m.open = false
	}
	if open && !m.open {
		m.text.WriteString(`"`)
		m.open = true
	}
}

func (m *maker) putQuo(s string) {
	if s == "" {
		m.quote(false)
		m.text.WriteString(m.one(`''`, `""`))
		return
	}
	for i := range len(s) {
		c := s[i : i+1]
		switch {
		case m.maybe():
			m.quote(true)
			m.putIn(c, "$`\"\\")
		case c == "'" || m.maybe():
			m.quote(false)
			m.text.WriteString(`\` + c)
		default:
			m.quote(false)
			m.text.WriteString("'" + c + "'" + m.one("", "''", `""`))
		}
	}
}

// putIn puts a byte as a quoted part has it.
func (m *maker) putIn(c, bare string) {
	if strings.Contains(bare, c) {
		c = `\` + c
	}
	m.text.WriteString(c)
}

// putDollar puts a part that begins with a $, and has l behind it.
func (m *maker) putDollar(p word.Part, l []word.Part) {
	lone := len(l) == 0 || l[0].Kind != word.Lit && l[0].Kind != word.Quo || l[0].Text == "" || !lexer.Name("_"+l[0].Text[:1])
	switch {
	case p.Kind == word.Arith:
		m.text.WriteString("$((" + p.Text + "))")
	case p.Op == "len":
		m.text.WriteString("${#" + p.Text + "}")
	case p.Op == "" && p.Text != "12" && (lone || !lexer.Name(p.Text)) && m.maybe():
		m.text.WriteString("$" + p.Text)
	default:
		m.text.WriteString("${" + p.Text + p.Op)
		open := m.open
		m.open = false
		m.put(p.Word)
		m.open = open
		m.text.WriteString("}")
	}
}

func TestPartsByChance(t *testing.T) {
	m := &maker{Rand: rand.New(rand.NewSource(99))}
	for range 40000 {
		want := m.row(0)
		if m.Intn(9) == 0 && (len(want) == 0 || want[0].Kind == word.Lit) {
			if len(want) > 0 {
				want[0].Text = "/" + want[0].Text
			}
			want = append([]word.Part{til()}, want...)
		}
		m.text.Reset()
		m.put(want)
		if got, e := word.Parse(m.text.String()); e != api.OK || !same(got, want) {
			t.Fatalf("Parse(%q):\n%+v, error %d; not\n%+v", m.text.String(), got, e, want)
		}
	}
}

// body makes a here-document's parts, and puts its text.
func (m *maker) body() []word.Part {
	var l []word.Part
	for _, p := range m.row(0) {
		last := len(l) - 1
		if p.Kind != word.Quo && p.Kind != word.Lit {
			p.Quoted = true
			l = append(l, p)
		} else if text := "." + p.Text; last >= 0 && l[last].Kind == word.Quo {
			l[last].Text += text
		} else {
			l = append(l, quo(text))
		}
	}
	m.text.Reset()
	m.open = true
	for i, p := range l {
		if p.Kind != word.Quo {
			m.putDollar(p, l[i+1:])
			continue
		}
		for i := range len(p.Text) {
			m.putIn(p.Text[i:i+1], "$`\\")
		}
	}
	m.open = false
	return l
}

func TestBodiesByChance(t *testing.T) {
	m := &maker{Rand: rand.New(rand.NewSource(929))}
	for range 40000 {
		want := m.body()
		if got, e := word.Body(m.text.String()); e != api.OK || !same(got, want) {
			t.Fatalf("Body(%q):\n%+v, error %d; not\n%+v", m.text.String(), got, e, want)
		}
	}
}

// A word that Parse takes is one that the lexer takes, where no blank, newline or byte of a sign stands.
func TestLexed(t *testing.T) {
	r := rand.New(rand.NewSource(96))
	pieces := []string{"a", "1", "$", "${", "${x-", "${#", "}", "}", "\"", "\"", "'", "'", "\\", "%", ":", "~", "/", "{", "-"}
	taken := 0
	for range 100000 {
		s := chance(r, pieces, 1+r.Intn(9))
		if _, e := word.Parse(s); e != api.OK {
			continue
		}
		taken++
		l, e, _ := lexer.All(s)
		if e != api.OK || len(l) != 2 || l[0].Kind != lexer.Word || l[0].Text != s {
			t.Fatalf("Parse takes %q; All: %+v, error %d", s, l, e)
		}
	}
	if taken < 10000 {
		t.Errorf("only %d were taken", taken)
	}
}
