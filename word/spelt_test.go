package word_test

import (
	"math/rand"
	"regexp"
	"strings"
	"testing"

	"kinetoscope/api"
	"kinetoscope/word"
)

// The chapter's words spelt another way: by what stands at a text's beginning, and what is left then.

const (
	name   = `([A-Za-z_][A-Za-z0-9_]*|[0-9?#@*-])`
	braced = `([A-Za-z_][A-Za-z0-9_]*|[0-9]+|[?#@*-])`
)

var (
	asLength = regexp.MustCompile(`^#` + name + `\}`)
	asPlain  = regexp.MustCompile(`^` + braced + `\}`)
	asOp     = regexp.MustCompile(`^` + braced + `(:[-=?+]|%%|##|[-=?+%#])`)
	asName   = regexp.MustCompile(`^` + name)
	asTilde  = regexp.MustCompile(`^~(/|\z)`)
	asSingle = regexp.MustCompile(`^'([^']*)'`)
)

// spelling is how far a text was gone through: what was told, what is left, what was wrong.
type spelling struct {
	parts []word.Part
	left  string
	e     api.Errno
}

// and is a spelling with parts behind those, and that left.
func (p spelling) and(left string, l ...word.Part) spelling {
	return spelling{append(p.parts, l...), left, api.OK}
}

// spellParse and spellBody are as Parse and Body.
func spellParse(raw string) ([]word.Part, api.Errno) {
	p := spelling{left: raw}
	if asTilde.MatchString(raw) {
		p = p.and(raw[1:], til())
	}
	return spellAll(p, "", 0).told()
}

func spellBody(s string) ([]word.Part, api.Errno) {
	return spellQuoted(spelling{left: s}, "", "$`\\").told()
}

func (p spelling) told() ([]word.Part, api.Errno) {
	if p.e != api.OK {
		return nil, p.e
	}
	return merged(p.parts), api.OK
}

// merged is parts whose texts behind each other are one.
func merged(l []word.Part) []word.Part {
	if len(l) == 0 {
		return nil
	}
	rest := merged(l[1:])
	if len(rest) > 0 && rest[0].Kind == l[0].Kind && (l[0].Kind == word.Lit || l[0].Kind == word.Quo) {
		rest[0].Text = l[0].Text + rest[0].Text
		return rest
	}
	return append([]word.Part{l[0]}, rest...)
}

// spellAll is the parts of a raw word up to an end, which is none of theirs.
func spellAll(p spelling, end string, deep int) spelling {
	for p.e == api.OK {
		s := p.left
		if s == "" && end == "" {
			return p
		}
		if s == "" {
			return spelling{e: api.ErrForm}
		}
		if s[:1] == end {
			return p.and(s[1:])
		}
		p = spellOne(p, deep)
	}
	return p
}

func spellOne(p spelling, deep int) spelling {
	s := p.left
	if m := asSingle.FindStringSubmatch(s); m != nil {
		return p.and(s[len(m[0]):], quo(m[1]))
	}
	if s[0] == '\\' && len(s) > 1 {
		return p.and(s[2:], quo(s[1:2]))
	}
	if len(s) > 1 && s[:2] == `""` {
		return p.and(s[2:], quo(""))
	}
	switch s[0] {
	case '\\', '\'', '`':
		return spelling{e: api.ErrForm}
	case '"':
		p.left = s[1:]
		return spellQuoted(p, `"`, "$`\"\\", deep)
	case '$':
		return spellDollar(p, deep, lit("$"))
	}
	return p.and(s[1:], lit(s[:1]))
}

// spellQuoted is a quoted part's content up to an end.
func spellQuoted(p spelling, end, bare string, deep ...int) spelling {
	in := append(deep, 0)[0]
	for p.e == api.OK {
		s := p.left
		switch {
		case s == "" && end == "":
			return p
		case s == "", s == `\`, s[0] == '`':
			return spelling{e: api.ErrForm}
		case s[:1] == end:
			return p.and(s[1:])
		case s[0] == '\\' && strings.Contains(bare, s[1:2]):
			p = p.and(s[2:], quo(s[1:2]))
		case s[0] == '\\':
			p = p.and(s[2:], quo(s[:2]))
		case s[0] == '$':
			p = spellDollar(p, in, quo("$"))
		default:
			p = p.and(s[1:], quo(s[:1]))
		}
	}
	return p
}

// spellDollar is what a $ is; by itself that part.
func spellDollar(p spelling, deep int, alone word.Part) spelling {
	s := p.left[1:]
	quoted := alone.Kind == word.Quo
	if m := asName.FindString(s); m != "" {
		return p.and(s[len(m):], word.Part{Kind: word.Param, Text: m, Quoted: quoted})
	}
	switch {
	case len(s) > 1 && s[:2] == "((":
		text, left, ok := spellReckoned(s[2:])
		if !ok {
			return spelling{e: api.ErrForm}
		}
		return p.and(left, word.Part{Kind: word.Arith, Text: text, Quoted: quoted})
	case len(s) > 0 && s[0] == '(':
		return spelling{e: api.ErrForm}
	case len(s) > 0 && s[0] == '{':
		one := spellBrace(s[1:], deep+1)
		if one.e != api.OK {
			return one
		}
		one.parts[0].Quoted = quoted
		return p.and(one.left, one.parts...)
	}
	return p.and(s, alone)
}

// spellReckoned is the text up to the first place where all parentheses are closed and two more close.
func spellReckoned(s string) (string, string, bool) {
	open := 0
	for i := 0; i < len(s); i++ {
		switch {
		case s[i] == '(':
			open++
		case s[i] == ')' && open > 0:
			open--
		case s[i] == ')':
			if i+1 < len(s) && s[i+1] == ')' {
				return s[:i], s[i+2:], true
			}
			return "", "", false
		}
	}
	return "", "", false
}

// spellBrace is the one part that a brace is, the deep-th one.
func spellBrace(s string, deep int) spelling {
	if deep > api.MaxWord {
		return spelling{e: api.ErrDeep}
	}
	if m := asLength.FindStringSubmatch(s); m != nil {
		return spelling{}.and(s[len(m[0]):], with(m[1], "len"))
	}
	if m := asPlain.FindStringSubmatch(s); m != nil {
		return spelling{}.and(s[len(m[0]):], par(m[1]))
	}
	m := asOp.FindStringSubmatch(s)
	if m == nil {
		return spelling{e: api.ErrForm}
	}
	in := spellAll(spelling{left: s[len(m[0]):]}, "}", deep)
	if in.e != api.OK {
		return in
	}
	return spelling{}.and(in.left, with(m[1], m[2], merged(in.parts)...))
}

// agree holds that a text is told as it is spelt.
func agree(t *testing.T, s string) {
	t.Helper()
	got, e := word.Parse(s)
	if want, f := spellParse(s); e != f || !same(got, want) {
		t.Fatalf("Parse(%q):\n%+v, error %d; not\n%+v, error %d", s, got, e, want, f)
	}
	got, e = word.Body(s)
	if want, f := spellBody(s); e != f || !same(got, want) {
		t.Fatalf("Body(%q):\n%+v, error %d; not\n%+v, error %d", s, got, e, want, f)
	}
}

// rows calls what with each row of up to n of the pieces, behind s.
func rows(s string, pieces []string, n int, what func(string)) {
	what(s)
	if n == 0 {
		return
	}
	for _, p := range pieces {
		rows(s+p, pieces, n-1, what)
	}
}

func TestShortOnes(t *testing.T) {
	const bytes = "a1_$\\'\"`~/{}()#-:% "
	pieces := make([]string, len(bytes))
	for i := range bytes {
		pieces[i] = bytes[i : i+1]
	}
	rows("", pieces, 4, func(s string) {
		agree(t, s)
		agree(t, "${"+s)
		agree(t, "${x"+s)
		agree(t, "${x"+s+"}")
		agree(t, `"`+s+`"`)
		agree(t, "$(("+s+"))")
	})
}

func TestRowsOfPieces(t *testing.T) {
	rows("", []string{"${", "}", "x", "-", "#", "\"", "'", "$", "$((", "))", "\\"}, 5, func(s string) { agree(t, s) })
}

func TestDeepRows(t *testing.T) {
	rows("", []string{"${x", "-", "}", "\"", "!", "${a-", "`"}, 4, func(s string) {
		for n := 5; n <= 8; n++ {
			agree(t, braces(n, s))
		}
	})
}

func TestByChance(t *testing.T) {
	r := rand.New(rand.NewSource(909))
	pieces := []string{"${x-", "${#", "${12", "${", "}", "}", "}", "x", "_y", "1", "23", ":-", ":", "=", "?", "+", "%", "#", "@", "*", "-", "\"", "\"", "'", "'", "$", "$((", "(", ")", "))", "\\", "~", "/", " ", "\n", "`", "é", "\xff", "!"}
	for range 300000 {
		agree(t, chance(r, pieces, 1+r.Intn(24)))
	}
}
