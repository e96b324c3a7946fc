package glob_test

import (
	"math/rand"
	"regexp"
	"slices"
	"strconv"
	"strings"
	"testing"

	"kinetoscope/glob"
)

// The chapter's words spelt another way: a pattern as an expression of package regexp, its bytes as runes;
// a quoted byte is a rune above all bytes, so that no sign is found in it.

const above = 0x100

var (
	asSet  = regexp.MustCompile(`(?s)^\[(?:(!)(.[^\]]*)|([^!][^\]]*))\]`)
	asSpan = regexp.MustCompile(`(?s)^(.)-(.)`)
)

// runes is a text's bytes as runes.
func runes(s string) string {
	var l []rune
	for i := range len(s) {
		l = append(l, rune(s[i]))
	}
	return string(l)
}

// marked is a pattern's bytes as runes.
func marked(p glob.Pat) string {
	l := []rune(runes(p.Text))
	for i := range l {
		if i < len(p.Mask) && p.Mask[i] == 'q' {
			l[i] += above
		}
	}
	return string(l)
}

// class is a member, or several, of a set of an expression.
func class(low, high rune) string {
	low, high = low%above, high%above
	if low > high {
		return ""
	}
	return `\x{` + strconv.FormatInt(int64(low), 16) + `}-\x{` + strconv.FormatInt(int64(high), 16) + `}`
}

// inSet is a set's members as those of an expression.
func inSet(members string) string {
	said := ""
	for members != "" {
		l := []rune(members)
		if m := asSpan.FindString(members); m != "" {
			said += class(l[0], l[2])
			members = members[len(m):]
			continue
		}
		said += class(l[0], l[0])
		members = string(l[1:])
	}
	return said
}

// expression is a pattern as one, and whether there was any sign in it.
func expression(p glob.Pat) (string, bool) {
	left, said, signs := marked(p), "", false
	for left != "" {
		l := []rune(left)
		m := asSet.FindStringSubmatch(left)
		switch {
		case m != nil && m[1] == "!":
			said += `[^` + inSet(m[2]) + `\x{10000}]`
			left = left[len(m[0]):]
		case m != nil:
			said += `[` + inSet(m[3]) + `\x{10000}]`
			left = left[len(m[0]):]
		case l[0] == '*':
			said += `.*`
			left = left[1:]
		case l[0] == '?':
			said += `.`
			left = left[1:]
		default:
			said += `[` + class(l[0], l[0]) + `]`
			left = string(l[1:])
			continue
		}
		signs = true
	}
	return `(?s)^(?:` + said + `)$`, signs
}

// spelt is a pattern that is asked by its expression.
type spelt struct {
	*regexp.Regexp
	plain  bool
	hidden bool // does it pick names that begin with a point?
}

func spell(p glob.Pat) spelt {
	said, signs := expression(p)
	return spelt{regexp.MustCompile(said), !signs, p.Text != "" && p.Text[0] == '.'}
}

func (x spelt) match(s string) bool {
	return x.MatchString(runes(s))
}

// cut tries all beginnings, or ends, from the shortest on, or from the longest.
func (x spelt) cut(s string, end, longest bool) string {
	for i := range len(s) + 1 {
		n := i
		if longest {
			n = len(s) - i
		}
		if end && x.match(s[len(s)-n:]) {
			return s[:len(s)-n]
		}
		if !end && x.match(s[:n]) {
			return s[n:]
		}
	}
	return s
}

func (x spelt) pick(names []string) []string {
	picked := map[string]int{}
	for _, s := range names {
		if s != "" && (x.hidden || s[0] != '.') && x.match(s) {
			picked[s]++
		}
	}
	var l []string
	for s := range picked {
		l = append(l, s)
	}
	slices.Sort(l)
	return l
}

// alike holds a pattern against its expression.
func alike(t *testing.T, p glob.Pat, texts []string) {
	t.Helper()
	x := spell(p)
	if got := glob.Plain(p); got != x.plain {
		t.Errorf("%q is plain: %t", p, got)
	}
	for _, s := range texts {
		if got := glob.Match(p, s); got != x.match(s) {
			t.Errorf("%q matches %q: %t", p, s, got)
		}
	}
	if got, want := glob.Pick(p, texts...), x.pick(texts); !slices.Equal(got, want) {
		t.Errorf("%q picks %q of %q, not %q", p, got, texts, want)
	}
}

// cutAlike holds what a pattern cuts against its expression.
func cutAlike(t *testing.T, p glob.Pat, s string) {
	t.Helper()
	x := spell(p)
	for _, end := range []bool{false, true} {
		for _, longest := range []bool{false, true} {
			if got, want := glob.Cut(s, p, end, longest), x.cut(s, end, longest); got != want {
				t.Errorf("%q without one of %q (end: %t, longest: %t) is %q, not %q", s, p, end, longest, got, want)
			}
		}
	}
}

// chance is a pattern by chance, of some bytes at most; about every fourth one of them is quoted.
func chance(r *rand.Rand, bytes string, most int) glob.Pat {
	var p glob.Pat
	for range r.Intn(most + 1) {
		i := r.Intn(len(bytes))
		p.Text += bytes[i : i+1]
		p.Mask += []string{"q", "l", "s", "b"}[r.Intn(4)]
	}
	p.Mask = (p.Mask + "qq")[:max(0, len(p.Mask)+r.Intn(4)-1)]
	return p
}

// short is all texts of some bytes at most.
func short(bytes string, most int) []string {
	all := []string{""}
	for from := 0; most > 0; most-- {
		to := len(all)
		for _, s := range all[from:to] {
			for _, c := range strings.Split(bytes, "") {
				all = append(all, s+c)
			}
		}
		from = to
	}
	return all
}

// Every pattern of up to four bytes; small letters tell of quoted ones.
func TestAllShortPatterns(t *testing.T) {
	const letters = "X*?[]!-Yasobnd"
	signs := map[rune]string{'a': "X", 's': "*", 'o': "[", 'b': "]", 'n': "!", 'd': "-"}
	texts := append(short("X-]", 2), "[", "!", "Y", "Z", "*", "?", ".", ".X", "[X]", "[!]", "[]]", "X*Y", "[X", "\xff", "[!X]", "[X-Y", "-]X", "XYXY")
	for _, s := range short(letters, 4) {
		var p glob.Pat
		for _, c := range s {
			if sign, ok := signs[c]; ok {
				p.Text += sign
				p.Mask += "q"
				continue
			}
			p.Text += string(c)
			p.Mask += "l"
		}
		alike(t, p, texts)
	}
}

func TestPatternsByChance(t *testing.T) {
	r := rand.New(rand.NewSource(13))
	for range 20000 {
		p := chance(r, "ab*?[[]]!-.", 14)
		var texts []string
		for range 12 {
			texts = append(texts, chance(r, "ab[]!-.", 5).Text, chance(r, "ab", 9).Text)
		}
		alike(t, p, append(texts, p.Text, near(r, p)))
	}
}

func TestCutsByChance(t *testing.T) {
	r := rand.New(rand.NewSource(14))
	for range 20000 {
		p := chance(r, "aab**?[]!-", 7)
		cutAlike(t, p, chance(r, "ab", 10).Text)
		cutAlike(t, p, chance(r, "aab]-", 10).Text+near(r, p)+chance(r, "ab", 3).Text)
	}
}

// near is a text that a pattern may well match.
func near(r *rand.Rand, p glob.Pat) string {
	s := strings.ReplaceAll(p.Text, "*", chance(r, "ab*", 3).Text)
	s = strings.ReplaceAll(s, "?", []string{"a", "b", "?"}[r.Intn(3)])
	return regexp.MustCompile(`\[[^]]+\]`).ReplaceAllString(s, []string{"a", "-", "]"}[r.Intn(3)])
}
