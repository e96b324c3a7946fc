package split_test

import (
	"math/rand"
	"slices"
	"strings"
	"testing"

	"kinetoscope/split"
)

// splits holds a row's fields, with their letters.
func splits(t *testing.T, r split.Row, ifs string, want ...split.Row) {
	t.Helper()
	if got := split.Split(r, ifs); !slices.Equal(got, want) {
		t.Errorf("%.80q by %.40q: %.200q, not %.200q", r, ifs, got, want)
	}
}

// texts holds the fields of a text, all of whose bytes are s.
func texts(t *testing.T, s, ifs string, want ...string) {
	t.Helper()
	var l []split.Row
	for _, w := range want {
		l = append(l, row(w, strings.Repeat("s", len(w))))
	}
	splits(t, row(s, strings.Repeat("s", len(s))), ifs, l...)
}

// row is a text with its letters.
func row(text, mask string) split.Row { return split.Row{Text: text, Mask: mask} }

// P13.1

func TestSplitExample(t *testing.T) {
	texts(t, "a b::c", " :", "a", "b", "", "c")
	splits(t, split.Of("a b::c", 's'), " :", row("a", "s"), row("b", "s"), row("", ""), row("c", "s"))
}

func TestSplitBlanks(t *testing.T) {
	texts(t, "", " ")
	texts(t, " ", " ")
	texts(t, " \t\n ", " \t\n")
	texts(t, "a", " ", "a")
	texts(t, " a", " ", "a")
	texts(t, "a ", " ", "a")
	texts(t, "  a   bc  ", " ", "a", "bc")
	texts(t, "\ta\nb c\n", " \t\n", "a", "b", "c")
	texts(t, "\ta\nb c", " ", "\ta\nb", "c")
	texts(t, "a\tb\nc d", "\t", "a", "b\nc d")
	texts(t, "a\tb\nc d", "\n", "a\tb", "c d")
}

func TestSplitMarks(t *testing.T) {
	texts(t, ":", ":", "")
	texts(t, "::", ":", "", "")
	texts(t, "a:", ":", "a")
	texts(t, ":a", ":", "", "a")
	texts(t, "a:b", ":", "a", "b")
	texts(t, "a::b", ":", "a", "", "b")
	texts(t, "a::", ":", "a", "")
	texts(t, "::a", ":", "", "", "a")
	texts(t, "a:-b-:c", "-:", "a", "", "b", "", "c")
	texts(t, " a : b ", ":", " a ", " b ")
}

// The first mark behind a blank that ended a field is of that end; a blank behind a mark is of nothing.
func TestSplitBlanksAndMarks(t *testing.T) {
	texts(t, "a :b", " :", "a", "b")
	texts(t, "a: b", " :", "a", "b")
	texts(t, "a : b", " :", "a", "b")
	texts(t, "a \t:\n b", " \t\n:", "a", "b")
	texts(t, "a ::b", " :", "a", "", "b")
	texts(t, "a : :b", " :", "a", "", "b")
	texts(t, "a: :b", " :", "a", "", "b")
	texts(t, "a : : : b", " :", "a", "", "", "b")
	texts(t, " : ", " :", "")
	texts(t, " :: ", " :", "", "")
	texts(t, " : : ", " :", "", "")
	texts(t, " :a", " :", "", "a")
	texts(t, "a :", " :", "a")
	texts(t, "a : ", " :", "a")
	texts(t, "a :: ", " :", "a", "")
	texts(t, "a -: b", " :-", "a", "", "b")
	texts(t, "a b :c", " :", "a", "b", "c")
	texts(t, "a : b :: c", " :", "a", "b", "", "c")
}

// By what separates: what isn't in it is plain; each byte of it counts, whatever it is, how often it is there.
func TestSplitBy(t *testing.T) {
	texts(t, " a:b ", "", " a:b ")
	texts(t, "a b", "x", "a b")
	texts(t, "xaxbx", "x", "", "a", "b")
	texts(t, "a:b c", "::::", "a", "b c")
	texts(t, "a-c", "a-c", "", "", "")
	texts(t, "abc", "a-c", "", "b")
	texts(t, "a\\b", "\\", "a", "b")
	texts(t, "a\x00b\x00", "\x00", "a", "b")
	texts(t, "aéb", "\xc3", "a", "\xa9b")
	texts(t, "aéb", "é", "a", "", "b")
	texts(t, "\xff\xfe", "\xff", "", "\xfe")
	texts(t, "sbe", "b", "s", "e")
	texts(t, "a:b:c", strings.Repeat("x", 5000)+":", "a", "b", "c")
}

// No others than a space, a tab and a newline are blank.
func TestSplitBlankBytes(t *testing.T) {
	for c := range 256 {
		s := string([]byte{byte(c)})
		switch c {
		case ' ', '\t', '\n':
			texts(t, s+"x"+s+s+"y"+s, s, "x", "y")
		case 'x', 'y':
		default:
			texts(t, s+"x"+s+s+"y"+s, s, "", "x", "", "y")
		}
	}
}

// By any letter but s, e and b a byte is plain, and keeps its letter.
func TestSplitLetters(t *testing.T) {
	for c := range 256 {
		m := string([]byte{byte(c)})
		switch c {
		case 's':
			splits(t, row("a :b", "s"+m+m+"s"), " :", row("a", "s"), row("b", "s"))
		case 'e':
			splits(t, row("a :b", "s"+m+m+"s"), " :", row("ab", "ss"))
		case 'b':
			splits(t, row("a :b", "s"+m+m+"s"), " :", row("a", "s"), row("b", "s"))
		default:
			splits(t, row("a :b", "s"+m+m+"s"), " :", row("a :b", "s"+m+m+"s"))
		}
	}
	splits(t, row("a b c", "lqssq"), " ", row("a b", "lqs"), row("c", "q"))
	splits(t, row("a b c", "zs\x00 \xff"), " ", row("a", "z"), row("b c", "\x00 \xff"))
}

// A nothing begins a field, whatever its byte is, and is no byte of it.
func TestSplitNothings(t *testing.T) {
	splits(t, row("x", "e"), " ", row("", ""))
	splits(t, row("xx", "ee"), " ", row("", ""))
	splits(t, row(" ", "e"), " ", row("", ""))
	splits(t, row("\x00", "e"), "", row("", ""))
	splits(t, row("axb", "qel"), " ", row("ab", "ql"))
	splits(t, row("x a", "ess"), " ", row("", ""), row("a", "s"))
	splits(t, row("a x", "sse"), " ", row("a", "s"), row("", ""))
	splits(t, row("x x", "ese"), " ", row("", ""), row("", ""))
	splits(t, row(" x ", "ses"), " ", row("", ""))
	splits(t, row(":x:", "ses"), ":", row("", ""), row("", ""))
	splits(t, row("a x:b", "ssess"), " :", row("a", "s"), row("", ""), row("b", "s"))
	splits(t, row("x::b", "esss"), ":", row("", ""), row("", ""), row("b", "s"))
	splits(t, row("x :b", "esss"), " :", row("", ""), row("b", "s"))
}

// A border ends a field, whatever its byte is; none is there by it alone, and what it ends was ended by no blank.
func TestSplitBorders(t *testing.T) {
	splits(t, row(" ", "b"), " ")
	splits(t, row("   ", "bbb"), " ")
	splits(t, row("a b", "qbq"), "", row("a", "q"), row("b", "q"))
	splits(t, row("a b", "sbs"), " ", row("a", "s"), row("b", "s"))
	splits(t, row("axb", "sbs"), "x", row("a", "s"), row("b", "s"))
	splits(t, row(" a  b ", "bsbbsb"), " ", row("a", "s"), row("b", "s"))
	splits(t, row("x x x", "ebebe"), " ", row("", ""), row("", ""), row("", ""))
	splits(t, row("a :b", "sbss"), " :", row("a", "s"), row("", ""), row("b", "s"))
	splits(t, row("a  :b", "ssbss"), " :", row("a", "s"), row("", ""), row("b", "s"))
	splits(t, row("a  :b", "sbsss"), " :", row("a", "s"), row("", ""), row("b", "s"))
	splits(t, row("a : b", "sssbs"), " :", row("a", "s"), row("b", "s"))
	splits(t, row("a: :b", "ssbss"), " :", row("a", "s"), row("", ""), row("b", "s"))
	splits(t, row(" :", "sb"), " :")
}

// Where Text, or Mask, has more bytes, they count as not there.
func TestSplitUneven(t *testing.T) {
	splits(t, row("abc", "s"), "", row("a", "s"))
	splits(t, row("a b", "ss"), " ", row("a", "s"))
	splits(t, row("a b", ""), " ")
	splits(t, row("", "sebq"), " ")
	splits(t, row("a", "seee"), " ", row("a", "s"))
	splits(t, row("a:", "ssee"), ":", row("a", "s"))
	splits(t, row("a::", "ss"), ":", row("a", "s"))
}

func TestSplitLong(t *testing.T) {
	want := slices.Repeat([]split.Row{row("ab", "ss")}, 50000)
	splits(t, split.Of(strings.Repeat("ab ", 50000), 's'), " ", want...)
	splits(t, split.Of(strings.Repeat("ab:", 50000), 's'), ":", want...)
	long := split.Of(strings.Repeat("ab ", 50000), 'q')
	splits(t, long, " ", long)
}

// Each call's fields are a list of its own.
func TestSplitAnew(t *testing.T) {
	r := split.Of("a b", 's')
	one := split.Split(r, " ")
	one[0] = row("x", "q")
	_ = append(one[:1], row("y", "q"))
	splits(t, r, " ", row("a", "s"), row("b", "s"))
}

// P13.2

// joins holds rows, one behind the other.
func joins(t *testing.T, want split.Row, l ...split.Row) {
	t.Helper()
	if got := split.Join(l...); got != want {
		t.Errorf("%.80q: %.200q, not %.200q", l, got, want)
	}
}

func TestJoin(t *testing.T) {
	joins(t, row("", ""))
	joins(t, row("", ""), row("", ""), row("", ""))
	joins(t, row("ab", "sq"), row("ab", "sq"))
	joins(t, row("a bcx", "sbqle"), row("a", "s"), row(" ", "b"), row("", ""), row("bc", "ql"), row("x", "e"))
	joins(t, row("ba", "qs"), row("b", "q"), row("a", "s"))
	joins(t, row("aa", "ss"), row("a", "s"), row("a", "s"))
	joins(t, row("\x00\xff\xa9", "\xff\x00\xc3"), row("\x00\xff", "\xff\x00"), row("\xa9", "\xc3"))
}

// What is longer in one row doesn't stand for what is shorter in the next one.
func TestJoinUneven(t *testing.T) {
	joins(t, row("a", "s"), row("abc", "s"))
	joins(t, row("a", "s"), row("a", "sql"))
	joins(t, row("", ""), row("abc", ""), row("", "sql"))
	joins(t, row("ad", "sq"), row("abc", "s"), row("d", "ql"))
	joins(t, row("ade", "sql"), row("a", "seb"), row("de", "ql"))
}

func TestJoinLeaves(t *testing.T) {
	l := []split.Row{row("abc", "s"), row("d", "ql"), row("", "")}
	joins(t, row("ad", "sq"), l...)
	if !slices.Equal(l, []split.Row{row("abc", "s"), row("d", "ql"), row("", "")}) {
		t.Errorf("%q", l)
	}
}

func TestOf(t *testing.T) {
	for _, s := range []string{"", "a", "a b", "é", "\x00\xff", strings.Repeat("v", 5000)} {
		for c := range 256 {
			want := row(s, strings.Repeat(string([]byte{byte(c)}), len(s)))
			if got := split.Of(s, byte(c)); got != want {
				t.Errorf("%.20q, %d: %.40q", s, c, got)
			}
		}
	}
	if got := split.Of("aé", 'q'); got != (split.Row{Text: "a\xc3\xa9", Mask: "qqq"}) {
		t.Errorf("%q", got)
	}
}

// bares holds a row's bytes without its nothings and borders.
func bares(t *testing.T, r split.Row, want string) {
	t.Helper()
	if got := split.Bare(r); got != want {
		t.Errorf("%.80q: %.80q, not %.80q", r, got, want)
	}
}

func TestBare(t *testing.T) {
	bares(t, row("", ""), "")
	bares(t, row("a b:c", "sssss"), "a b:c")
	bares(t, row("a b:c", "lqlql"), "a b:c")
	bares(t, row("a b:c", "sbsel"), "abc")
	bares(t, row("abc", "ebe"), "")
	bares(t, row("\x00\xff\x00", "e\xffq"), "\xff\x00")
	bares(t, row("abc", "b"), "")
	bares(t, row("abc", "s"), "a")
	bares(t, row("a", "sqq"), "a")
	bares(t, row("a", ""), "")
	bares(t, row("", "sq"), "")
	for c := range 256 {
		want := "a b"
		if c == 'e' || c == 'b' {
			want = "ab"
		}
		bares(t, row("a b", "s"+string([]byte{byte(c)})+"s"), want)
	}
}

// P13.3

// borders is a text with a border between each two pieces, and ahead of the first one and behind the last one.
func borders(pieces ...split.Row) split.Row {
	r := split.Of(" ", 'b')
	for _, p := range pieces {
		r = split.Join(r, p, split.Of(" ", 'b'))
	}
	return r
}

func TestBetweenBorders(t *testing.T) {
	splits(t, borders(row("a b", "sss"), row("c:d", "qsl"), row("x", "e")), "", row("a b", "sss"), row("c:d", "qsl"), row("", ""))
	splits(t, borders(row("a b", "qlq"), row(" : ", "qqq"), row("\t", "l")), " :\t", row("a b", "qlq"), row(" : ", "qqq"), row("\t", "l"))
}

// There are none where none separates, and where none is of the letter s.
func TestBetweenBordersByChance(t *testing.T) {
	r := rand.New(rand.NewSource(133))
	for range 20000 {
		by := [][2]string{{"", "ssqlz"}, {all(), "qlz\xff"}, {"-.", "ssqlz"}}[r.Intn(3)]
		var pieces []split.Row
		for range r.Intn(6) {
			text := byChance(r, "ab :\t\n\x00\xff", 9) + "x"
			pieces = append(pieces, row(text, exactly(r, by[1], len(text))))
		}
		splits(t, borders(pieces...), by[0], pieces...)
	}
}
