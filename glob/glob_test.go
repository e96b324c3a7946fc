package glob_test

import (
	"math/rand"
	"slices"
	"strings"
	"testing"

	"kinetoscope/glob"
)

// pat is a pattern of which nothing is quoted.
func pat(text string) glob.Pat {
	return glob.Pat{Text: text}
}

// quoted is a pattern of which what stands within < and > is quoted.
func quoted(marked string) glob.Pat {
	var p glob.Pat
	letter := "l"
	for _, c := range strings.Split(marked, "") {
		switch c {
		case "<":
			letter = "q"
		case ">":
			letter = "l"
		default:
			p.Text += c
			p.Mask += letter
		}
	}
	return p
}

// matches holds that a pattern matches all of the texts.
func matches(t *testing.T, p glob.Pat, texts ...string) {
	t.Helper()
	for _, s := range texts {
		if !glob.Match(p, s) {
			t.Errorf("%.90q does not match %.90q", p, s)
		}
	}
}

// fails holds that a pattern matches none of the texts.
func fails(t *testing.T, p glob.Pat, texts ...string) {
	t.Helper()
	for _, s := range texts {
		if glob.Match(p, s) {
			t.Errorf("%.90q matches %.90q", p, s)
		}
	}
}

// members holds which bytes a pattern matches, each by itself.
func members(t *testing.T, p glob.Pat, want string) {
	t.Helper()
	for i := range 256 {
		c := string([]byte{byte(i)})
		if got := glob.Match(p, c); got != strings.Contains(want, c) {
			t.Errorf("%q matches %q: %t", p, c, got)
		}
	}
	fails(t, p, "", want+want, want+"\x00")
}

// others is all bytes but some.
func others(but string) string {
	var b []byte
	for i := range 256 {
		if strings.IndexByte(but, byte(i)) < 0 {
			b = append(b, byte(i))
		}
	}
	return string(b)
}

// cuts holds what is left of a text without the shortest, and without the longest, beginning of a pattern, or end.
func cuts(t *testing.T, s string, p glob.Pat, end bool, shortest, longest string) {
	t.Helper()
	if got := glob.Cut(s, p, end, false); got != shortest {
		t.Errorf("%.90q without the shortest of %.90q (end: %t) is %.90q, not %.90q", s, p, end, got, shortest)
	}
	if got := glob.Cut(s, p, end, true); got != longest {
		t.Errorf("%.90q without the longest of %.90q (end: %t) is %.90q, not %.90q", s, p, end, got, longest)
	}
}

// picks holds which names a pattern picks, of names apart by spaces.
func picks(t *testing.T, p glob.Pat, names, want string) {
	t.Helper()
	if got := glob.Pick(p, strings.Split(names, " ")...); strings.Join(got, " ") != want || len(got) != len(strings.Fields(want)) {
		t.Errorf("%q picks %q of %q, not %q", p, got, names, want)
	}
}

// P11.1

func TestExample(t *testing.T) {
	matches(t, pat("a*[0-9]"), "a7", "abc7", "a*7", "a00")
	fails(t, pat("a*[0-9]"), "", "a", "7", "a7b", "ba7", "A7")
}

func TestPlain(t *testing.T) {
	for _, s := range []string{"", "a", "abc", "]", "!", "-", "[", "[]", "[!]", "[!", "[a", "a[b", "[[", "a]b", "[-", "!]", "a-z", "^", "\\", "{a}", "~", "\x00", "\xff", "a\nb", "é"} {
		if !glob.Plain(pat(s)) {
			t.Errorf("%q isn't plain", s)
		}
	}
	for _, s := range []string{"*", "?", "a*", "*a", "a?b", "**", "[a]", "[a]b", "a[b]", "[]]", "[!]]", "[!a]", "[!!]", "[-]", "[[]", "[]a]", "[c-a]", "[a*", "[?", "[]*", "[!]*", "]*", "[a][", "[*]", "[?]"} {
		if glob.Plain(pat(s)) {
			t.Errorf("%q is plain", s)
		}
	}
}

func TestPlainQuoted(t *testing.T) {
	for _, s := range []string{"<*>", "<?>", "<[>a]", "[a<]>", "<[a]>", "<*?[a]>", "a<*>b", "[<]>", "[!<]>", "[a<]]>", "<[>!a]", "[]<]>"} {
		if p := quoted(s); !glob.Plain(p) {
			t.Errorf("%q isn't plain", p)
		}
	}
	for _, s := range []string{"<*>*", "*<*>", "<a>?", "[<a>]", "[<]>]", "[<!>]", "[<*>]", "[a<]>]", "<[>[a]", "[a<->b]", "[!<]>]", "[<]>a]"} {
		if p := quoted(s); glob.Plain(p) {
			t.Errorf("%q is plain", p)
		}
	}
}

func TestBytesThemselves(t *testing.T) {
	matches(t, pat(""), "")
	fails(t, pat(""), "a", " ", "\x00")
	matches(t, pat("abc"), "abc")
	fails(t, pat("abc"), "", "ab", "bc", "abcd", "xabc", "abC", "acb")
	for i := range 256 {
		c := string([]byte{byte(i)})
		if c == "*" || c == "?" {
			continue
		}
		members(t, pat(c), c)
	}
	matches(t, pat("é"), "é")
	fails(t, pat("\xc3"), "é", "\xa9")
	matches(t, pat("a\n\x00b"), "a\n\x00b")
	matches(t, pat("\\*"), "\\", "\\a")
	fails(t, pat("\\*"), "*")
}

func TestStars(t *testing.T) {
	matches(t, pat("*"), "", "a", "abc", "\x00\xff\n", ".a", "/", "a/b", "*", "[")
	matches(t, pat("**"), "", "a", "ab")
	matches(t, pat("a*"), "a", "ab", "aa", "a*")
	fails(t, pat("a*"), "", "b", "ba")
	matches(t, pat("*a"), "a", "ba", "aa", "aba")
	fails(t, pat("*a"), "", "b", "ab")
	matches(t, pat("a*b"), "ab", "axb", "abb", "aab", "abab")
	fails(t, pat("a*b"), "a", "b", "", "aba", "bab", "xab")
	fails(t, pat("aa*a"), "aa")
	fails(t, pat("ab*ba"), "aba")
	matches(t, pat("ab*ba"), "abba", "abcba", "abababa")
	matches(t, pat("*a*b*c*"), "abc", "xaxbxcx", "aabbcc", "cbabcab_c")
	fails(t, pat("*a*b*c*"), "acb", "ab", "bca", "")
	matches(t, pat("*ab*ab*"), "abab", "xabyabz")
	fails(t, pat("*ab*ab*"), "ab", "aab", "abba")
	matches(t, pat("a*ab"), "aab", "aaab", "aabab")
	matches(t, pat("*aab"), "aaab", "aaaaab")
	fails(t, pat("a**b**a"), "ab", "aa")
	matches(t, pat("a**b**a"), "aba", "abba", "aabaa")
}

func TestSingles(t *testing.T) {
	members(t, pat("?"), others(""))
	matches(t, pat("??"), "ab", "é", "\x00\x00", "??")
	fails(t, pat("??"), "", "a", "abc")
	matches(t, pat("a?c"), "abc", "a?c", "acc", "a\nc", "a.c", "a/c")
	fails(t, pat("a?c"), "ac", "abbc")
	matches(t, pat("?*"), "a", "ab")
	fails(t, pat("?*"), "")
	matches(t, pat("*?"), "a", "ab")
	fails(t, pat("*?"), "")
	matches(t, pat("*??b?*"), "aabc", "aabbb", "xaabcx")
	fails(t, pat("*??b?*"), "abc", "aab", "bbb")
	matches(t, pat(".?"), "..", ".a")
	matches(t, pat("?a"), ".a")
}

func TestSets(t *testing.T) {
	members(t, pat("[a]"), "a")
	members(t, pat("[abc]"), "abc")
	members(t, pat("[aab]"), "ab")
	members(t, pat("[*?]"), "*?")
	members(t, pat("[[]"), "[")
	members(t, pat("[a[]"), "a[")
	members(t, pat("[.]"), ".")
	members(t, pat("[\\]"), "\\")
	members(t, pat("[^a]"), "^a")
	members(t, pat("[/]"), "/")
	members(t, pat("[\n\x00\xff]"), "\n\x00\xff")
	members(t, pat("[é]"), "\xc3\xa9")
	matches(t, pat("x[ab]y"), "xay", "xby")
	fails(t, pat("x[ab]y"), "xy", "xcy", "xaby", "x[ab]y")
	matches(t, pat("[a][b]"), "ab")
	fails(t, pat("[a][b]"), "a", "b", "ba")
	matches(t, pat("[[:alpha:]]"), "a]", ":]", "[]", "l]")
	fails(t, pat("[[:alpha:]]"), "a", "b", "b]")
}

func TestTurnedSets(t *testing.T) {
	members(t, pat("[!a]"), others("a"))
	members(t, pat("[!abc]"), others("abc"))
	members(t, pat("[!a-c]"), others("abc"))
	members(t, pat("[!!]"), others("!"))
	members(t, pat("[!!a]"), others("!a"))
	members(t, pat("[!-]"), others("-"))
	members(t, pat("[!-a]"), others("-a"))
	members(t, pat("[!!-#]"), others("!\"#"))
	members(t, pat("[!c-a]"), others(""))
	members(t, pat("[!\x00-\xff]"), "")
	members(t, pat("[a!]"), "a!")
	members(t, pat("[!.]"), others("."))
	members(t, pat("[!*]"), others("*"))
}

// A ] that stands first is a member.
func TestEnds(t *testing.T) {
	members(t, pat("[]]"), "]")
	members(t, pat("[]a]"), "]a")
	members(t, pat("[!]]"), others("]"))
	members(t, pat("[!]a]"), others("]a"))
	members(t, pat("[]-a]"), "]^_`a")
	members(t, pat("[]-]"), "]-")
	members(t, pat("[][]"), "][")
	members(t, pat("[]!]"), "]!")
	matches(t, pat("[a]]"), "a]")
	fails(t, pat("[a]]"), "a", "]")
	matches(t, pat("[]]]"), "]]")
	fails(t, pat("[]]]"), "]")
	matches(t, pat("[a-]]"), "a]", "-]")
	fails(t, pat("[a-]]"), "a", "-", "]", "b]")
	matches(t, pat("[!a]]"), "b]", "]]")
}

func TestSpans(t *testing.T) {
	members(t, pat("[a-c]"), "abc")
	members(t, pat("[a-a]"), "a")
	members(t, pat("[c-a]"), "")
	members(t, pat("[c-ab]"), "b")
	members(t, pat("[0-9a-c]"), "0123456789abc")
	members(t, pat("[a-cx]"), "abcx")
	members(t, pat("[xa-c]"), "xabc")
	members(t, pat("[a-]"), "a-")
	members(t, pat("[-a]"), "-a")
	members(t, pat("[-]"), "-")
	members(t, pat("[--]"), "-")
	members(t, pat("[---]"), "-")
	members(t, pat("[--/]"), "-./")
	members(t, pat("[+--]"), "+,-")
	members(t, pat("[a-c-e]"), "abc-e")
	members(t, pat("[a-c-]"), "abc-")
	members(t, pat("[a-cb-d]"), "abcd")
	members(t, pat("[!-#]"), others("-#")) // the ! is no member
	members(t, pat("[a!-#]"), "a!\"#")
	members(t, pat("[*-,]"), "*+,")
	members(t, pat("[Y-[]"), "YZ[")
	members(t, pat("[\x00-\xff]"), others(""))
	members(t, pat("[\xf0-\xff]"), others("")[0xf0:])
	members(t, pat("[\x00-\x1f]"), others("")[:0x20])
	members(t, pat("[\xff-\x00]"), "")
	members(t, pat("[a-\x00]"), "")
}

// A [ without an end is itself; what stands behind it is what it is.
func TestWithoutEnd(t *testing.T) {
	for _, s := range []string{"[", "[[", "[a", "[]", "[!", "[!]", "[-", "[a-", "a[", "[a-z", "[!a", "a[!]", "[[!"} {
		matches(t, pat(s), s)
		fails(t, pat(s), "", "a", "]", "!", "-", s+s, s[1:])
	}
	matches(t, pat("[a*"), "[a", "[abc", "[a*")
	fails(t, pat("[a*"), "a", "[", "[b")
	matches(t, pat("[?"), "[a", "[?", "[[")
	fails(t, pat("[?"), "[", "?", "[ab")
	matches(t, pat("[!]?"), "[!]a")
	matches(t, pat("[]*"), "[]", "[]a")
	fails(t, pat("[]*"), "]", "*")
	matches(t, pat("[a][b"), "a[b")
	fails(t, pat("[a][b"), "ab", "[a][b")
	matches(t, pat("[][b]c"), "]c", "[c", "bc")
	matches(t, pat("[a[b]"), "a", "[", "b")
	fails(t, pat("[a[b]"), "[a[", "[aa", "[ab")
	members(t, pat("[[[!]"), "[!")
	matches(t, pat("*["), "[", "a[")
	matches(t, pat("[!]a*]"), "b", "[") // here the ] that stands first is a member
}

func TestQuoted(t *testing.T) {
	matches(t, quoted("a<*>"), "a*")
	fails(t, quoted("a<*>"), "a", "ab", "a**")
	matches(t, quoted("<?>"), "?")
	fails(t, quoted("<?>"), "a", "")
	matches(t, quoted("<*>*"), "*", "*a", "**")
	fails(t, quoted("<*>*"), "", "a", "a*")
	matches(t, quoted("*<*>"), "*", "a*")
	fails(t, quoted("*<*>"), "", "a", "*a")
	matches(t, quoted("<[>a]"), "[a]")
	fails(t, quoted("<[>a]"), "a")
	matches(t, quoted("<[>a]*"), "[a]", "[a]b")
	matches(t, quoted("<[>[a]"), "[a")
	matches(t, quoted("[a<]>"), "[a]")
	fails(t, quoted("[a<]>"), "a", "]")
	matches(t, quoted("<a>b<c>"), "abc")
	fails(t, quoted("<a>"), "b")
	members(t, quoted("[<a>b]"), "ab")
	members(t, quoted("[<*?>]"), "*?")
	members(t, quoted("[<[>]"), "[")
	members(t, quoted("[<]>]"), "]")
	members(t, quoted("[a<]>]"), "a]")
	members(t, quoted("[a<]>b]"), "a]b")
	members(t, quoted("[<]]>]"), "]")
	members(t, quoted("[!a<]>]"), others("a]"))
	matches(t, quoted("[]<]>"), "[]]")
	fails(t, quoted("[]<]>"), "]")
	matches(t, quoted("[]<]>]]"), "]]")
	matches(t, quoted("[<a]>*"), "[a]", "[a]b")
}

func TestQuotedInSpans(t *testing.T) {
	members(t, quoted("[a<->c]"), "a-c")
	members(t, quoted("[<a>-c]"), "abc")
	members(t, quoted("[a-<c>]"), "abc")
	members(t, quoted("[<a>-<c>]"), "abc")
	members(t, quoted("[<a-c>]"), "a-c")
	members(t, quoted("[Z-<]>]"), "Z[\\]")
	members(t, quoted("[Z-<]>a]"), "Z[\\]a")
	members(t, quoted("[a-<]>]"), "")
	members(t, quoted("[a-<]>b]"), "b")
	members(t, quoted("[<->-/]"), "-./")
	members(t, quoted("[+-<->]"), "+,-")
	members(t, quoted("[<]>-a]"), "]^_`a")
	members(t, quoted("[]<->a]"), "]-a")
	members(t, quoted("[!a<->c]"), others("a-c"))
}

// A ! turns a set where it is a sign: where it isn't quoted.
func TestQuotedTurn(t *testing.T) {
	members(t, quoted("[<!>]"), "!")
	members(t, quoted("[<!>a]"), "!a")
	members(t, quoted("[<!>-#]"), "!\"#")
	members(t, quoted("[!<!>]"), others("!"))
	matches(t, quoted("[<!>]]"), "!]")
	fails(t, quoted("[<!>]]"), "!", "a", "]")
	matches(t, quoted("<[>!a]"), "[!a]")
}

// Only a q tells of a quoted byte; a mask may be shorter than its text, and longer.
func TestMasks(t *testing.T) {
	for i := range 256 {
		c := string([]byte{byte(i)})
		p := glob.Pat{Text: "a*", Mask: "l" + c}
		if got := glob.Match(p, "ab"); got == (c == "q") {
			t.Errorf("%q: %t", p, got)
		}
		if got := glob.Plain(p); got != (c == "q") {
			t.Errorf("%q: plain: %t", p, got)
		}
	}
	matches(t, glob.Pat{Text: "**", Mask: "q"}, "*", "*a")
	fails(t, glob.Pat{Text: "**", Mask: "q"}, "a")
	matches(t, glob.Pat{Text: "a*", Mask: "q"}, "ab")
	matches(t, glob.Pat{Text: "a*", Mask: "llqqq"}, "ab")
	matches(t, glob.Pat{Text: "[a]", Mask: "lllq"}, "a")
	matches(t, glob.Pat{Text: "", Mask: "qqq"}, "")
	fails(t, glob.Pat{Text: "", Mask: "qqq"}, "q", "qqq")
	matches(t, glob.Pat{Text: "[a]", Mask: "q"}, "[a]")
	matches(t, glob.Pat{Text: "[a-c]", Mask: "sbe\x00s"}, "b")
}

// A way back over stars would not end here.
func TestSteps(t *testing.T) {
	row := strings.Repeat("a", 20000)
	fails(t, pat(strings.Repeat("a*", 5000)+"b"), row, row+"c")
	matches(t, pat(strings.Repeat("a*", 5000)+"b"), row+"b")
	fails(t, pat(strings.Repeat("*a", 5000)+"*b"), row)
	fails(t, pat(strings.Repeat("*?", 5000)+"b*"), row)
	fails(t, pat(strings.Repeat("*[!b]", 5000)+"b*a"), row)
	fails(t, pat("*"+row[:2000]+"b"), row)
	fails(t, pat("*"+row[:2000]+"b*"), row)
	matches(t, pat(strings.Repeat("*", 20000)), "", row)
	fails(t, pat(strings.Repeat("*", 20000)+"b"), row)
	cuts(t, row, pat(strings.Repeat("a*", 5000)+"b"), false, row, row)
	cuts(t, row, pat("b"+strings.Repeat("*a", 5000)), true, row, row)
	cuts(t, row, pat(strings.Repeat("a*", 5000)), false, row[5000:], "")
	cuts(t, row, pat(strings.Repeat("*a", 5000)), true, row[5000:], "")
}

// A row of what may begin a set is gone over once.
func TestLongPatterns(t *testing.T) {
	for _, s := range []string{strings.Repeat("[", 1<<20), strings.Repeat("[!", 1<<19), strings.Repeat("[a", 1<<19), "]" + strings.Repeat("[", 1<<20), strings.Repeat("[", 1<<20) + "!"} {
		matches(t, pat(s), s)
		fails(t, pat(s), "", "[", s+"[", s[1:])
	}
	matches(t, pat("*"+strings.Repeat("[", 1<<20)), strings.Repeat("[", 1<<20))
	members(t, pat(strings.Repeat("[", 1<<12)+"]"), "[")
	members(t, pat("["+strings.Repeat("a-b", 1<<12)+"]"), "ab")
	matches(t, pat("*"), strings.Repeat("a", 1<<22))
	matches(t, pat(strings.Repeat("?", 1<<20)), strings.Repeat("a", 1<<20))
	fails(t, pat(strings.Repeat("?", 1<<20)), strings.Repeat("a", 1<<20-1))
}

// P11.2

func TestCutBeginnings(t *testing.T) {
	cuts(t, "abab", pat("*b"), false, "ab", "")
	cuts(t, "abab", pat("a*"), false, "bab", "")
	cuts(t, "abab", pat("a*b"), false, "ab", "")
	cuts(t, "abab", pat("*a"), false, "bab", "b")
	cuts(t, "abab", pat("ab"), false, "ab", "ab")
	cuts(t, "abab", pat("b"), false, "abab", "abab")
	cuts(t, "abab", pat("abab"), false, "", "")
	cuts(t, "abab", pat("ababa"), false, "abab", "abab")
	cuts(t, "abab", pat("?"), false, "bab", "bab")
	cuts(t, "abab", pat("????"), false, "", "")
	cuts(t, "abab", pat("?????"), false, "abab", "abab")
	cuts(t, "abab", pat("[!b]"), false, "bab", "bab")
	cuts(t, "a/b/c", pat("*/"), false, "b/c", "c")
	cuts(t, "aXbXc", pat("*X*"), false, "bXc", "")
	cuts(t, "aaaa", pat("a*a"), false, "aa", "")
	cuts(t, "aaab", pat("*a"), false, "aab", "b")
	cuts(t, "xababay", pat("*a*a"), false, "bay", "y")
	cuts(t, "abcabcabx", pat("a*b"), false, "cabcabx", "x")
	cuts(t, "ab\x00\xffc", pat("*[\xf0-\xff]"), false, "c", "c")
}

func TestCutEnds(t *testing.T) {
	cuts(t, "xaba", pat("a*"), true, "xab", "x")
	cuts(t, "abab", pat("a*"), true, "ab", "")
	cuts(t, "abab", pat("*b"), true, "aba", "")
	cuts(t, "abab", pat("b*"), true, "aba", "a")
	cuts(t, "abab", pat("a*b"), true, "ab", "")
	cuts(t, "abab", pat("ab"), true, "ab", "ab")
	cuts(t, "abab", pat("ba"), true, "abab", "abab")
	cuts(t, "abab", pat("abab"), true, "", "")
	cuts(t, "abab", pat("xabab"), true, "abab", "abab")
	cuts(t, "abab", pat("?"), true, "aba", "aba")
	cuts(t, "abab", pat("????"), true, "", "")
	cuts(t, "abab", pat("?????"), true, "abab", "abab")
	cuts(t, "a/b/c", pat("/*"), true, "a/b", "a")
	cuts(t, "abc.tar.gz", pat(".*"), true, "abc.tar", "abc")
	cuts(t, "aXbXc", pat("*X*"), true, "aXb", "")
	cuts(t, "abc", pat("[a-c]c"), true, "a", "a")
	cuts(t, "abcd", pat("[b]?d"), true, "a", "a")
	cuts(t, "yababax", pat("a*a*"), true, "yab", "y")
	cuts(t, "abc", pat("cb"), true, "abc", "abc")
	cuts(t, "a[b", pat("[b"), true, "a", "a")
}

// The empty text is a beginning, and an end, as the whole is.
func TestCutNothing(t *testing.T) {
	for _, end := range []bool{false, true} {
		cuts(t, "abc", pat("*"), end, "abc", "")
		cuts(t, "abc", pat("**"), end, "abc", "")
		cuts(t, "abc", pat(""), end, "abc", "abc")
		cuts(t, "", pat(""), end, "", "")
		cuts(t, "", pat("*"), end, "", "")
		cuts(t, "", pat("?"), end, "", "")
		cuts(t, "", pat("a"), end, "", "")
		cuts(t, "x", pat("y*"), end, "x", "x")
		cuts(t, "x", pat("[z-a]*"), end, "x", "x")
		cuts(t, "abc", pat("abc"), end, "", "")
		cuts(t, "abc", pat("*abc*"), end, "", "")
		cuts(t, "abc", pat("*abcd*"), end, "abc", "abc")
		cuts(t, "abc", pat("[!]*"), end, "abc", "abc")
	}
}

func TestCutQuoted(t *testing.T) {
	cuts(t, "*a*", quoted("<*>"), false, "a*", "a*")
	cuts(t, "*a*", quoted("<*>"), true, "*a", "*a")
	cuts(t, "*a*", quoted("<*>*"), false, "a*", "")
	cuts(t, "*a*", quoted("*<*>"), true, "*a", "")
	cuts(t, "ab*", quoted("<*>"), false, "ab*", "ab*")
	cuts(t, "-a-c", quoted("[a<->]"), false, "a-c", "a-c")
	cuts(t, "x[a]", quoted("<[>a]"), true, "x", "x")
	cuts(t, "xa", quoted("[a<]>]"), true, "x", "x")
}

// P11.3

func TestPick(t *testing.T) {
	picks(t, pat("*"), "b a c", "a b c")
	picks(t, pat("a*"), "b ab a xa aa", "a aa ab")
	picks(t, pat("?"), "b ab a", "a b")
	picks(t, pat("[ab]"), "c b a ab", "a b")
	picks(t, pat("*.go"), "a.go b.c .go a.goo go", "a.go")
	picks(t, pat("b"), "a b c", "b")
	picks(t, pat("x*"), "a b c", "")
	picks(t, pat(""), "a b", "")
	picks(t, quoted("<*>"), "a * **", "*")
	picks(t, pat("a/*"), "a/b a b", "a/b")
}

func TestPickRising(t *testing.T) {
	picks(t, pat("*"), "b B a A _ 10 9 1 - ab aB", "- 1 10 9 A B _ a aB ab b")
	picks(t, pat("*"), "é z \xff \x80 \x01", "\x01 z \x80 é \xff")
}

func TestPickOnce(t *testing.T) {
	picks(t, pat("*"), "b a b a a b", "a b")
	picks(t, pat("a"), "a a a", "a")
	picks(t, pat("[ab]*"), "b ab b c ab c b", "ab b")
}

func TestPickHidden(t *testing.T) {
	names := ". .. .a .b a a. .*"
	picks(t, pat("*"), names, "a a.")
	picks(t, pat("?"), names, "a")
	picks(t, pat("??"), names, "a.")
	picks(t, pat("[.]*"), names, "")
	picks(t, pat("[!a]*"), names, "")
	picks(t, pat("[--/]a"), names, "")
	picks(t, pat("*a"), names, "a")
	picks(t, pat(".*"), names, ". .* .. .a .b")
	picks(t, pat(".?"), names, ".* .. .a .b")
	picks(t, pat(".a"), names, ".a")
	picks(t, pat("."), names, ".")
	picks(t, quoted("<.>*"), names, ". .* .. .a .b")
	picks(t, quoted("<.*>"), names, ".*")
	picks(t, quoted("<.a>"), names, ".a")
	picks(t, pat("*.*"), names, "a.")
}

func TestPickEmpty(t *testing.T) {
	for _, p := range []glob.Pat{pat(""), pat("*"), pat("**"), quoted("<*>*"), pat(".*")} {
		if l := glob.Pick(p); len(l) != 0 {
			t.Errorf("%q picks %q of none", p, l)
		}
		if l := glob.Pick(p, ""); len(l) != 0 {
			t.Errorf("%q picks %q", p, l)
		}
		if l := glob.Pick(p, "", "", ""); len(l) != 0 {
			t.Errorf("%q picks %q", p, l)
		}
	}
	picks(t, pat("*"), " a  b ", "a b")
}

// Rule 3 of the whole: the names that are handed in stay as they are, and what is picked is a list of its own.
func TestPickKeeps(t *testing.T) {
	names := []string{"c", "a", "b", "a", ".d", ""}
	same := slices.Clone(names)
	l := glob.Pick(pat("*"), names...)
	if !slices.Equal(names, same) {
		t.Errorf("%q", names)
	}
	for i := range l {
		l[i] = "z"
	}
	if _ = append(l, "z", "z", "z"); !slices.Equal(names, same) {
		t.Errorf("%q", names)
	}
	if l := glob.Pick(pat("*"), names...); !slices.Equal(l, []string{"a", "b", "c"}) {
		t.Errorf("%q", l)
	}
}

// P11.4

func TestPlainMatchesItself(t *testing.T) {
	r := rand.New(rand.NewSource(11))
	const bytes = "ab[]!-*?.\x00\xff"
	plain := 0
	for range 50000 {
		p := chance(r, bytes, 8)
		if !glob.Plain(p) {
			continue
		}
		plain++
		matches(t, p, p.Text)
		for range 5 {
			if s := chance(r, bytes, 8).Text; s != p.Text {
				fails(t, p, s)
			}
		}
		fails(t, p, p.Text+"a", "a"+p.Text, p.Text+p.Text+"]")
		if p.Text != "" {
			fails(t, p, "", p.Text[1:], p.Text[:len(p.Text)-1])
		}
	}
	if plain < 5000 {
		t.Errorf("%d plain ones", plain)
	}
}

// Rule 1 of the whole: every call ends, whatever its bytes are.
func TestAllBytes(t *testing.T) {
	r := rand.New(rand.NewSource(12))
	for range 20000 {
		b := make([]byte, r.Intn(24))
		for i := range b {
			b[i] = byte(r.Intn(256))
		}
		p := glob.Pat{Text: string(b[:len(b)/2]), Mask: string(b[len(b)/3:])}
		s := string(b[len(b)/2:])
		if glob.Plain(p) && glob.Match(p, s) != (p.Text == s) {
			t.Errorf("%q, %q", p, s)
		}
		if got := glob.Cut(s, p, true, true); !strings.HasPrefix(s, got) {
			t.Errorf("%q without an end of %q: %q", s, p, got)
		}
		if got := glob.Cut(s, p, false, false); !strings.HasSuffix(s, got) {
			t.Errorf("%q without a beginning of %q: %q", s, p, got)
		}
		glob.Pick(p, s, s)
	}
}
