package expand_test

import (
	"math/rand"
	"slices"
	"strings"
	"testing"

	"kinetoscope/api"
	"kinetoscope/arith"
	"kinetoscope/env"
	"kinetoscope/expand"
	"kinetoscope/glob"
	"kinetoscope/split"
)

// wide is an Env that has some of all; z and zz are not set.
func wide() env.Env {
	e := env.Env{Args: []string{"p q", "", "r"}, Status: 12, Flags: "f"}
	for _, v := range [][2]string{{"x", "a b"}, {"n", "7"}, {"E", ""}, {"HOME", "/h"}, {"star", "*"}, {"path", "a/b/c"}, {"bad", "1x"}} {
		e = e.Set(v[0], v[1])
	}
	return e
}

// args is an Env with these arguments instead.
func args(e env.Env, l ...string) env.Env {
	e.Args = l
	return e
}

// sames holds an Env.
func sames(t *testing.T, what string, got, want env.Env) {
	t.Helper()
	if !env.Same(got, want) {
		t.Errorf("%.90q: the Env is %+v, not %+v", what, got, want)
	}
}

// fields holds a word's fields, as texts and letters, by turns, and that nothing is set.
func fields(t *testing.T, e env.Env, raw string, want ...string) {
	t.Helper()
	turns(t, e, e, raw, want...)
}

// turns holds a word's fields, as texts and letters, by turns, and the Env behind it.
func turns(t *testing.T, e, then env.Env, raw string, want ...string) {
	t.Helper()
	l, got, f := expand.Fields(e, raw)
	var told []string
	for _, r := range l {
		told = append(told, r.Text, r.Mask)
	}
	if f != (expand.Fault{}) || !slices.Equal(told, want) {
		t.Errorf("%.90q: %.300q, %+v, not %.300q", raw, told, f, want)
	}
	sames(t, raw, got, then)
}

// one holds a word as a text.
func one(t *testing.T, e env.Env, raw, want string) {
	t.Helper()
	if s, got, f := expand.One(e, raw); s != want || f != (expand.Fault{}) || !env.Same(got, e) {
		t.Errorf("%.90q: %.90q, %+v, %+v, not %.90q", raw, s, f, got, want)
	}
}

// sets holds a word as a text, and what it sets, as names and values, by turns.
func sets(t *testing.T, e env.Env, raw, want string, l ...string) {
	t.Helper()
	s, got, f := expand.One(e, raw)
	if s != want || f != (expand.Fault{}) {
		t.Errorf("%.90q: %.90q, %+v, not %.90q", raw, s, f, want)
	}
	for ; len(l) > 0; l = l[2:] {
		e = e.Set(l[0], l[1])
	}
	sames(t, raw, got, e)
}

// pattern holds a word as a pattern.
func pattern(t *testing.T, e env.Env, raw, text, mask string) {
	t.Helper()
	if p, got, f := expand.Pattern(e, raw); p.Text != text || p.Mask != mask || f != (expand.Fault{}) || !env.Same(got, e) {
		t.Errorf("%.90q: %.90q, %+v, %+v, not %.90q %.90q", raw, p, f, got, text, mask)
	}
}

// body holds a here-document.
func body(t *testing.T, e env.Env, s, want string) {
	t.Helper()
	if got, then, f := expand.Body(e, s, false); got != want || f != (expand.Fault{}) || !env.Same(then, e) {
		t.Errorf("%.90q: %.90q, %+v, %+v, not %.90q", s, got, f, then, want)
	}
}

// faults holds that a word is one, and that there is nothing else, for all calls.
func faults(t *testing.T, e env.Env, raw string, errno api.Errno, text string) {
	t.Helper()
	want := expand.Fault{E: errno, Text: text}
	if l, got, f := expand.Fields(e, raw); f != want || len(l) != 0 || !env.Same(got, e) {
		t.Errorf("Fields of %.90q: %.90q, %+v, %+v, not %+v", raw, l, got, f, want)
	}
	if s, got, f := expand.One(e, raw); f != want || s != "" || !env.Same(got, e) {
		t.Errorf("One of %.90q: %.90q, %+v, %+v, not %+v", raw, s, got, f, want)
	}
	if p, got, f := expand.Pattern(e, raw); f != want || p != (glob.Pat{}) || !env.Same(got, e) {
		t.Errorf("Pattern of %.90q: %.90q, %+v, %+v, not %+v", raw, p, got, f, want)
	}
}

// bodyFaults holds that a here-document is one, and that there is nothing else.
func bodyFaults(t *testing.T, e env.Env, s string, errno api.Errno, text string) {
	t.Helper()
	want := expand.Fault{E: errno, Text: text}
	if told, got, f := expand.Body(e, s, false); f != want || told != "" || !env.Same(got, e) {
		t.Errorf("Body of %.90q: %.90q, %+v, %+v, not %+v", s, told, got, f, want)
	}
}

// P15.1

func TestExample(t *testing.T) {
	e := env.Env{}.Set("x", "a b")
	fields(t, e, "$x", "a", "s", "b", "s")
	fields(t, e, "\"$x\"", "a b", "qqq")
}

// What stands in a script by itself is never split, quoted or not; only quotes make a field of nothing.
func TestTexts(t *testing.T) {
	e := wide().Set("IFS", "ab ")
	fields(t, e, "")
	fields(t, e, "abc", "abc", "lll")
	fields(t, e, "a b", "a b", "lll")
	fields(t, e, "a\\ b", "a b", "lql")
	fields(t, e, "'a b'", "a b", "qqq")
	fields(t, e, "\"a b\"", "a b", "qqq")
	fields(t, e, "a'b'\"a\"b", "abab", "lqql")
	fields(t, e, "''", "", "")
	fields(t, e, "\"\"", "", "")
	fields(t, e, "''\"\"''", "", "")
	fields(t, e, "a''b", "ab", "ll")
	fields(t, e, "''a", "a", "l")
	fields(t, e, "a\"\"", "a", "l")
	fields(t, e, "'\x00'", "\x00", "q")
	fields(t, e, "\x00", "\x00", "l")
	fields(t, e, "$", "$", "l")
	fields(t, e, "\"$\"", "$", "q")
	fields(t, e, "a*[b]?", "a*[b]?", "llllll")
	fields(t, e, "\"\\$x\\a\"", "$x\\a", "qqqq")
	fields(t, e, "{a}", "{a}", "lll")
}

// A field of nothing that stands beside one of something is none.
func TestNothings(t *testing.T) {
	e := wide()
	fields(t, e, "''$E", "", "")
	fields(t, e, "$E''", "", "")
	fields(t, e, "\"$E\"", "", "")
	fields(t, e, "$E")
	fields(t, e, "$E$z$E")
	fields(t, e, "$E\"$E\"$E", "", "")
	fields(t, e, "''$x", "a", "s", "b", "s")
	fields(t, e.Set("x", " a "), "''$x''", "", "", "a", "s", "", "")
	fields(t, e.Set("x", " "), "''$x''", "", "", "", "")
	fields(t, e.Set("x", " "), "$x")
}

func TestTilde(t *testing.T) {
	e := wide()
	fields(t, e, "~", "/h", "qq")
	fields(t, e, "~/a", "/h/a", "qqll")
	fields(t, e, "~/$x", "/h/a", "qqls", "b", "s")
	fields(t, e.Set("HOME", "a b*"), "~", "a b*", "qqqq")
	fields(t, e.Set("HOME", ""), "~", "", "")
	fields(t, e.Set("HOME", ""), "~/a", "/a", "ll")
	fields(t, e.Unset("HOME"), "~", "~", "l")
	fields(t, e.Unset("HOME"), "~/a", "~/a", "lll")
	fields(t, e.Unset("HOME").Set("IFS", "~"), "~", "~", "l")
	fields(t, e.Unset("HOME").Flag('u', true), "~", "~", "l")
	fields(t, e, "~a", "~a", "ll")
	fields(t, e, "a~", "a~", "ll")
	fields(t, e, "'~'", "~", "q")
	fields(t, e, "\"~\"", "~", "q")
	fields(t, e, "\\~", "~", "q")
	fields(t, e, "''~", "~", "l")
	fields(t, e, "${z-~}", "~", "s")
}

func TestArith(t *testing.T) {
	e := wide()
	fields(t, e, "$((n*6))", "42", "ss")
	fields(t, e, "\"$((n*6))\"", "42", "qq")
	fields(t, e, "$(($n-${n}-1))", "-1", "ss")
	fields(t, e, "$((z+E))", "0", "s")
	fields(t, e, "$((1<<63))", "-9223372036854775808", strings.Repeat("s", 20))
	fields(t, e, "$(((2)*(3)))a", "6a", "sl")
	fields(t, e.Set("IFS", "2"), "$((1230))", "1", "s", "30", "ss")
	fields(t, e.Set("IFS", "2"), "\"$((1230))\"", "1230", "qqqq")
	fields(t, e.Set("IFS", "-"), "$((0-5))", "", "", "5", "s")
	fields(t, e.Flag('u', true), "$((z))", "0", "s")
	fields(t, e, "$((1||bad))", "1", "s")
	fields(t, e, "${z-$((n))}", "7", "s")
	turns(t, e, e.Set("z", "8"), "${z:=8}$((z*2))", "816", "sss")
}

func TestArithFaults(t *testing.T) {
	e := wide()
	faults(t, e, "$((1/0))", api.ErrZero, "1/0")
	faults(t, e, "$((1%z))", api.ErrZero, "1%z")
	faults(t, e, "a\"b$(( n / 0 ))\"", api.ErrZero, " n / 0 ")
	faults(t, e, "$((1+))", api.ErrForm, "1+")
	faults(t, e, "$(())", api.ErrForm, "")
	faults(t, e, "$((bad))", api.ErrForm, "bad")
	faults(t, e, "$((x))", api.ErrForm, "x")
	deep := strings.Repeat("(", 41) + "1" + strings.Repeat(")", 41)
	faults(t, e, "$(("+deep+"))", api.ErrDeep, deep)
	fields(t, e, "$(("+deep[1:len(deep)-1]+"))", "1", "s")
	faults(t, e, "${z-$((1/0))}", api.ErrZero, "1/0")
	faults(t, e, "\"${z-$((1/0))}\"", api.ErrZero, "1/0")
	faults(t, e, "${x%$((1/0))}", api.ErrZero, "1/0")
	faults(t, e, "${E##$((1/0))}", api.ErrZero, "1/0")
	faults(t, e, "${z=$((1/0))}", api.ErrZero, "1/0")
}

func TestArguments(t *testing.T) {
	e := wide()
	for _, all := range []string{"$@", "$*", "${@}", "${*}"} {
		fields(t, e, all, "p", "s", "q", "s", "r", "s")
		fields(t, e, "a"+all+"b", "ap", "ls", "q", "s", "rb", "sl")
		fields(t, args(e), all)
		fields(t, args(e), "''"+all, "", "")
		fields(t, args(e), all+"a", "a", "l")
		fields(t, args(e, ""), all)
		fields(t, args(e, "", ""), all)
		fields(t, args(e, "", ""), "''"+all, "", "")
		fields(t, args(e, "", ""), "''"+all+"''", "", "", "", "")
		fields(t, args(e, "a", "", "b"), all, "a", "s", "b", "s")
		fields(t, args(e, "a b", "c:d").Set("IFS", ":"), all, "a b", "sss", "c", "s", "d", "s")
		fields(t, args(e, "a b", "c").Set("IFS", ""), all, "a b", "sss", "c", "s")
		fields(t, args(e, "a:", "", ":b").Set("IFS", ":"), all, "a", "s", "", "", "b", "s")
		fields(t, args(e).Flag('u', true), all)
	}
	fields(t, args(e, "a", "b"), "$@$@", "a", "s", "ba", "ss", "b", "s")
	fields(t, args(e, strings.Split("0123456789ab", "")...), "$1$10${10}${12}", "0009b", "sslss")
}

func TestQuotedArguments(t *testing.T) {
	e := wide()
	for _, all := range []string{"$@", "${@}"} {
		fields(t, e, "\""+all+"\"", "p q", "qqq", "", "", "r", "q")
		fields(t, e, "\"a"+all+"b\"", "ap q", "qqqq", "", "", "rb", "qq")
		fields(t, e, "\""+all+all+"\"", "p q", "qqq", "", "", "rp q", "qqqq", "", "", "r", "q")
		fields(t, args(e), "\""+all+"\"")
		fields(t, args(e), "\""+all+all+"\"$z")
		fields(t, args(e), "''\""+all+"\"", "", "")
		fields(t, args(e), "\"a"+all+"\"", "a", "q")
		fields(t, args(e, ""), "\""+all+"\"", "", "")
		fields(t, args(e, "", ""), "\""+all+"\"", "", "", "", "")
		fields(t, args(e, "", "", ""), "a\""+all+"\"b", "a", "l", "", "", "b", "l")
		fields(t, args(e, "a b", " c").Set("IFS", ""), "\""+all+"\"", "a b", "qqq", " c", "qq")
		fields(t, args(e).Flag('u', true), "\""+all+"\"")
	}
	fields(t, e, "\"$@\"$@", "p q", "qqq", "", "", "rp", "qs", "q", "s", "r", "s")
}

// Quoted, `$*` is one text: without arguments, too.
func TestQuotedStar(t *testing.T) {
	e := wide()
	for _, all := range []string{"$*", "${*}"} {
		fields(t, e, "\""+all+"\"", "p q  r", "qqqqqq")
		fields(t, e.Set("IFS", ":x"), "\"a"+all+"\"", "ap q::r", "qqqqqqq")
		fields(t, e.Set("IFS", ""), "\""+all+"\"", "p qr", "qqqq")
		fields(t, args(e), "\""+all+"\"", "", "")
		fields(t, args(e).Flag('u', true), "\""+all+"\"", "", "")
		fields(t, args(e, ""), "\""+all+"\"", "", "")
		fields(t, args(e, "", ""), "\""+all+"\"", " ", "q")
	}
}

func TestValues(t *testing.T) {
	e := wide()
	fields(t, e, "${x}", "a", "s", "b", "s")
	fields(t, e, "c${x}d", "ca", "ls", "bd", "sl")
	fields(t, e, "\"c${x}d\"", "ca bd", "qqqqq")
	fields(t, e, "$star", "*", "s")
	fields(t, e, "\"$star\"", "*", "q")
	fields(t, e, "$z")
	fields(t, e, "${z}")
	fields(t, e, "\"$z\"", "", "")
	fields(t, e, "\"a${z}\"", "a", "q")
	fields(t, e, "$n$n", "77", "ss")
	fields(t, e, "$1", "p", "s", "q", "s")
	fields(t, e, "$2")
	fields(t, e, "\"$2\"", "", "")
	fields(t, e, "${3}$4", "r", "s")
	fields(t, e, "$0$?$#$-", "sh123f", "ssssss")
	fields(t, e, "\"$0$?$#$-\"", "sh123f", "qqqqqq")
	fields(t, e, "${0}${?}${#}${-}", "sh123f", "ssssss")
	fields(t, e.Set("x", "a:b: c").Set("IFS", ": "), "$x", "a", "s", "b", "s", "c", "s")
	fields(t, e.Set("x", "a b").Set("IFS", ""), "$x", "a b", "sss")
	fields(t, e.Set("x", "\x00\xff"), "$x", "\x00\xff", "ss")
	fields(t, e.Set("x", "$n'\"\\"), "$x", "$n'\"\\", "sssss")
}

// With the flag u it is a fault where what isn't set is asked for, but by an operation that is for that.
func TestFlagU(t *testing.T) {
	e := args(wide(), "one").Flag('u', true)
	for _, raw := range []string{"$z", "${z}", "\"$z\"", "a${#z}", "\"${#z}\"", "${z%a}", "${z%%a}", "${z#a}", "\"${z##a}\"", "${x-$z}$z", "${zz-$z}", "${z%$((1/0))}", "$n$z$zz", "${E:-$z}", "${E%$z}", "${zz=$z}"} {
		faults(t, e, raw, api.ErrName, "z")
	}
	faults(t, e, "$2", api.ErrName, "2")
	faults(t, e, "${12}", api.ErrName, "12")
	faults(t, e, "${#3}", api.ErrName, "3")
	faults(t, e, "${01}", api.ErrName, "01")
	fields(t, e, "${z-a}${z:-a}", "aa", "ss")
	fields(t, e, "${z+a}${z:+a}")
	turns(t, e, e.Set("z", "a"), "${z=a}$z", "aa", "ss")
	turns(t, e, e.Set("z", "a"), "${z:=a}$z", "aa", "ss")
	fields(t, e, "$E\"$E\"${#E}", "0", "s")
	fields(t, e, "$0$?$#$-$1", "sh121fuone", "ssssssssss")
	e = args(e)
	fields(t, e, "$@$*${@}${*}")
	fields(t, e, "\"$*\"", "", "")
	fields(t, e, "${#@}${#*}", "00", "ss")
	fields(t, e, "${@%a}${*#a}")
	fields(t, e, "\"${@%%a}${*##a}\"", "", "")
	faults(t, e, "$1", api.ErrName, "1")
	for _, flags := range []string{"", "e", "f", "x", "efx"} {
		e.Flags = flags
		fields(t, e, "$z")
		fields(t, e, "${#z}", "0", "s")
	}
	e.Flags = "efux"
	faults(t, e, "$z", api.ErrName, "z")
}

func TestLen(t *testing.T) {
	e := wide()
	fields(t, e, "${#x}", "3", "s")
	fields(t, e, "\"${#x}\"", "3", "q")
	fields(t, e, "${#E}${#z}${#HOME}", "002", "sss")
	fields(t, e, "${#1}${#2}${#3}${#4}", "3010", "ssss")
	fields(t, e, "${#0}${#?}${##}${#-}", "2211", "ssss")
	fields(t, e, "${#@}${#*}", "66", "ss")
	fields(t, e, "\"${#@}${#*}\"", "66", "qq")
	fields(t, args(e, "a", "b").Set("IFS", ""), "${#@}${#*}", "22", "ss")
	fields(t, e.Set("x", "é\x00"), "${#x}", "3", "s")
	fields(t, e.Set("x", strings.Repeat("a", 1234)).Set("IFS", "2"), "${#x}", "1", "s", "34", "ss")
}

func TestTrims(t *testing.T) {
	e := wide()
	fields(t, e, "${path%/*}", "a/b", "sss")
	fields(t, e, "${path%%/*}", "a", "s")
	fields(t, e, "${path#*/}", "b/c", "sss")
	fields(t, e, "${path##*/}", "c", "s")
	fields(t, e, "\"${path##*/}\"", "c", "q")
	fields(t, e, "${path%x}", "a/b/c", "sssss")
	fields(t, e, "${path%}", "a/b/c", "sssss")
	fields(t, e, "${path%%*}")
	fields(t, e, "\"${path%%*}\"", "", "")
	fields(t, e, "${x#a}", "b", "s")
	fields(t, e, "\"${x#a}\"", " b", "qq")
	fields(t, e, "${x% b}", "a", "s")
	fields(t, e, "${x#'a '}", "b", "s")
	fields(t, e, "${E%a}")
	fields(t, e, "\"${E#a}\"", "", "")
	fields(t, e, "${z%a}${z##a}")
	fields(t, e, "\"${z%%a}\"", "", "")
	fields(t, e.Set("IFS", "/"), "${path%/*}", "a", "s", "b", "s")
	fields(t, e, "${1%q}", "p", "s")
	fields(t, e, "\"${@%r}\"", "p q  ", "qqqqq")
	fields(t, e.Set("IFS", ":"), "${*#p q:}", "", "", "r", "s")
	fields(t, e, "\"${*##*q}\"", "  r", "qqq")
	fields(t, e, "${?#1}${#%3}${##3}${-%%f}${0##s}", "2h", "ss")
}

// What is quoted in a pattern's word, or in what it comes to, is no sign there; what isn't, is one.
func TestTrimsByWords(t *testing.T) {
	e := wide().Set("v", "a*b*c").Set("pat", "*b")
	fields(t, e, "${v#*\\*}", "b*c", "sss")
	fields(t, e, "${v#*'*'}", "b*c", "sss")
	fields(t, e, "${v##*\"*\"}", "c", "s")
	fields(t, e, "${v#$pat}", "*c", "ss")
	fields(t, e, "\"${v#$pat}\"", "*c", "qq")
	fields(t, e, "${v#\"$pat\"}", "a*b*c", "sssss")
	fields(t, e, "${v#a\"$star\"}", "b*c", "sss")
	fields(t, e, "${v##a$star}")
	fields(t, e, "${v##a${z-*}}")
	fields(t, e, "${v##a${z-'*'}}", "b*c", "sss")
	fields(t, e, "${v##a${z-\"*\"}}", "b*c", "sss")
	fields(t, e, "${v##a\"${z-*}\"}", "b*c", "sss")
	fields(t, e, "${v#''a''}", "*b*c", "ssss")
	fields(t, e, "${v#\"$E\"a}", "*b*c", "ssss")
	fields(t, e.Set("v", "\x00a"), "${v#''}", "\x00a", "ss")
	fields(t, e.Set("v", "\x00a"), "${v#\"$E\"}", "\x00a", "ss")
	fields(t, args(e, "a", "b").Set("v", "a bc"), "${v#$@}", "c", "s")
	fields(t, args(e, "a", "b").Set("v", "a bc"), "${v#\"$@\"}", "c", "s")
	fields(t, args(e, "a", "b").Set("v", "a bc").Set("IFS", ""), "${v#$*}", "c", "s")
	fields(t, args(e, "*", "*").Set("v", "a bc"), "${v##$@}")
	fields(t, args(e, "*", "*").Set("v", "* *c"), "${v##\"$@\"}", "c", "s")
	fields(t, e.Set("v", "7x"), "${v#$((n))}", "x", "s")
	fields(t, e.Set("v", "~x"), "${v#~}", "x", "s")
	turns(t, e, e.Set("z", "a"), "${v#${z=a}}$z", "*b*ca", "sssss")
	turns(t, e, e.Set("E", "q"), "${E#${E:=q}}$E", "q", "s")
	fields(t, e, "${z%${z=a}}$z")
}

// A word instead of a parameter: what stands bare in it is split, what is quoted isn't, and arguments stay apart.
func TestWords(t *testing.T) {
	e := wide()
	fields(t, e, "${z-c d}", "c", "s", "d", "s")
	fields(t, e, "${z:-c d}", "c", "s", "d", "s")
	fields(t, e, "${E-c d}")
	fields(t, e, "${E:-c d}", "c", "s", "d", "s")
	fields(t, e, "${n-c d}${n:-c d}", "77", "ss")
	fields(t, e, "${n+c d}", "c", "s", "d", "s")
	fields(t, e, "${n:+c d}", "c", "s", "d", "s")
	fields(t, e, "${E+c d}", "c", "s", "d", "s")
	fields(t, e, "${E:+c d}${z+c d}${z:+c d}")
	fields(t, e, "${z-'c d'e f}", "c de", "qqqs", "f", "s")
	fields(t, e, "${z-\"c d\"\\ e}", "c d e", "qqqqs")
	fields(t, e, "a${z-c d}b", "ac", "ls", "db", "sl")
	fields(t, e, "a${z- }b", "a", "l", "b", "l")
	fields(t, e, "a${z-}b", "ab", "ll")
	fields(t, e, "${z-}${z:-}${n+}${n:+}")
	fields(t, e, "${z-''}", "", "")
	fields(t, e, "${z-\"\"}", "", "")
	fields(t, e, "${z-\"$E\"}", "", "")
	fields(t, e, "${z-$x}", "a", "s", "b", "s")
	fields(t, e, "${z-\"$x\"}", "a b", "qqq")
	fields(t, e, "${z-$@}", "p", "s", "q", "s", "r", "s")
	fields(t, e, "${z-\"$@\"}", "p q", "qqq", "", "", "r", "q")
	fields(t, e, "${z-a\"$@\"b}", "ap q", "sqqq", "", "", "rb", "qs")
	fields(t, args(e), "${z-\"$@\"}")
	fields(t, args(e, "a:b", "c").Set("IFS", ":"), "${z-$@}", "a", "s", "b", "s", "c", "s")
	fields(t, args(e, "a", "b").Set("IFS", ""), "${z-$@:}", "a", "s", "b:", "ss")
	fields(t, e.Set("IFS", "l"), "${z-alb}l", "a", "s", "bl", "sl")
	fields(t, e.Set("IFS", "q"), "${z-aqb'q'}", "a", "s", "bq", "sq")
	fields(t, e, "${9-c}${1+d}${4:-e}", "cde", "sss")
	fields(t, e, "${@-c}", "p", "s", "q", "s", "r", "s")
	fields(t, args(e), "${@-c}${*:-d}", "cd", "ss")
	fields(t, args(e, ""), "${@-c}${@:-d}${@+e}${*:+f}", "de", "ss")
	fields(t, args(e), "${@+c}${*:+d}")
	fields(t, e, "${#-c}${?:-d}${0:+e}${-+f}", "312ef", "sssss")
}

// Within quotes a word is one text; of nothing, too.
func TestQuotedWords(t *testing.T) {
	e := wide()
	fields(t, e, "\"${z-c d}\"", "c d", "qqq")
	fields(t, e, "\"${z:-c d}\"", "c d", "qqq")
	fields(t, e, "\"${n+c d}e\"", "c de", "qqqq")
	fields(t, e, "\"${z-'c d'}\"", "c d", "qqq")
	fields(t, e, "\"${z-\"c d\"}\"", "c d", "qqq")
	fields(t, e, "\"${z-*\\*}\"", "**", "qq")
	fields(t, e, "\"${z-}\"", "", "")
	fields(t, e, "\"${z-''}\"", "", "")
	fields(t, e, "\"${z-$E}\"", "", "")
	fields(t, e, "\"${z-''a\"\"}\"", "a", "q")
	fields(t, e, "\"${z+a}\"", "", "")
	fields(t, e, "\"${z:+a}${E:+b}\"", "", "")
	fields(t, e, "\"${z-$x}\"", "a b", "qqq")
	fields(t, e, "\"${z-$@}\"", "p q  r", "qqqqqq")
	fields(t, e, "\"${z-\"$@\"}\"", "p q  r", "qqqqqq")
	fields(t, e.Set("IFS", ":"), "\"${z-$@}\"", "p q  r", "qqqqqq")
	fields(t, e.Set("IFS", ":"), "\"${z-\"$*\"}\"", "p q::r", "qqqqqq")
	fields(t, args(e), "\"${z-\"$@\"}\"", "", "")
	fields(t, args(e), "\"${@-a b}\"", "a b", "qqq")
}

// What is assigned is put as a value is: its quotes are gone, so it may be split.
func TestAssigns(t *testing.T) {
	e := wide()
	turns(t, e, e.Set("z", "c d"), "${z=c d}", "c", "s", "d", "s")
	turns(t, e, e.Set("z", "c d"), "${z='c d'}", "c", "s", "d", "s")
	turns(t, e, e.Set("z", "c d"), "\"${z=c d}\"", "c d", "qqq")
	turns(t, e, e.Set("z", "c d"), "\"${z:='c d'}\"", "c d", "qqq")
	turns(t, e, e.Set("z", ""), "${z=}")
	turns(t, e, e.Set("z", ""), "\"${z=}\"", "", "")
	turns(t, e, e.Set("z", ""), "${z=''}")
	turns(t, e, e.Set("z", "a"), "${z=''a\"$E\"}", "a", "s")
	turns(t, e, e.Set("z", "p q  r"), "${z=$@}", "p", "s", "q", "s", "r", "s")
	turns(t, e, e.Set("z", "p q  r"), "\"${z=$@}\"", "p q  r", "qqqqqq")
	turns(t, e.Set("IFS", ":"), e.Set("IFS", ":").Set("z", "p q  r"), "${z=\"$@\"}", "p q  r", "ssssss")
	turns(t, e.Set("IFS", ":"), e.Set("IFS", ":").Set("z", "p q::r"), "${z=\"$*\"}", "p q", "sss", "", "", "r", "s")
	turns(t, e, e.Set("E", "1"), "${E:=1}$E", "11", "ss")
	fields(t, e, "a${E=1}", "a", "l")
	fields(t, e, "${n=1}${n:=1}", "77", "ss")
	turns(t, e, e.Set("z", "7").Set("zz", "7"), "${z=${zz=$n}}${zz}", "77", "ss")
	turns(t, e, e.Set("z", "56"), "${z=${z=5}6}$z", "5656", "ssss")
	turns(t, e, e.Set("z", "5"), "${z=5}${z=6}${z+7}", "557", "sss")
	turns(t, e, e.Set("zz", "5"), "${z-${zz:=5}}${n+$zz}", "55", "ss")
	turns(t, e, e.Set("_1", "a"), "${_1=a}", "a", "s")
}

// Only a variable may be assigned; that is known ahead of the word.
func TestAssignFaults(t *testing.T) {
	e := args(wide(), "", "b")
	for _, name := range []string{"1", "9", "12", "01"} {
		faults(t, e, "${"+name+":=a}", api.ErrName, name)
		faults(t, e, "\"${"+name+":=a}\"", api.ErrName, name)
		faults(t, e, "${"+name+":=$((1/0))}", api.ErrName, name)
		faults(t, e, "${"+name+":=${z?}}", api.ErrName, name)
	}
	faults(t, e, "${3=a}", api.ErrName, "3")
	fields(t, e, "${1=a}")
	fields(t, e, "${2=a}${2:=a}${0=a}${0:=a}${?=a}${#:=a}", "bbshsh122", "sssssssss")
	e = args(e)
	e.Flags = ""
	faults(t, e, "${-:=a}", api.ErrName, "-")
	fields(t, e, "${-=a}")
	for _, op := range []string{"=", ":="} {
		faults(t, e, "${@"+op+"a}", api.ErrName, "@")
		faults(t, e, "\"${*"+op+"a}\"", api.ErrName, "*")
	}
	faults(t, args(e, ""), "${@:=a}", api.ErrName, "@")
	fields(t, args(e, ""), "${@=a}")
}

func TestFails(t *testing.T) {
	e := wide()
	for _, raw := range []string{"${z?}", "${z?a b}", "${z:?}", "\"${z?}\"", "a\"${z:?b}\"", "${z?$((1/0))}", "${z?${zz=1}}", "${z:?${zz?}}", "${zz-${z?}}", "$x${z?}$((1/0))", "${zz=1}${z?}"} {
		faults(t, e, raw, api.ErrName, "z")
	}
	faults(t, e, "${E:?a}", api.ErrName, "E")
	faults(t, e, "${9?}", api.ErrName, "9")
	faults(t, e, "${2:?}", api.ErrName, "2")
	faults(t, args(e), "${@?}", api.ErrName, "@")
	faults(t, args(e), "\"${*:?}\"", api.ErrName, "*")
	faults(t, args(e, ""), "${@:?}", api.ErrName, "@")
	fields(t, e, "${E?a}${n?$((1/0))}${n:?a}", "77", "ss")
	fields(t, e, "\"${x:?a}\"", "a b", "qqq")
}

// The first fault from the left on is told, of what is needed; and nothing is set.
func TestFirstFault(t *testing.T) {
	e := wide().Flag('u', true)
	faults(t, e, "$((1/0))$z", api.ErrZero, "1/0")
	faults(t, e, "$z$((1/0))", api.ErrName, "z")
	faults(t, e, "${z=1}${z}${zz?}", api.ErrName, "zz")
	faults(t, e, "${1:+a}${9:=b}${8?}", api.ErrName, "9")
	faults(t, e, "${z=a}$(($z))", api.ErrForm, "$z")
	faults(t, e, "${z=0}$((1/z))", api.ErrZero, "1/z")
	faults(t, e, "${z=1}${zz=${z}$((2/0))}", api.ErrZero, "2/0")
	fields(t, e, "${x+}${x:+}${n-$zz}${n:-$((1/0))}${E=$zz}${E+}${n?$zz}", "777", "sss")
	fields(t, e, "${z+$zz}${z:+$((1/0))}${E:+$zz}")
}

// What doesn't fit the chapter of words is a fault ahead of all others, of the whole.
func TestWordFaults(t *testing.T) {
	e := wide().Flag('u', true)
	for _, raw := range []string{"'", "\"", "\\", "a'b", "${x", "${}", "${x!}", "$(a)", "`a`", "$((1)", "${#12}", "${x-'}", "$z'", "$((1/0))'", "${z?}\"", "${z=1}`"} {
		faults(t, e, raw, api.ErrForm, raw)
	}
	deep := strings.Repeat("${x-", 9) + strings.Repeat("}", 9)
	faults(t, e, deep, api.ErrDeep, deep)
	faults(t, e, "$z"+deep+"'", api.ErrDeep, "$z"+deep+"'")
	fields(t, e.Set("y", "1"), strings.Repeat("${y+", 8)+"a b"+strings.Repeat("}", 8), "a", "s", "b", "s")
}

// Fields are split by what separates when all parts are put.
func TestIfsAsItIsThen(t *testing.T) {
	e := wide().Set("x", "a:b c")
	turns(t, e, e.Set("IFS", ":"), "$x${IFS=:}d", "a", "s", "b c", "sss", "d", "l")
	turns(t, e, e.Set("IFS", ""), "$x${IFS=}", "a:b c", "sssss")
	f := e.Set("IFS", "")
	turns(t, f, f.Set("IFS", "b"), "$x${IFS:=b}", "a:", "ss", " c", "ss")
	turns(t, e, e.Set("IFS", ":"), "\"$*${IFS=:}$*\"", "p q  r:p q::r", "qqqqqqqqqqqqq")
	turns(t, e, e.Set("IFS", ":"), "\"${#*}${IFS=:}${#*}${*#p q:}\"", "6:6:r", "qqqqq")
	fields(t, e.Set("IFS", ":"), "$x", "a", "s", "b c", "sss")
	fields(t, e.Set("ifs", ":"), "$x", "a:b", "sss", "c", "s")
}

// The Env that is told is a new one, whether something was set, or not, or there was a fault.
func TestNewMemory(t *testing.T) {
	calls := []func(e env.Env, raw string) env.Env{
		func(e env.Env, raw string) env.Env { _, then, _ := expand.Fields(e, raw); return then },
		func(e env.Env, raw string) env.Env { _, then, _ := expand.One(e, raw); return then },
		func(e env.Env, raw string) env.Env { _, then, _ := expand.Pattern(e, raw); return then },
		func(e env.Env, raw string) env.Env { _, then, _ := expand.Body(e, raw, false); return then },
		func(e env.Env, raw string) env.Env { _, then, _ := expand.Body(e, raw, true); return then },
	}
	for i, call := range calls {
		for _, raw := range []string{"", "a", "$x", "${z=1}", "${z=1}${zz=2}", "$((1/0))", "${z=1}${zz?}", "${x"} {
			e := wide()
			then := call(e, raw)
			for j := range then.Vars {
				then.Vars[j] = arith.Var{Name: "changed", Value: "changed"}
			}
			for j := range then.Args {
				then.Args[j] = "changed"
			}
			_, _ = append(then.Vars, arith.Var{}), append(then.Args, "")
			sames(t, raw, e, wide())
			if len(then.Vars) < len(e.Vars) || len(then.Args) != len(e.Args) {
				t.Error(i, raw, then)
			}
		}
	}
}

// What is handed in isn't written to, behind its end either.
func TestNothingIsChanged(t *testing.T) {
	e := wide()
	vars, list := append(e.Vars, arith.Var{Name: "~", Value: "end"}), append(slices.Clone(e.Args), "end")
	e.Vars, e.Args = vars[:len(vars)-1], list[:len(list)-1]
	for _, raw := range []string{"${z=1}$@", "${zzz=1}${a=2}$*", "${E:=1}", "${z=1}${zz?}"} {
		expand.Fields(e, raw)
		expand.One(e, raw)
		expand.Pattern(e, raw)
		expand.Body(e, raw, false)
		sames(t, raw, e, wide())
		if vars[len(vars)-1].Value != "end" || list[len(list)-1] != "end" {
			t.Error(raw, vars, list)
		}
	}
}

// P15.2

// One text: nothings are left out, borders are spaces, whatever separates.
func TestOne(t *testing.T) {
	e := wide()
	one(t, e, "", "")
	one(t, e, "''", "")
	one(t, e, "a\\b'c d'\"$x\"", "abc da b")
	one(t, e, "$x", "a b")
	one(t, e, "  $x ", "  a b ")
	one(t, e, "~", "/h")
	one(t, e, "~/$n", "/h/7")
	one(t, e, "''a\"$E\"b\"\"", "ab")
	one(t, e, "'\x00'\"\"", "\x00")
	one(t, e, "$@", "p q  r")
	one(t, e, "\"$@\"", "p q  r")
	one(t, e, "$*", "p q  r")
	one(t, e, "\"$*\"", "p q  r")
	one(t, e, "a$@b", "ap q  rb")
	one(t, args(e), "a$@\"$@\"$*b", "ab")
	colon := e.Set("IFS", ":")
	one(t, colon, "$@", "p q  r")
	one(t, colon, "\"$@\"", "p q  r")
	one(t, colon, "$*", "p q  r")
	one(t, colon, "\"$*\"", "p q::r")
	one(t, colon, "${*#p}", " q::r")
	one(t, e.Set("IFS", ""), "$*\"$*\"", "p q  rp qr")
	one(t, e, "${z-c  d}", "c  d")
	one(t, e, "$((n*n))${#x}", "493")
	one(t, e, "$z\"$z\"", "")
	one(t, e.Set("HOME", ""), "~", "")
	sets(t, e, "${z:=$n}$z", "77", "z", "7")
	sets(t, e, "${z=''}${zz='a  b'}", "a  b", "z", "", "zz", "a  b")
	sets(t, colon, "${z=$@}-$z", "p q  r-p q  r", "z", "p q  r")
}

// A pattern: what is quoted has a q, all else another letter.
func TestPattern(t *testing.T) {
	e := wide()
	pattern(t, e, "", "", "")
	pattern(t, e, "*'*'$n", "**7", "lqs")
	pattern(t, e, "\\*\"*\"$star\"$star\"", "****", "qqsq")
	pattern(t, e, "a''b\"$E\"", "ab", "ll")
	pattern(t, e, "''", "", "")
	pattern(t, e, "[a-'-']", "[a--]", "lllql")
	pattern(t, e, "~/*", "/h/*", "qqll")
	pattern(t, e.Unset("HOME"), "~", "~", "l")
	pattern(t, e, "$@", "p q  r", "sssbbs")
	pattern(t, e, "\"$@\"", "p q  r", "qqqbbq")
	pattern(t, e.Set("IFS", ":"), "$*", "p q  r", "sssbbs")
	pattern(t, e.Set("IFS", ":"), "\"$*\"", "p q::r", "qqqqqq")
	pattern(t, e, "${z-*'*'}", "**", "sq")
	pattern(t, e, "\"${z-*'*'}\"", "**", "qq")
	pattern(t, e, "${path%/*}", "a/b", "sss")
	pattern(t, e, "$((n))\"$((n))\"", "77", "sq")
	pattern(t, e, "'\x00'$E''", "\x00", "q")
	p, then, f := expand.Pattern(e, "${z='*'}")
	if p != (glob.Pat{Text: "*", Mask: "s"}) || f.E != api.OK || !env.Same(then, e.Set("z", "*")) {
		t.Error(p, then, f)
	}
	p, _, _ = expand.Pattern(e, "$star'*'")
	if !glob.Match(p, "ab*") || glob.Match(p, "ab") {
		t.Error(p)
	}
}

func TestBody(t *testing.T) {
	e := wide()
	body(t, e, "", "")
	body(t, e, "a \"$x\" \\$x", "a \"a b\" $x")
	body(t, e, "~\n'$n'\n\\\\ \\` \\\" \\a *\n", "~\n'7'\n\\ ` \\\" \\a *\n")
	body(t, e, "$n$((n+1))${#x}${path##*/}${z-c d}\n", "783cc d\n")
	body(t, e, "$@|${@}|$*\n", "p q  r|p q  r|p q  r\n")
	body(t, e.Set("IFS", ":"), "$@|$*\n", "p q  r|p q::r\n")
	body(t, args(e), "-$@-$*-$z-${E}-\n", "-----\n")
	body(t, e, "$E", "")
	body(t, e, "$", "$")
	body(t, e, "\x00$E\x00", "\x00\x00")
	got, then, f := expand.Body(e, "${z=a}\n$z\n", false)
	if got != "a\na\n" || f.E != api.OK || !env.Same(then, e.Set("z", "a")) {
		t.Error(got, then, f)
	}
}

func TestBodyFaults(t *testing.T) {
	e := wide()
	bodyFaults(t, e, "a\n$((1/0))\n", api.ErrZero, "1/0")
	bodyFaults(t, e, "${z=1}\n${zz?}\n", api.ErrName, "zz")
	bodyFaults(t, e, "${9=1}\n", api.ErrName, "9")
	bodyFaults(t, e.Flag('u', true), "\n$z\n", api.ErrName, "z")
	for _, s := range []string{"\\", "a\n\\", "${x\n", "`", "$(a)\n", "${z?}`", "$((1/0))${"} {
		bodyFaults(t, e, s, api.ErrForm, s)
	}
	deep := strings.Repeat("${x-", 9) + strings.Repeat("}", 9) + "\n"
	bodyFaults(t, e, deep, api.ErrDeep, deep)
	body(t, e, "'\"\n", "'\"\n")
}

// With a quoted word a here-document stays, whatever stands in it.
func TestQuotedBody(t *testing.T) {
	e := wide().Flag('u', true)
	for _, s := range []string{"", "a\n", "$x", "$z${zz?}${z=1}", "$((1/0))", "`${", "\\", "\"'\x00\xff"} {
		got, then, f := expand.Body(e, s, true)
		if got != s || f != (expand.Fault{}) || !env.Same(then, e) {
			t.Errorf("%q: %q, %+v, %+v", s, got, then, f)
		}
	}
}

// P15.3

func TestSingleQuotes(t *testing.T) {
	chance := rand.New(rand.NewSource(15))
	e, some := wide(), "$x{}@*\"\\`~ \n:[]()"
	for range 5000 {
		b := make([]byte, chance.Intn(9))
		for i := range b {
			b[i] = byte(chance.Intn(256))
			if chance.Intn(2) == 0 {
				b[i] = some[chance.Intn(len(some))]
			}
			if b[i] == '\'' {
				b[i] = 0
			}
		}
		s := string(b)
		e := args(e.Set("IFS", s), s, s)
		fields(t, e, "'"+s+"'", s, strings.Repeat("q", len(s)))
		one(t, e, "'"+s+"'", s)
		pattern(t, e, "'"+s+"'", s, strings.Repeat("q", len(s)))
	}
}

// Whatever is handed in, the calls end, and tell a text's fault or what they promise of others.
func TestAnything(t *testing.T) {
	chance := rand.New(rand.NewSource(151))
	odd := []env.Env{{}, wide(), {Vars: []arith.Var{{Name: "z", Value: "1"}, {Name: "", Value: "2"}, {Name: "a", Value: "3"}, {Name: "a", Value: "4"}}, Status: -5, Flags: "zzu\x00"}}
	some := "$$${{}}}()'\"\\`xz1@*#-=?+:% /~n0\x00\xff"
	for range 40000 {
		b := make([]byte, chance.Intn(14))
		for i := range b {
			b[i] = some[chance.Intn(len(some))]
		}
		raw, e := string(b), odd[chance.Intn(len(odd))]
		l, _, f := expand.Fields(e, raw)
		s, _, g := expand.One(e, raw)
		p, _, h := expand.Pattern(e, raw)
		if f != g || g != h || p.Text != s || len(p.Mask) != len(s) {
			t.Errorf("%q: %+v %+v %+v, %q %q", raw, f, g, h, s, p)
		}
		if f != (expand.Fault{}) && (len(l) != 0 || s != "" || f.E == api.OK) {
			t.Errorf("%q: %+v, %q, %q", raw, f, l, s)
		}
		for _, r := range l {
			if len(r.Text) != len(r.Mask) || strings.ContainsAny(r.Mask, "eb") {
				t.Errorf("%q: %q", raw, r)
			}
		}
		expand.Body(e, raw, false)
	}
}

// A long word takes no long time.
func TestLong(t *testing.T) {
	e := env.Env{}.Set("x", "a b ")
	l, _, f := expand.Fields(e, strings.Repeat("$x''", 50000))
	if len(l) != 100001 || f.E != api.OK || l[0] != (split.Row{Text: "a", Mask: "s"}) || l[100000] != (split.Row{}) {
		t.Error(len(l), f)
	}
	s, _, f := expand.One(e, strings.Repeat("''$x", 50000))
	if s != strings.Repeat("a b ", 50000) || f.E != api.OK {
		t.Error(len(s), f)
	}
}
