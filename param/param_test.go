package param_test

import (
	"math/rand"
	"slices"
	"strconv"
	"strings"
	"testing"

	"kinetoscope/glob"
	"kinetoscope/param"
)

// values are such as may well be taken for none, and others.
var values = []string{"x", "a b", " ", "\n", "\x00", "0", "false", ":-", "-", "%", "é", "\xff", strings.Repeat("v", 5000)}

// does holds what a parameter comes to by an operation: with a value, with an empty one, and not set.
func does(t *testing.T, op string, filled, empty, unset int) {
	t.Helper()
	for _, v := range values {
		if got := param.Does(op, v, true); got != filled {
			t.Errorf("%q of the value %.20q: %d, not %d", op, v, got, filled)
		}
	}
	if got := param.Does(op, "", true); got != empty {
		t.Errorf("%q of an empty value: %d, not %d", op, got, empty)
	}
	for _, v := range append([]string{""}, values...) { // here the value plays no part
		if got := param.Does(op, v, false); got != unset {
			t.Errorf("%q, not set (%.20q): %d, not %d", op, v, got, unset)
		}
	}
}

// trims holds what is left of a value by %, %%, # and ##.
func trims(t *testing.T, value string, p glob.Pat, want ...string) {
	t.Helper()
	for i, op := range []string{"%", "%%", "#", "##"} {
		if got := param.Trim(op, value, p); got != want[i] {
			t.Errorf("%.40q by %s of %.40q is %.40q, not %.40q", value, op, p, got, want[i])
		}
	}
}

// short is all texts of some bytes at most.
func short(bytes string, most int) []string {
	all := []string{""}
	for from := 0; most > 0; most-- {
		to := len(all)
		for _, s := range all[from:to] {
			for i := range len(bytes) {
				all = append(all, s+bytes[i:i+1])
			}
		}
		from = to
	}
	return all
}

// others are all short texts of operations' bytes, and some more, but for those that are told apart.
func others(but ...string) []string {
	all := append(short(":-=?+%#!^~/,@l0 \x00\xff", 3), "len", "%%%%", "####", ":-:-", "Value", "：-", "：")
	return slices.DeleteFunc(all, func(op string) bool { return slices.Contains(but, op) })
}

// byChance is a text of some bytes at most.
func byChance(r *rand.Rand, bytes string, most int) string {
	b := make([]byte, r.Intn(most+1))
	for i := range b {
		b[i] = bytes[r.Intn(len(bytes))]
	}
	return string(b)
}

// P12.1

func TestNumbers(t *testing.T) {
	got := [5]int{param.Value, param.Word, param.Assign, param.Fail, param.None}
	if got != [5]int{1, 2, 3, 4, 5} {
		t.Error(got)
	}
}

func TestExample(t *testing.T) {
	if got := param.Does(":-", "", true); got != param.Word {
		t.Errorf(":- of an empty value: %d", got)
	}
	if got := param.Does("-", "", true); got != param.Value {
		t.Errorf("- of an empty value: %d", got)
	}
}

func TestDoes(t *testing.T) {
	does(t, ":-", param.Value, param.Word, param.Word)
	does(t, "-", param.Value, param.Value, param.Word)
	does(t, ":=", param.Value, param.Assign, param.Assign)
	does(t, "=", param.Value, param.Value, param.Assign)
	does(t, ":?", param.Value, param.Fail, param.Fail)
	does(t, "?", param.Value, param.Value, param.Fail)
	does(t, ":+", param.Word, param.None, param.None)
	does(t, "+", param.Word, param.Word, param.None)
	does(t, "", param.Value, param.Value, param.None)
	does(t, "%", param.Value, param.Value, param.None)
	does(t, "%%", param.Value, param.Value, param.None)
	does(t, "#", param.Value, param.Value, param.None)
	does(t, "##", param.Value, param.Value, param.None)
	does(t, "len", param.Value, param.Value, param.None)
}

// What only looks like an operation of the table is another one: a colon alone, or one ahead of another byte.
func TestDoesByOthers(t *testing.T) {
	for _, op := range []string{":", "::", ":%", ":#", ":%%", "::-", ":-:", "-:", ":--", "--", "==", "??", "++", "-=", ":=-", " -", "- ", ":- ", ": -", ":\x00-", "-\x00"} {
		does(t, op, param.Value, param.Value, param.None)
	}
	for _, op := range others(":-", "-", ":=", "=", ":?", "?", ":+", "+") {
		got := [3]int{param.Does(op, "x", true), param.Does(op, "", true), param.Does(op, "x", false)}
		if got != [3]int{param.Value, param.Value, param.None} {
			t.Errorf("%q: %d", op, got)
		}
	}
}

func TestTrims(t *testing.T) {
	for _, op := range []string{"%", "%%", "#", "##"} {
		if !param.Trims(op) {
			t.Errorf("%q doesn't trim", op)
		}
	}
	for _, op := range others("%", "%%", "#", "##") {
		if param.Trims(op) {
			t.Errorf("%q trims", op)
		}
	}
}

func TestTrim(t *testing.T) {
	trims(t, "abab", glob.Pat{Text: "b*"}, "aba", "a", "abab", "abab")
	trims(t, "baba", glob.Pat{Text: "b*"}, "ba", "", "aba", "")
	trims(t, "abab", glob.Pat{Text: "*a"}, "abab", "abab", "bab", "b")
	trims(t, "abab", glob.Pat{Text: "a*b"}, "ab", "", "ab", "")
	trims(t, "a/b/c", glob.Pat{Text: "*/"}, "a/b/c", "a/b/c", "b/c", "c")
	trims(t, "a/b/c", glob.Pat{Text: "/*"}, "a/b", "a", "a/b/c", "a/b/c")
	trims(t, "abc.tar.gz", glob.Pat{Text: ".*"}, "abc.tar", "abc", "abc.tar.gz", "abc.tar.gz")
	trims(t, "xyx", glob.Pat{Text: "x"}, "xy", "xy", "yx", "yx")
	trims(t, "xyz", glob.Pat{Text: "??"}, "x", "x", "z", "z")
	trims(t, "0a1", glob.Pat{Text: "[0-9]"}, "0a", "0a", "a1", "a1")
	trims(t, "0a1", glob.Pat{Text: "[!0-9]"}, "0a1", "0a1", "0a1", "0a1")
	trims(t, "é", glob.Pat{Text: "?"}, "\xc3", "\xc3", "\xa9", "\xa9")
	trims(t, "\x00a\xff", glob.Pat{Text: "[\x00\xff]"}, "\x00a", "\x00a", "a\xff", "a\xff")
}

// The empty text is a beginning, and an end, and so is the whole.
func TestTrimNothing(t *testing.T) {
	for _, value := range []string{"", "a", "abc", "*", "%%"} {
		trims(t, value, glob.Pat{}, value, value, value, value)
		trims(t, value, glob.Pat{Text: "*"}, value, "", value, "")
		trims(t, value, glob.Pat{Text: "x"}, value, value, value, value)
		trims(t, value, glob.Pat{Text: value + "x", Mask: strings.Repeat("q", len(value))}, value, value, value, value)
	}
	trims(t, "abc", glob.Pat{Text: "abc"}, "", "", "", "")
	trims(t, "", glob.Pat{Text: "a*"}, "", "", "", "")
}

func TestTrimQuoted(t *testing.T) {
	trims(t, "*a*", glob.Pat{Text: "*", Mask: "q"}, "*a", "*a", "a*", "a*")
	trims(t, "*a*", glob.Pat{Text: "*", Mask: "l"}, "*a*", "", "*a*", "")
	trims(t, "aba", glob.Pat{Text: "*", Mask: "q"}, "aba", "aba", "aba", "aba")
	trims(t, "?b?", glob.Pat{Text: "?", Mask: "q"}, "?b", "?b", "b?", "b?")
	trims(t, "a*b*", glob.Pat{Text: "**", Mask: "ql"}, "a*b", "a", "a*b*", "a*b*")
	trims(t, "a*b*c", glob.Pat{Text: "**", Mask: "lq"}, "a*b*c", "a*b*c", "b*c", "c")
}

// By an operation that doesn't trim a value stays, whatever the pattern is.
func TestTrimByOthers(t *testing.T) {
	for _, op := range others("%", "%%", "#", "##") {
		for _, p := range []string{"*", "ab", "?*", "a", "b", ""} {
			if got := param.Trim(op, "ab", glob.Pat{Text: p}); got != "ab" {
				t.Errorf("ab by %q of %q is %q", op, p, got)
			}
		}
	}
	for _, v := range append([]string{""}, values...) {
		if got := param.Trim(":-", v, glob.Pat{Text: "*"}); got != v {
			t.Errorf("%.20q by :- is %.20q", v, got)
		}
	}
}

// cut tries all beginnings of a value, or ends, one behind the other, from the shortest on, or from the longest.
func cut(op, value string, p glob.Pat) string {
	for i := range len(value) + 1 {
		n := i
		if len(op) == 2 {
			n = len(value) - i
		}
		left, off := value[n:], value[:n]
		if op[0] == '%' {
			left, off = value[:len(value)-n], value[len(value)-n:]
		}
		if glob.Match(p, off) {
			return left
		}
	}
	return value
}

func TestTrimByChance(t *testing.T) {
	r := rand.New(rand.NewSource(15))
	for range 40000 {
		p := glob.Pat{Text: byChance(r, "aab**?[]!-", 7), Mask: byChance(r, "qlse", 7)}
		value := byChance(r, "aab]*", 10)
		trims(t, value, p, cut("%", value, p), cut("%%", value, p), cut("#", value, p), cut("##", value, p))
	}
}

func TestLen(t *testing.T) {
	for value, want := range map[string]string{"": "0", "a": "1", "abc": "3", "é": "2", "\x00": "1", "\xff\xfe": "2", "a b\n": "4", "123456789": "9", "1234567890": "10"} {
		if got := param.Len(value); got != want {
			t.Errorf("%q: %q, not %q", value, got, want)
		}
	}
	for _, n := range []int{99, 100, 255, 256, 4096, 4097, 65535, 65536, 1000000, 1 << 20} {
		if got := param.Len(strings.Repeat("v", n)); got != strconv.Itoa(n) {
			t.Errorf("%d: %q", n, got)
		}
	}
}

// P12.2

func TestColon(t *testing.T) {
	for _, op := range []string{"-", "=", "?", "+"} {
		empty, unset := param.Does(":"+op, "", true), param.Does(":"+op, "", false)
		if empty != unset {
			t.Errorf(":%s: empty: %d, not set: %d", op, empty, unset)
		}
		if plain := param.Does(op, "", false); unset != plain {
			t.Errorf("not set: :%s: %d, %s: %d", op, unset, op, plain)
		}
		for _, v := range values {
			if got, plain := param.Does(":"+op, v, true), param.Does(op, v, true); got != plain || got == empty {
				t.Errorf("%.20q: :%s: %d, %s: %d; empty: %d", v, op, got, op, plain, empty)
			}
		}
		if got, filled := param.Does(op, "", true), param.Does(op, "x", true); got != filled {
			t.Errorf("%s: empty: %d, with a value: %d", op, got, filled)
		}
	}
}
