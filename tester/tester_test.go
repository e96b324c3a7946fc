package tester_test

import (
	"math/rand"
	"slices"
	"strings"
	"testing"

	"kinetoscope/api"
	"kinetoscope/tester"
)

// What arguments come to.
const (
	yes     = 0
	no      = 1
	neither = 2
)

// comes holds what arguments come to, where nothing is asked.
func comes(t *testing.T, want int, args ...string) {
	t.Helper()
	if n, q, asks := tester.Decide(args...); n != want || q != (tester.Ask{}) || asks {
		t.Errorf("%.200q: %d, %.200v, %t, not %d", args, n, q, asks, want)
	}
}

// asks holds what arguments ask of a file.
func asks(t *testing.T, not bool, op, path string, args ...string) {
	t.Helper()
	want := tester.Ask{Not: not, Op: op, Path: path}
	if n, q, asks := tester.Decide(args...); n != 0 || q != want || !asks {
		t.Errorf("%.200q: %d, %.200v, %t, not %.200v", args, n, q, asks, want)
	}
}

// tells holds what an answer comes to.
func tells(t *testing.T, want int, not bool, op string, a api.Answer) {
	t.Helper()
	q := tester.Ask{Not: not, Op: op, Path: "p"}
	if n := tester.Told(q, a); n != want {
		t.Errorf("%v of %v: %d, not %d", q, a, n, want)
	}
}

// texts are some of all kinds, signs among them.
func texts() []string {
	return []string{"", "!", "=", "!=", "-n", "-z", "-e", "-f", "-d", "-eq", "-ne", "-lt", "-le", "-gt", "-ge",
		"a", "b", "-q", "==", "-", "--", "-a", "-o", "(", ")", "0", "1", "01", " -1 ", "\t\n", "\x00", "é", "\xff", strings.Repeat("x", 5000)}
}

// short is all texts of some bytes at most.
func short(bytes string, most int) []string {
	all, last := []string{""}, []string{""}
	for range most {
		var next []string
		for _, s := range last {
			for i := range len(bytes) {
				next = append(next, s+bytes[i:i+1])
			}
		}
		all, last = append(all, next...), next
	}
	return all
}

// others are short texts of signs' bytes, and some more, but for some signs.
func others(but ...string) []string {
	all := append(short("-!=nzefdqltg", 3), texts()...)
	all = append(all, "-nt", "-ot", "-ef", "-eq ", " -eq", "-eq-", "-equal", "-EQ", "-N", "-E", "-F", "-D", "-s", "-r", "-w", "-x", "-h", "-L", "-t", "<", ">", "<=", "=~", "!!", "! ", " !", "=\x00", "-f\n")
	return slices.DeleteFunc(all, func(s string) bool { return slices.Contains(but, s) })
}

// P17.1

func TestExamples(t *testing.T) {
	comes(t, 0, "3", "-lt", "10")
	comes(t, 1, "!", "a", "=", "a")
}

func TestNone(t *testing.T) {
	comes(t, no)
	comes(t, no, []string{}...)
}

// By itself a sign is a text as any other.
func TestOne(t *testing.T) {
	comes(t, no, "")
	for _, s := range append(texts(), " ", "\n", "0", "1", "false") {
		if s != "" {
			comes(t, yes, s)
		}
	}
}

func TestTwoTurned(t *testing.T) {
	comes(t, yes, "!", "")
	for _, s := range texts() {
		if s != "" {
			comes(t, no, "!", s)
		}
	}
}

func TestTwoOfATextsBytes(t *testing.T) {
	comes(t, no, "-n", "")
	comes(t, yes, "-z", "")
	for _, s := range append(texts(), " ", "0") {
		if s != "" {
			comes(t, yes, "-n", s)
			comes(t, no, "-z", s)
		}
	}
}

func TestTwoOfAFile(t *testing.T) {
	for _, op := range []string{"-e", "-f", "-d"} {
		for _, s := range append(texts(), "a/b", "/", ".", "..", "a b", "*") {
			asks(t, false, op, s, op, s)
		}
	}
}

func TestTwoOthers(t *testing.T) {
	for _, op := range others("!", "-n", "-z", "-e", "-f", "-d") {
		for _, s := range []string{"", "a", "1", "!", "=", "-f", "-eq"} {
			comes(t, neither, op, s)
		}
	}
}

func TestThreeSame(t *testing.T) {
	for i, a := range texts() {
		for j, b := range texts() {
			if i == j {
				comes(t, yes, a, "=", b)
				comes(t, no, a, "!=", b)
			} else {
				comes(t, no, a, "=", b)
				comes(t, yes, a, "!=", b)
			}
		}
	}
	comes(t, no, "1", "=", "01") // texts, no numbers
	comes(t, no, "1", "=", " 1")
	comes(t, yes, "1", "!=", "1 ")
	comes(t, no, "a", "=", "A")
	comes(t, no, "a", "=", "*") // nor patterns
	comes(t, no, "é", "=", "e\u0301")
}

// orders holds how two numbers compare, by all six signs.
func orders(t *testing.T, a, b string, eq, lt, gt int) {
	t.Helper()
	comes(t, eq, a, "-eq", b)
	comes(t, 1-eq, a, "-ne", b)
	comes(t, lt, a, "-lt", b)
	comes(t, 1-gt, a, "-le", b)
	comes(t, gt, a, "-gt", b)
	comes(t, 1-lt, a, "-ge", b)
}

// noOrder holds that one of two texts is no number.
func noOrder(t *testing.T, a, b string) {
	t.Helper()
	for _, op := range []string{"-eq", "-ne", "-lt", "-le", "-gt", "-ge"} {
		comes(t, neither, a, op, b)
		comes(t, neither, b, op, a)
		comes(t, neither, a, op, a)
		comes(t, neither, "!", a, op, b)
	}
}

func TestThreeNumbers(t *testing.T) {
	orders(t, "3", "10", no, yes, no)
	orders(t, "10", "3", no, no, yes)
	orders(t, "7", "7", yes, no, no)
	orders(t, "-3", "2", no, yes, no)
	orders(t, "-2", "-3", no, no, yes)
	orders(t, "-7", "-7", yes, no, no)
	orders(t, "0", "-0", yes, no, no)
	orders(t, "+0", "-00", yes, no, no)
	orders(t, "+5", "5", yes, no, no)
	orders(t, " 5", "5\t\n", yes, no, no)
	orders(t, "\n\t -5 ", " +5 ", no, yes, no)
	orders(t, "010", "8", yes, no, no)
	orders(t, "010", "10", no, yes, no)
	orders(t, "0x1F", "0X1f", yes, no, no)
	orders(t, "0x20", "31", no, no, yes)
	orders(t, "-0x10", "-16", yes, no, no)
}

// Numbers are held against each other, not against what is between them: that may have more than 64 bits.
func TestThreeGreatNumbers(t *testing.T) {
	const most = "9223372036854775807"
	orders(t, most, most, yes, no, no)
	orders(t, most, "0x7FFFFFFFFFFFFFFF", yes, no, no)
	orders(t, "-"+most, most, no, yes, no)
	orders(t, most, "-"+most, no, no, yes)
	orders(t, most, "9223372036854775806", no, no, yes)
	orders(t, "9007199254740993", "9007199254740992", no, no, yes) // alike as floats
	orders(t, "4294967296", "0", no, no, yes)                      // alike in their lowest bits
	orders(t, "-"+most, "1", no, yes, no)
	noOrder(t, "9223372036854775808", "1")
	noOrder(t, "-9223372036854775808", "1")
	noOrder(t, "18446744073709551617", "1")
	noOrder(t, "0x8000000000000000", "0")
	noOrder(t, strings.Repeat("9", 5000), most)
}

func TestThreeNoNumbers(t *testing.T) {
	for _, s := range []string{"", " ", "\t", "\n", " \t\n ", "x", "a1", "1a", "08", "0x", "0xg", "1.0", "1e1", "1_0", "1 0", "+", "-", "+-1", "--1", "- 1", "+ 1", "!", "=", "-eq", "1+1", "(1)", "\v1", "1\r", "\x001", "1\x00", "١", "１", "\u00a01", "true"} {
		noOrder(t, s, "0")
		noOrder(t, s, "1")
	}
}

// Each byte ahead of a digit.
func TestThreeByBytes(t *testing.T) {
	for c := range 256 {
		b := byte(c)
		want := neither
		switch {
		case strings.IndexByte(" \t\n+0", b) >= 0:
			want = yes
		case b == '-', '1' <= b && b <= '9':
			want = no
		}
		comes(t, want, string([]byte{b})+"1", "-eq", "1")
		if want == neither || b == '+' || b == '-' || b == ' ' || b == '\t' || b == '\n' {
			noOrder(t, string([]byte{b}), "0")
		}
	}
}

// Where a sign stands in the middle, it counts, whatever the others are.
func TestThreeSignsInTheMiddleFirst(t *testing.T) {
	comes(t, yes, "!", "=", "!")
	comes(t, no, "!", "=", "a")
	comes(t, no, "!", "!=", "!")
	comes(t, yes, "!", "!=", "")
	comes(t, no, "-f", "=", "x")
	comes(t, yes, "-n", "=", "-n")
	comes(t, no, "-z", "=", "")
	comes(t, yes, "=", "=", "=")
	comes(t, yes, "!=", "!=", "=")
	for _, op := range []string{"-eq", "-ne", "-lt", "-le", "-gt", "-ge"} {
		comes(t, neither, "!", op, "1")
		comes(t, neither, "!", op, "")
		comes(t, neither, "-n", op, "1")
		comes(t, neither, op, op, op)
	}
}

func TestThreeTurned(t *testing.T) {
	comes(t, no, "!", "-n", "a")
	comes(t, yes, "!", "-n", "")
	comes(t, yes, "!", "-z", "a")
	comes(t, no, "!", "-z", "")
	comes(t, yes, "!", "!", "a")
	comes(t, no, "!", "!", "")
	comes(t, yes, "!", "!", "!")
	comes(t, yes, "!", "!", "=")
	comes(t, neither, "!", "-q", "a")
	comes(t, neither, "!", "a", "b")
	comes(t, neither, "!", "", "")
	for _, op := range []string{"-e", "-f", "-d"} {
		for _, s := range texts() {
			asks(t, true, op, s, "!", op, s)
		}
	}
}

func TestThreeOthers(t *testing.T) {
	for _, op := range others("=", "!=", "-eq", "-ne", "-lt", "-le", "-gt", "-ge") {
		for _, s := range []string{"", "a", "1", "-n", "-f", "=", "-eq", "!=", "(", "! "} {
			comes(t, neither, s, op, s)
		}
	}
	for _, s := range others("!") {
		comes(t, neither, s, "-n", "a")
		comes(t, neither, s, "-f", "a")
		comes(t, neither, s, "!", "a")
	}
}

func TestFour(t *testing.T) {
	comes(t, no, "!", "a", "=", "a")
	comes(t, yes, "!", "a", "=", "b")
	comes(t, yes, "!", "a", "!=", "a")
	comes(t, no, "!", "a", "!=", "b")
	comes(t, no, "!", "!", "=", "!")
	comes(t, yes, "!", "!", "=", "a")
	comes(t, no, "!", "3", "-lt", "10")
	comes(t, yes, "!", "3", "-eq", "10")
	comes(t, neither, "!", "x", "-lt", "10")
	comes(t, neither, "!", "!", "-lt", "10")
	comes(t, yes, "!", "!", "-n", "a")
	comes(t, no, "!", "!", "-n", "")
	comes(t, no, "!", "!", "!", "a")
	comes(t, yes, "!", "!", "!", "")
	comes(t, no, "!", "!", "!", "!")
	comes(t, neither, "!", "!", "-q", "a")
	comes(t, neither, "!", "a", "b", "c")
	comes(t, neither, "!", "-f", "a", "b")
	comes(t, neither, "!", "-n", "", "")
	for _, op := range []string{"-e", "-f", "-d"} {
		for _, s := range texts() {
			asks(t, false, op, s, "!", "!", op, s)
		}
	}
}

func TestFourOthers(t *testing.T) {
	for _, s := range others("!") {
		comes(t, neither, s, "a", "=", "a")
		comes(t, neither, s, "1", "-eq", "1")
		comes(t, neither, s, "!", "-f", "a")
		comes(t, neither, s, "=", s, "")
	}
	comes(t, neither, "a", "=", "a", "!")
	comes(t, neither, "(", "a", "=", "a")
	comes(t, neither, "-n", "a", "-a", "b")
}

func TestMore(t *testing.T) {
	comes(t, neither, "!", "!", "a", "=", "a")
	comes(t, neither, "!", "!", "!", "!", "a")
	comes(t, neither, "!", "!", "!", "-f", "a")
	comes(t, neither, "a", "=", "a", "-a", "b")
	comes(t, neither, "(", "a", "=", "a", ")")
	comes(t, neither, "", "", "", "", "")
	for _, s := range texts() {
		for n := 5; n < 12; n++ {
			comes(t, neither, slices.Repeat([]string{s}, n)...)
		}
	}
	comes(t, neither, slices.Repeat([]string{"!"}, 1000000)...)
}

// What is handed in stays, and another call is told the same of it.
func TestStays(t *testing.T) {
	r := rand.New(rand.NewSource(171))
	some := texts()
	for range 20000 {
		args := make([]string, r.Intn(6), 8)
		for i := range args {
			args[i] = some[r.Intn(len(some))]
		}
		was := slices.Clone(args)
		n, q, is := tester.Decide(args...)
		if !slices.Equal(args, was) {
			t.Fatalf("%.200q, not %.200q", args, was)
		}
		if m, p, also := tester.Decide(args...); m != n || p != q || also != is {
			t.Fatalf("%.200q: %d, %.200v, %t; then %d, %.200v, %t", args, n, q, is, m, p, also)
		}
	}
}

// P17.2

func TestTold(t *testing.T) {
	for n, want := range map[int64][3]int{0: {yes, no, no}, 1: {yes, yes, no}, 2: {yes, no, yes}, 3: {yes, no, no}, -1: {yes, no, no}, -2: {yes, no, no}, 257: {yes, no, no}, 1<<32 + 1: {yes, no, no}, 1<<62 + 2: {yes, no, no}} {
		for i, op := range []string{"-e", "-f", "-d"} {
			tells(t, want[i], false, op, api.Answer{N: n})
			tells(t, 1-want[i], true, op, api.Answer{N: n})
		}
	}
}

func TestToldOfWhatIsNotThere(t *testing.T) {
	for _, e := range []int{1, 2, 4, 255, 256, 1 << 40, -1, -2} {
		for n := int64(-1); n < 4; n++ {
			for _, op := range []string{"-e", "-f", "-d"} {
				tells(t, no, false, op, api.Answer{Err: e, N: n})
				tells(t, yes, true, op, api.Answer{Err: e, N: n})
			}
		}
	}
}

// Nothing but Op, Not, Err and N plays a part.
func TestToldByNothingElse(t *testing.T) {
	for _, a := range []api.Answer{{N: 1}, {N: 2}, {N: 3, Err: 2}, {N: 1, Err: 1}, {N: 2, Err: 1}} {
		for _, op := range []string{"-e", "-f", "-d"} {
			for _, not := range []bool{false, true} {
				want := tester.Told(tester.Ask{Not: not, Op: op}, a)
				b := a
				b.Kind, b.M, b.Text, b.List, b.Sig = api.Stat, 2, "-f", []string{"1", "2"}, 1
				for _, path := range texts() {
					if n := tester.Told(tester.Ask{Not: not, Op: op, Path: path}, b); n != want {
						t.Errorf("%t %s of %v: %d, of %v: %d", not, op, a, want, b, n)
					}
				}
			}
		}
	}
}

// What no Decide asks has some answer.
func TestToldOfOthers(t *testing.T) {
	for _, op := range others("-e", "-f", "-d") {
		for n := int64(-1); n < 4; n++ {
			for _, e := range []int{-1, 0, 2} {
				tester.Told(tester.Ask{Op: op}, api.Answer{N: n, Err: e})
				tester.Told(tester.Ask{Op: op, Not: true}, api.Answer{N: n, Err: e})
			}
		}
	}
}

// What is asked, and answered, by a row of arguments.
func TestAskedAndTold(t *testing.T) {
	for _, r := range []struct {
		args string
		a    api.Answer
		want int
	}{
		{"-e x", api.Answer{N: 2}, yes},
		{"-f x", api.Answer{N: 1}, yes},
		{"-f x", api.Answer{N: 2}, no},
		{"-d x", api.Answer{N: 2}, yes},
		{"-d x", api.Answer{N: 2, Err: 2}, no},
		{"! -e x", api.Answer{Err: 2}, yes},
		{"! -e x", api.Answer{}, no},
		{"! -f x", api.Answer{N: 1}, no},
		{"! -d x", api.Answer{N: 1}, yes},
		{"! ! -d x", api.Answer{N: 2}, yes},
		{"! ! -d x", api.Answer{N: 1}, no},
		{"! ! -f x", api.Answer{Err: 13}, no},
	} {
		_, q, is := tester.Decide(strings.Fields(r.args)...)
		if n := tester.Told(q, r.a); !is || n != r.want {
			t.Errorf("%s, %v: %d, %t, not %d", r.args, r.a, n, is, r.want)
		}
	}
}

// P17.3

// twice holds that arguments behind two turns come to the same.
func twice(t *testing.T, args ...string) {
	t.Helper()
	n, q, is := tester.Decide(args...)
	m, p, also := tester.Decide(append([]string{"!", "!"}, args...)...)
	if m != n || p != q || also != is {
		t.Errorf("%.200q: %d, %.200v, %t; turned twice: %d, %.200v, %t", args, n, q, is, m, p, also)
	}
}

func TestTurnedTwice(t *testing.T) {
	between := []string{"=", "!=", "-eq", "-ne", "-lt", "-le", "-gt", "-ge"}
	for _, a := range others() {
		twice(t, a)
		if !slices.Contains(between, a) { // between ! and another one it is no longer what stands ahead
			for _, b := range texts() {
				twice(t, a, b)
			}
		}
	}
	for _, op := range []string{"-e", "-f", "-d"} {
		for n := int64(-1); n < 4; n++ {
			for e := range 3 {
				q, a := tester.Ask{Op: op, Path: "p"}, api.Answer{N: n, Err: e}
				is := tester.Told(q, a)
				q.Not = true
				if not := tester.Told(q, a); is+not != yes+no {
					t.Errorf("%s of %v: %d, turned %d", op, a, is, not)
				}
			}
		}
	}
}
