package tester_test

import (
	"cmp"
	"math"
	"math/big"
	"math/rand"
	"regexp"
	"strconv"
	"strings"
	"testing"

	"kinetoscope/tester"
)

// The chapter's words spelt another way: arguments as letters, forms of which are found by expressions, and signs that hold as texts.

var (
	asLetters = [][2]string{{"=", "s"}, {"!=", "d"}, {"!", "!"}, {"-n", "n"}, {"-z", "z"}, {"-e", "p"}, {"-f", "p"}, {"-d", "p"},
		{"-eq", "o"}, {"-ne", "o"}, {"-lt", "o"}, {"-le", "o"}, {"-gt", "o"}, {"-ge", "o"}}
	asMiddle = regexp.MustCompile(`^(!?)(.[sdo].)$`)
	asAhead  = regexp.MustCompile(`^(!{0,2})([nzp].)$`)
	asSingle = regexp.MustCompile(`^(!{0,3})(.?)$`)
	asNumber = regexp.MustCompile(`^[+-]?(0[xX][0-9a-fA-F]+|[0-9]+)$`)
)

// letters are arguments, a letter each.
func letters(args []string) string {
	s := ""
	for _, a := range args {
		c := "."
		for _, l := range asLetters {
			if l[0] == a {
				c = l[1]
			}
		}
		s += c
	}
	return s
}

// speltNumber is a number; false: it is none.
func speltNumber(s string) (int64, bool) {
	s = strings.Trim(s, " \t\n")
	n, err := strconv.ParseInt(s, 0, 64)
	return n, err == nil && asNumber.MatchString(s) && n != math.MinInt64
}

// orderOf are the signs that hold where the first number is less, where both are one, and where it is greater.
func orderOf(a, b string) string {
	n, is := speltNumber(a)
	m, also := speltNumber(b)
	if !is || !also {
		return ""
	}
	return []string{"-lt -le -ne", "-eq -le -ge", "-gt -ge -ne"}[cmp.Compare(n, m)+1]
}

// holds is yes, or no.
func holds(is bool) int {
	if is {
		return yes
	}
	return no
}

// spelt is as Decide.
func spelt(args []string) (int, tester.Ask, bool) {
	form := letters(args)
	turns, n := "", neither
	if m := asMiddle.FindStringSubmatch(form); m != nil {
		turns = m[1]
		a, op, b := args[len(turns)], args[len(turns)+1], args[len(turns)+2]
		switch held := orderOf(a, b); {
		case op == "=":
			n = holds(a == b)
		case op == "!=":
			n = holds(a != b)
		case held != "":
			n = holds(strings.Contains(held, op))
		}
	} else if m := asAhead.FindStringSubmatch(form); m != nil {
		turns = m[1]
		op, s := args[len(turns)], args[len(turns)+1]
		if m[2][0] == 'p' {
			return 0, tester.Ask{Not: len(turns) == 1, Op: op, Path: s}, true
		}
		n = holds((op == "-n") == (s != ""))
	} else if m := asSingle.FindStringSubmatch(form); m != nil && len(args) < 5 {
		turns = form[:max(len(form), 1)-1]
		n = holds(strings.Join(args[len(turns):], "") != "")
	}
	if n != neither {
		n = (n + len(turns)) % 2
	}
	return n, tester.Ask{}, false
}

// asSpelt holds Decide against the chapter's words.
func asSpelt(t *testing.T, args ...string) {
	n, q, is := tester.Decide(args...)
	if m, p, asks := spelt(args); m != n || p != q || asks != is {
		t.Fatalf("%.200q: %d, %.200v, %t, not %d, %.200v, %t", args, n, q, is, m, p, asks)
	}
}

// All rows of up to four of some pieces.
func TestAllRows(t *testing.T) {
	pieces := []string{"", "!", "=", "!=", "-n", "-z", "-e", "-f", "-d", "-eq", "-ne", "-lt", "-le", "-gt", "-ge", "-q", "a", "1", "01", "-2", " ", "9223372036854775808"}
	rows := [][]string{nil}
	for range 4 {
		var longer [][]string
		for _, row := range rows {
			for _, p := range pieces {
				args := append(row[:len(row):len(row)], p)
				asSpelt(t, args...)
				longer = append(longer, args)
			}
		}
		rows = longer
	}
	asSpelt(t)
}

// Longer rows, most of which look like shorter ones.
func TestLongerRowsByChance(t *testing.T) {
	r := rand.New(rand.NewSource(172))
	pieces := []string{"!", "!", "!", "", "a", "-n", "-z", "-f", "=", "-eq", "1", "-a", "(", ")"}
	for range 100000 {
		args := make([]string, 3+r.Intn(6))
		for i := range args {
			args[i] = pieces[r.Intn(len(pieces))]
		}
		asSpelt(t, args...)
	}
}

// blankText is some blanks, none mostly.
func blankText(r *rand.Rand) string {
	return []string{"", "", "", " ", "\t", "\n", " \n\t "}[r.Intn(7)]
}

// written is a number as a text, in one of its ways.
func written(r *rand.Rand, n *big.Int) string {
	s := []string{n.Text(10), "0" + n.Text(8), "0x" + n.Text(16), "0X" + strings.ToUpper(n.Text(16)), "0x00" + n.Text(16), "000" + n.Text(8)}[r.Intn(6)]
	sign := []string{"", "", "+", "-"}[r.Intn(4)]
	return blankText(r) + sign + s + blankText(r)
}

// nearBytes is a text of bytes that numbers have, some of which are none.
func nearBytes(r *rand.Rand) string {
	const some = "0017889aAxX+- \t\n\v._"
	b := make([]byte, r.Intn(5))
	for i := range b {
		b[i] = some[r.Intn(len(some))]
	}
	return string(b)
}

// Numbers of all sizes, above what may be too, and what looks like them.
func TestNumbersByChance(t *testing.T) {
	r := rand.New(rand.NewSource(173))
	ops := []string{"-eq", "-ne", "-lt", "-le", "-gt", "-ge"}
	for range 60000 {
		a := new(big.Int).Rand(r, new(big.Int).Lsh(big.NewInt(1), uint(1+r.Intn(65))))
		b := new(big.Int).Add(a, big.NewInt(int64(r.Intn(3)))) // near it
		if r.Intn(3) == 0 {
			b.Rand(r, new(big.Int).Lsh(big.NewInt(1), uint(1+r.Intn(65))))
		}
		left, right := written(r, a), written(r, b)
		switch r.Intn(8) {
		case 0:
			left = nearBytes(r)
		case 1:
			right = nearBytes(r)
		case 2:
			left, right = nearBytes(r), nearBytes(r)
		}
		for _, op := range ops {
			asSpelt(t, left, op, right)
			asSpelt(t, "!", left, op, right)
		}
	}
}
