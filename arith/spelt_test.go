package arith_test

import (
	"math/big"
	"math/rand"
	"regexp"
	"slices"
	"sort"
	"strings"
	"testing"

	"kinetoscope/api"
	"kinetoscope/arith"
)

// The chapter's words spelt another way: a row of tokens is split where what binds least stands, and reckoned without a bound, then cut to 64 bits.

var (
	asToken  = regexp.MustCompile(`(?s)[A-Za-z0-9_]+|\|\||&&|==|!=|<=|>=|<<|>>|\$\{|[^ \t\n]`)
	asName   = regexp.MustCompile(`^[A-Za-z_][A-Za-z0-9_]*$`)
	asNumber = regexp.MustCompile(`^(?:0[xX]([0-9a-fA-F]+)|0([0-7]*)|([1-9][0-9]*))$`)
	asValue  = regexp.MustCompile(`^[ \t\n]*(?:([+-]?)(0[xX][0-9a-fA-F]+|0[0-7]*|[1-9][0-9]*))?[ \t\n]*$`)
)

// table is the chapter's, from what binds least on, but for its first line and its last one.
const table = "||  &&  |  ^  &  == !=  < <= > >=  << >>  + -  * / %"

// tableRows are its lines, each with the signs it has.
func tableRows() [][]string {
	var l [][]string
	for _, line := range strings.Split(table, "  ") {
		l = append(l, strings.Fields(line))
	}
	return l
}

// speltDigits is a number without a sign; nil: it is none, or above what may be.
func speltDigits(s string) *big.Int {
	m := asNumber.FindStringSubmatch(s)
	if m == nil {
		return nil
	}
	n := new(big.Int)
	switch {
	case m[1] != "":
		n.SetString(m[1], 16)
	case m[3] != "":
		n.SetString(m[3], 10)
	default:
		n.SetString("0"+m[2], 8)
	}
	if n.BitLen() > 63 {
		return nil
	}
	return n
}

// speltNumber is as Number.
func speltNumber(s string) (int64, bool) {
	m := asValue.FindStringSubmatch(s)
	if m == nil {
		return 0, false
	}
	if m[2] == "" {
		return 0, true
	}
	n := speltDigits(m[2])
	if n == nil {
		return 0, false
	}
	if m[1] == "-" {
		n.Neg(n)
	}
	return n.Int64(), true
}

// tree is an expression: a sign with what it stands ahead of, or between; or a name, or a number, without any.
type tree struct {
	sign string
	kids []*tree
	text string
	deep int // in how many parts that count the deepest of its parts is, itself one of them
}

// deeper is a tree of kids, in which all stands one deeper.
func deeper(sign string, kids ...*tree) *tree {
	t := joined(sign, kids...)
	t.deep++
	return t
}

// joined is a tree of kids, as deep as they are; nil, if one is none.
func joined(sign string, kids ...*tree) *tree {
	t := &tree{sign: sign, kids: kids}
	for _, k := range kids {
		if k == nil {
			return &tree{sign: "none"}
		}
		t.deep = max(t.deep, k.deep)
	}
	return t
}

// ok tells whether a tree is whole.
func (t *tree) ok() bool {
	return t != nil && t.sign != "none" && !slices.ContainsFunc(t.kids, func(k *tree) bool { return !k.ok() })
}

// split is the tree of a row of tokens; one that isn't ok: they are no expression.
func split(l []string, rows [][]string) *tree {
	level := levels(l)
	if len(l) == 0 || level == nil {
		return nil
	}
	if at := slices.Index(level, -1); at >= 0 { // a first ? that stands in nothing
		to := colon(l, level, at)
		if to < 0 {
			return nil
		}
		ask, yes, no := split(l[:at], rows), split(l[at+1:to], rows), split(l[to+1:], rows)
		return joined("?", ask, deeper("", yes, no))
	}
	for _, row := range rows {
		for at := len(l) - 2; at > 0; at-- {
			if level[at] == 0 && slices.Contains(row, l[at]) && ends(l[at-1]) {
				return joined(l[at], split(l[:at], rows), split(l[at+1:], rows))
			}
		}
	}
	if strings.Contains("!~+-", l[0]) {
		return deeper(l[0], split(l[1:], rows))
	}
	if l[0] == "(" && l[len(l)-1] == ")" {
		return deeper("(", split(l[1:len(l)-1], rows))
	}
	return leaf(l)
}

// levels tells of each token in how many parentheses it stands, -1 of a ? in none; nil: they don't fit.
func levels(l []string) []int {
	var level []int
	n := 0
	for _, s := range l {
		if s == ")" {
			n--
		}
		if n < 0 {
			return nil
		}
		if s == "?" && n == 0 {
			level = append(level, -1)
		} else {
			level = append(level, n)
		}
		if s == "(" {
			n++
		}
	}
	if n > 0 {
		return nil
	}
	return level
}

// colon is the place of the colon of a ? in no parentheses.
func colon(l []string, level []int, at int) int {
	open := 0
	for i := at + 1; i < len(l); i++ {
		switch {
		case level[i] < 0:
			open++
		case level[i] == 0 && l[i] == ":":
			if open == 0 {
				return i
			}
			open--
		}
	}
	return -1
}

// ends tells whether something may end with a token.
func ends(s string) bool {
	return s == ")" || s == "}" || asName.MatchString(s) || asNumber.MatchString(s)
}

// leaf is a name, or a number.
func leaf(l []string) *tree {
	switch {
	case len(l) == 1 && speltDigits(l[0]) != nil:
		return &tree{text: l[0]}
	case len(l) == 2 && l[0] == "$":
		l = l[1:]
	case len(l) == 3 && l[0] == "${" && l[2] == "}":
		l = l[1:2]
	}
	if len(l) == 1 && asName.MatchString(l[0]) {
		return &tree{text: l[0]}
	}
	return nil
}

// finished is the tree of a row of tokens that goes on with as little as may be; one that isn't ok: none goes on so.
func finished(l []string, rows [][]string) *tree {
	var close []string
	for _, s := range l {
		switch {
		case s == "(":
			close = append([]string{")"}, close...)
		case s == "?":
			close = append([]string{":", "1"}, close...)
		case s == ")" && len(close) > 0 && close[0] == ")":
			close = close[1:]
		case s == ":" && len(close) > 0 && close[0] == ":":
			close = close[2:]
		}
	}
	for _, more := range []string{"", "1", "x", "}", "x }"} {
		if t := split(slices.Concat(l, strings.Fields(more), close), rows); t.ok() {
			return t
		}
	}
	return nil
}

// speltEval is as Eval.
func speltEval(s string, vars []arith.Var) (int64, api.Errno) {
	l, rows := asToken.FindAllString(s, -1), tableRows()
	first := sort.Search(len(l), func(i int) bool { // what follows on what is wrong is wrong, too
		t := finished(l[:i+1], rows)
		return !t.ok() || t.deep > api.MaxDeep
	})
	if first < len(l) && finished(l[:first+1], rows).ok() {
		return 0, api.ErrDeep
	}
	t := split(l, rows)
	if !t.ok() {
		return 0, api.ErrForm
	}
	n, e := t.reckon(vars)
	if e != api.OK {
		return 0, e
	}
	return n.Int64(), api.OK
}

// reckon is what a tree comes to.
func (t *tree) reckon(vars []arith.Var) (*big.Int, api.Errno) {
	if len(t.kids) == 0 {
		return t.reckonLeaf(vars)
	}
	a, e := t.kids[0].reckon(vars)
	if e != api.OK {
		return nil, e
	}
	switch {
	case t.sign == "?":
		if a.Sign() != 0 {
			return t.kids[1].kids[0].reckon(vars)
		}
		return t.kids[1].kids[1].reckon(vars)
	case len(t.kids) == 1:
		return reckonOne(t.sign, a), api.OK
	case t.sign == "&&" && a.Sign() == 0, t.sign == "||" && a.Sign() != 0:
		return truth(a.Sign() != 0), api.OK
	}
	b, e := t.kids[1].reckon(vars)
	if e != api.OK {
		return nil, e
	}
	if (t.sign == "/" || t.sign == "%") && b.Sign() == 0 {
		return nil, api.ErrZero
	}
	return low(reckonTwo(t.sign, a, b)), api.OK
}

func (t *tree) reckonLeaf(vars []arith.Var) (*big.Int, api.Errno) {
	if n := speltDigits(t.text); n != nil {
		return n, api.OK
	}
	for _, v := range vars {
		if v.Name != t.text {
			continue
		}
		n, ok := speltNumber(v.Value)
		if !ok {
			return nil, api.ErrForm
		}
		return big.NewInt(n), api.OK
	}
	return new(big.Int), api.OK
}

func reckonOne(sign string, a *big.Int) *big.Int {
	n := new(big.Int)
	switch sign {
	case "!":
		return truth(a.Sign() == 0)
	case "~":
		return n.Not(a)
	case "-":
		return low(n.Neg(a))
	}
	return a
}

func reckonTwo(sign string, a, b *big.Int) *big.Int {
	n, by := new(big.Int), uint(new(big.Int).And(b, big.NewInt(63)).Int64())
	switch sign {
	case "||", "&&":
		return truth(b.Sign() != 0)
	case "|":
		return n.Or(a, b)
	case "^":
		return n.Xor(a, b)
	case "&":
		return n.And(a, b)
	case "<<":
		return n.Lsh(a, by)
	case ">>":
		return n.Rsh(a, by)
	case "+":
		return n.Add(a, b)
	case "-":
		return n.Sub(a, b)
	case "*":
		return n.Mul(a, b)
	case "/":
		return n.Quo(a, b)
	case "%":
		return n.Rem(a, b)
	}
	holds := map[string][]int{"==": {0}, "!=": {-1, 1}, "<": {-1}, "<=": {-1, 0}, ">": {1}, ">=": {0, 1}}
	return truth(slices.Contains(holds[sign], a.Cmp(b)))
}

func truth(holds bool) *big.Int {
	if holds {
		return big.NewInt(1)
	}
	return new(big.Int)
}

// low is the 64 lowest bits, as a number with a sign.
func low(n *big.Int) *big.Int {
	all := new(big.Int).Lsh(big.NewInt(1), 64)
	n = new(big.Int).Mod(n, all)
	if n.BitLen() == 64 {
		n.Sub(n, all)
	}
	return n
}

// asSpelt holds of a text that it is as it is spelt; it tells the error.
func asSpelt(t *testing.T, s string) api.Errno {
	t.Helper()
	got, e := arith.Eval(s, values()...)
	want, f := speltEval(s, values())
	if got != want || e != f {
		t.Errorf("Eval(%q): %d, error %d; not %d, error %d", s, got, e, want, f)
	}
	return e
}

// P10.1

// Every short text of such bytes, and longer ones by chance.
func TestNumberAsSpelt(t *testing.T) {
	const bytes = " \n\t+-01789xXaFg_"
	holds := func(s string) {
		got, ok := arith.Number(s)
		if want, is := speltNumber(s); got != want || ok != is {
			t.Errorf("Number(%q): %d, %t; not %d, %t", s, got, ok, want, is)
		}
	}
	texts := []string{""}
	for range 4 {
		var longer []string
		for _, s := range texts {
			holds(s)
			for _, c := range bytes {
				longer = append(longer, s+string(c))
			}
		}
		texts = longer
	}
	for _, s := range texts {
		holds(s)
	}
	r := rand.New(rand.NewSource(101))
	for range 100000 {
		s := []string{"", " ", "-", "+", "\n-", " +"}[r.Intn(6)] + []string{"", "0", "0x", "0X", "9", "92233720368547758", "0x7fffffffffffff", "077777777777777777777"}[r.Intn(8)]
		for range r.Intn(8) {
			s += string("0123456789abcdefABCDEF7f8"[r.Intn(25)])
		}
		holds(s + []string{"", " ", "\t\n", "x"}[r.Intn(4)])
	}
}

// P10.2, P10.3

// Every short row of such pieces.
func TestShortRows(t *testing.T) {
	pieces := []string{"1", "0 ", "one", "word ", "-", "!", "*", "/", "<", "=", "&", "|", "?", ":", "(", ")", "$", "{", "}"}
	texts := []string{""}
	good := 0
	for range 3 {
		var longer []string
		for _, s := range texts {
			for _, p := range pieces {
				longer = append(longer, s+p)
				if asSpelt(t, s+p) == api.OK {
					good++
				}
			}
		}
		texts = longer
	}
	if good < 100 {
		t.Errorf("%d expressions", good)
	}
}

// Longer rows by chance, most of which go on as expressions do.
func TestRowsByChance(t *testing.T) {
	r := rand.New(rand.NewSource(102))
	things := strings.Fields("0 1 2 7 63 64 010 0x1f 08 9223372036854775807 9223372036854775808 zero one two low max empty word sum $seven ${eight} ${x} $y")
	between := strings.Fields("|| && | ^ & == != < <= > >= << >> + - * / % ? : && || ? :")
	told := map[api.Errno]int{}
	for range 30000 {
		s, open := "", 0
		for range 1 + r.Intn(7) {
			for r.Intn(3) == 0 {
				p := []string{"(", "-", "!", "~", "+", " "}[r.Intn(6)]
				open += strings.Count(p, "(")
				s += p
			}
			s += things[r.Intn(len(things))]
			for open > 0 && r.Intn(2) == 0 {
				s += ")"
				open--
			}
			s += between[r.Intn(len(between))]
		}
		if r.Intn(10) > 0 {
			s += "1" + strings.Repeat(")", open)
		}
		told[asSpelt(t, s)]++
	}
	if told[api.OK] < 1000 || told[api.ErrForm] < 1000 || told[api.ErrZero] < 300 {
		t.Errorf("told: %v", told)
	}
}

// Rows that are some 40 deep, and go on by chance; half of them are closed as they were opened.
func TestDeepByChance(t *testing.T) {
	r := rand.New(rand.NewSource(103))
	opens := []string{"(", "--(", "0?1:", "1?", "(1?", "!~", "1+", "1||", "-1?"}
	closes := []string{")", ")", "", ":2", ":2)", "", "", "", ":1"}
	pieces := strings.Fields("( ( - ! 1 ) ? : * 08 $ ${x} 0?1: 1? (1) 1?")
	told := map[api.Errno]int{}
	for range 2000 {
		s, ends := "", ""
		for range 28 + r.Intn(16) {
			i := r.Intn(len(opens))
			s, ends = s+opens[i], closes[i]+ends
		}
		for range r.Intn(6) {
			s += pieces[r.Intn(len(pieces))]
		}
		if r.Intn(2) == 0 {
			s += " 1" + ends
		}
		told[asSpelt(t, s)]++
	}
	if told[api.OK] < 100 || told[api.ErrForm] < 200 || told[api.ErrDeep] < 200 {
		t.Errorf("told: %v", told)
	}
}
