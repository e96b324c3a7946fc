package env_test

import (
	"math"
	"math/rand"
	"regexp"
	"slices"
	"strconv"
	"strings"
	"testing"

	"kinetoscope/arith"
	"kinetoscope/env"
)

// wide is an Env that has some of all.
func wide() env.Env {
	return env.Env{
		Vars:   []arith.Var{{Name: "A", Value: "1"}, {Name: "_", Value: ""}, {Name: "a", Value: "x y"}, {Name: "aB", Value: "\x00\xff"}, {Name: "ab", Value: "a"}},
		Args:   []string{"one", "", "t h", "4"},
		Status: 17,
		Flags:  "fx",
	}
}

// vars are variables of names and values, by turns.
func vars(l ...string) []arith.Var {
	var all []arith.Var
	for i := 0; i < len(l); i += 2 {
		all = append(all, arith.Var{Name: l[i], Value: l[i+1]})
	}
	return all
}

// args is an Env of arguments alone.
func args(l ...string) env.Env { return env.Env{Args: l} }

// alike tells whether two Envs have the same fields; it is spelt out, so that Same plays no part.
func alike(a, b env.Env) bool {
	if len(a.Vars) != len(b.Vars) || len(a.Args) != len(b.Args) {
		return false
	}
	for i := range a.Vars {
		if a.Vars[i].Name != b.Vars[i].Name || a.Vars[i].Value != b.Vars[i].Value {
			return false
		}
	}
	for i := range a.Args {
		if a.Args[i] != b.Args[i] {
			return false
		}
	}
	return a.Status == b.Status && a.Flags == b.Flags
}

// holds holds an Env.
func holds(t *testing.T, what string, got, want env.Env) {
	t.Helper()
	if !alike(got, want) {
		t.Errorf("%.80s: %+v, not %+v", what, got, want)
	}
}

// gets holds a parameter that is set.
func gets(t *testing.T, e env.Env, name, want string) {
	t.Helper()
	if got, is := e.Get(name); got != want || !is {
		t.Errorf("%.40q of %+v: %.80q, %t, not %.80q", name, e, got, is, want)
	}
}

// lacks holds parameters that aren't set.
func lacks(t *testing.T, e env.Env, names ...string) {
	t.Helper()
	for _, name := range names {
		if got, is := e.Get(name); got != "" || is {
			t.Errorf("%.40q of %+v: %.80q, %t", name, e, got, is)
		}
	}
}

// short is all texts of some bytes at most.
func short(bytes string, most int) []string {
	all := []string{""}
	for from := 0; most > 0; most-- {
		to := len(all)
		for _, s := range all[from:to] {
			for i := range len(bytes) {
				all = append(all, s+bytes[i:i+1])
			}
		}
		from = to
	}
	return all
}

var (
	isName   = regexp.MustCompile(`^[A-Za-z_][A-Za-z_0-9]*\z`)
	isNumber = regexp.MustCompile(`^[1-9][0-9]{0,8}\z`)
)

// spelt is a parameter as the chapter tells it.
func spelt(e env.Env, name string) (string, bool) {
	named := slices.IndexFunc(e.Vars, func(v arith.Var) bool { return v.Name == name })
	n, _ := strconv.Atoi(name)
	switch {
	case isName.MatchString(name) && named >= 0:
		return e.Vars[named].Value, true
	case isNumber.MatchString(name) && n <= len(e.Args):
		return e.Args[n-1], true
	case name == "0":
		return "sh", true
	case name == "?":
		return strconv.Itoa(e.Status), true
	case name == "#":
		return strconv.Itoa(len(e.Args)), true
	case name == "-":
		return e.Flags, true
	case name == "@" || name == "*":
		all, ifs := "", speltIfs(e)
		for i, a := range e.Args {
			if i > 0 && ifs != "" {
				all += string([]byte{ifs[0]})
			}
			all += a
		}
		return all, len(e.Args) > 0
	}
	return "", false
}

// speltIfs is what separates fields as the chapter tells it.
func speltIfs(e env.Env) string {
	for _, v := range e.Vars {
		if v.Name == "IFS" {
			return v.Value
		}
	}
	return " \t\n"
}

// asSpelt holds a parameter against the chapter's words.
func asSpelt(t *testing.T, e env.Env, name string) {
	t.Helper()
	want, has := spelt(e, name)
	if got, is := e.Get(name); got != want || is != has {
		t.Errorf("%.40q of %+v: %.80q, %t, not %.80q, %t", name, e, got, is, want, has)
	}
}

// P14.1

func TestGetVariables(t *testing.T) {
	e := wide()
	gets(t, e, "A", "1")
	gets(t, e, "_", "")
	gets(t, e, "a", "x y")
	gets(t, e, "aB", "\x00\xff")
	gets(t, e, "ab", "a")
	lacks(t, e, "B", "b", "aa", "aBa", "__", "AA", "IFS", "sh", "a ", " a", "a\n", "a=", "$a", "a-b", "é", "1a")
	lacks(t, env.Env{}, "A", "_", "a")
	for i := range 100 { // one among many
		e = e.Set("v"+strconv.Itoa(i), strconv.Itoa(i*i))
	}
	for i := range 100 {
		gets(t, e, "v"+strconv.Itoa(i), strconv.Itoa(i*i))
	}
	lacks(t, e, "v", "v00", "v100")
}

func TestGetArguments(t *testing.T) {
	e := wide()
	gets(t, e, "1", "one")
	gets(t, e, "2", "")
	gets(t, e, "3", "t h")
	gets(t, e, "4", "4")
	lacks(t, e, "5", "6", "10", "40", "999999999")
	lacks(t, env.Env{}, "1", "2", "999999999")
	for _, zeros := range []string{"0", "00", "00000000", "000000000000"} {
		lacks(t, e, zeros+"0", zeros+"1", zeros+"4")
	}
	lacks(t, e, "", "+1", "-1", "-0", "+0", " 1", "1 ", "1.0", "1e0", "0x1", "0b1", "1_0", "1a", "١", "１", "\x00", "1\x00", "1\n")
	for n := range 1200 {
		e.Args = append(e.Args, strconv.Itoa(n+5))
	}
	for n := 4; n <= 1204; n++ {
		gets(t, e, strconv.Itoa(n), strconv.Itoa(n))
	}
	lacks(t, e, "1205", "1_0", "012")
}

func TestGetOneOfMany(t *testing.T) {
	e := args(make([]string, 1000000)...)
	e.Args[99999], e.Args[999998], e.Args[999999] = "a", "b", "c"
	gets(t, e, "100000", "a")
	gets(t, e, "999999", "b")
	gets(t, e, "1000000", "c")
	for _, name := range []string{"1000001", "0100000", "0999999"} {
		if v, is := e.Get(name); v != "" || is { // not by lacks, that would show them all
			t.Error(name, v, is)
		}
	}
}

// A number of more than nine digits is none, however its bits may go round.
func TestGetNumbersThatAreTooLong(t *testing.T) {
	e := wide()
	for _, s := range []string{"1000000000", "1000000001", "4294967296", "4294967297", "8589934594", "18446744073709551616", "18446744073709551617",
		"36893488147419103234", "340282366920938463463374607431768211457", "9223372036854775807", "9223372036854775808"} {
		lacks(t, e, s)
	}
	for n := 1; n <= 70; n++ {
		lacks(t, e, "1"+strings.Repeat("0", n), strings.Repeat("9", n), "1"+strings.Repeat("0", n)+"1", strings.Repeat("0", n)+"1")
	}
	lacks(t, e, strings.Repeat("1", 100000))
}

func TestGetTheRest(t *testing.T) {
	e := wide()
	gets(t, e, "0", "sh")
	gets(t, e, "?", "17")
	gets(t, e, "#", "4")
	gets(t, e, "-", "fx")
	gets(t, e, "@", "one  t h 4")
	gets(t, e, "*", "one  t h 4")
	e = env.Env{}
	gets(t, e, "0", "sh")
	gets(t, e, "?", "0")
	gets(t, e, "#", "0")
	gets(t, e, "-", "")
	lacks(t, e, "@", "*")
	for n := range 256 {
		gets(t, env.Env{Status: n}, "?", strconv.Itoa(n))
		gets(t, args(make([]string, n)...), "#", strconv.Itoa(n))
	}
}

// Between arguments stands the first byte of IFS, whatever byte that is; ahead of them, and behind, nothing.
func TestGetAllArguments(t *testing.T) {
	both := func(ifs string, want string, l ...string) {
		t.Helper()
		e := args(l...).Set("IFS", ifs)
		gets(t, e, "@", want)
		gets(t, e, "*", want)
	}
	both(":", "a:b:c", "a", "b", "c")
	both(": -", "a:b", "a", "b")
	both("-:", "a-b", "a", "b")
	both("", "abc", "a", "b", "c")
	both("", "", "", "")
	both(":", "", "")
	both(":", ":", "", "")
	both(":", "::", "", "", "")
	both(":", "a", "a")
	both(":", ":a::", ":a:", "")
	both("\n ", "a\nb", "a", "b")
	both("\x00", "a\x00b", "a", "b")
	both("é", "a\xc3b", "a", "b")
	both("\xff", "é\xff\xa9", "é", "\xa9")
	for _, e := range []env.Env{args("a", "b"), args("a", "b").Set("ifs", ":").Set("IFS_", ":").Set("IF", ":"), args("a", "b").Set("IFS", ":").Unset("IFS")} {
		gets(t, e, "@", "a b")
		gets(t, e, "*", "a b")
	}
	gets(t, args(""), "@", "")
	gets(t, args("", ""), "*", " ")
	lacks(t, env.Env{}.Set("IFS", ":"), "@", "*")
	lacks(t, env.Env{}.Set("IFS", ""), "@", "*")
}

// All texts of up to three of these bytes, and each byte by itself, and behind an a, and behind a 1.
func TestGetAnyName(t *testing.T) {
	more := args("one", "two", "3", "4", "5", "6", "7", "8", "9", "ten", "11").Set("a", "va").Set("aa", "vaa").Set("Z1", "vz").Set("IFS", "-")
	for _, e := range []env.Env{{}, wide(), more} {
		for _, name := range short("aZ_019?#-@*+ $\n\x00\xff", 3) {
			asSpelt(t, e, name)
		}
		for c := range 256 {
			s := string([]byte{byte(c)})
			asSpelt(t, e, s)
			asSpelt(t, e, "a"+s)
			asSpelt(t, e, "1"+s)
			asSpelt(t, e, s+"1")
		}
	}
}

// P14.2

func TestSetExample(t *testing.T) {
	e := env.Env{}.Set("x", "1").Set("y", "2")
	holds(t, "both", e, env.Env{Vars: vars("x", "1", "y", "2")})
	holds(t, "y alone", e.Unset("x"), env.Env{Vars: vars("y", "2")})
}

func TestSet(t *testing.T) {
	sets := func(e env.Env, name, value string, want ...string) {
		t.Helper()
		all := e
		all.Vars = vars(want...)
		holds(t, name, e.Set(name, value), all)
	}
	e := env.Env{Vars: vars("b", "1", "d", "2"), Args: []string{"a"}, Status: 2, Flags: "e"}
	sets(e, "a", "x", "a", "x", "b", "1", "d", "2")
	sets(e, "c", "x", "b", "1", "c", "x", "d", "2")
	sets(e, "e", "x", "b", "1", "d", "2", "e", "x")
	sets(e, "b", "x", "b", "x", "d", "2")
	sets(e, "d", "x", "b", "1", "d", "x")
	sets(e, "d", "", "b", "1", "d", "")
	sets(e, "d", "2", "b", "1", "d", "2")
	sets(e, "c", "\x00\n'\xff=", "b", "1", "c", "\x00\n'\xff=", "d", "2")
	sets(env.Env{}, "a", "", "a", "")
	sets(wide(), "aA", "!", "A", "1", "_", "", "a", "x y", "aA", "!", "aB", "\x00\xff", "ab", "a")
	for _, name := range []string{"", "0", "1", "?", "#", "-", "@", "*", "1b", "b ", " b", "b-", "b=", "$b", "é", "b\xff", "b\x00", "b\n", "+b"} {
		holds(t, name, e.Set(name, "x"), e)
	}
}

// Byte by byte: capital letters, _, small ones; and a name ahead of all that begin with it.
func TestSetInOrder(t *testing.T) {
	names := []string{"A", "A0", "A00", "A1", "A9", "AZ", "A_", "Aa", "B", "Z", "Z_", "_", "_1", "_A", "__", "_a", "a", "a0", "aA", "a_", "aa", "aaa", "b", "z", "zZ", "z_"}
	var want env.Env
	for _, n := range names {
		want.Vars = append(want.Vars, arith.Var{Name: n, Value: "v" + n})
	}
	r := rand.New(rand.NewSource(142))
	for range 300 {
		var e env.Env
		for _, i := range r.Perm(len(names)) {
			e = e.Set(names[i], "v"+names[i])
		}
		holds(t, "all", e, want)
	}
}

func TestUnset(t *testing.T) {
	e := wide()
	for i, v := range e.Vars {
		want := wide()
		want.Vars = slices.Delete(want.Vars, i, i+1)
		holds(t, v.Name, e.Unset(v.Name), want)
		holds(t, v.Name, e.Unset(v.Name).Unset(v.Name), want)
	}
	for _, name := range []string{"", "B", "aa", "a ", "abc", "AB", "Z", "z", "0", "1", "?", "#", "-", "@", "*", "é", "\xff", "\x00"} {
		holds(t, name, e.Unset(name), e)
	}
	holds(t, "nothing", env.Env{}.Unset("a"), env.Env{})
	holds(t, "the only one", env.Env{Vars: vars("a", "1")}.Unset("a"), env.Env{})
}

// flags are all rows of them.
func flags() []string {
	all := []string{""}
	for _, f := range []string{"e", "f", "u", "x"} {
		for _, s := range slices.Clone(all) {
			all = append(all, s+f)
		}
	}
	return all
}

func TestFlag(t *testing.T) {
	for _, s := range flags() {
		e := wide()
		e.Flags = s
		for c := range 256 {
			f := string([]byte{byte(c)})
			with, without := e, e
			if strings.Contains("efux", f) {
				without.Flags = strings.ReplaceAll(s, f, "")
				l := strings.Split(without.Flags+f, "")
				slices.Sort(l)
				with.Flags = strings.Join(l, "")
			}
			holds(t, s+" with "+f, e.Flag(byte(c), true), with)
			holds(t, s+" without "+f, e.Flag(byte(c), false), without)
			if e.Has(byte(c)) != strings.Contains(s, f) {
				t.Errorf("%q has %q: %t", s, f, e.Has(byte(c)))
			}
		}
	}
}

func TestFlagByHand(t *testing.T) {
	e := env.Env{}.Flag('x', true).Flag('e', true).Flag('u', true).Flag('e', true)
	if e.Flags != "eux" {
		t.Error(e.Flags)
	}
	if e = e.Flag('u', false).Flag('f', true).Flag('E', true).Flag(0, true).Flag('-', true); e.Flags != "efx" {
		t.Error(e.Flags)
	}
	if !e.Has('e') || !e.Has('f') || e.Has('u') || !e.Has('x') || e.Has('X') || e.Has(0) {
		t.Error(e.Flags)
	}
	if e = e.Flag('e', false).Flag('f', false).Flag('x', false).Flag('x', false); e.Flags != "" {
		t.Error(e.Flags)
	}
}

func TestShift(t *testing.T) {
	e := wide()
	for n := 0; n <= len(e.Args); n++ {
		want := wide()
		want.Args = want.Args[n:]
		got, is := e.Shift(n)
		if holds(t, strconv.Itoa(n), got, want); !is {
			t.Error(n)
		}
	}
	for _, n := range []int{-1, -2, -4, -5, 5, 6, 1 << 32, 1<<32 + 1, math.MinInt, math.MaxInt, math.MinInt + 1} {
		got, is := e.Shift(n)
		if holds(t, strconv.Itoa(n), got, e); is {
			t.Error(n)
		}
	}
	for n, want := range map[int]bool{0: true, 1: false, -1: false} {
		got, is := env.Env{Status: 3}.Shift(n)
		if holds(t, strconv.Itoa(n), got, env.Env{Status: 3}); is != want {
			t.Error(n, is)
		}
	}
}

func TestIfs(t *testing.T) {
	for _, e := range []env.Env{{}, wide(), wide().Set("ifs", ":").Set("IFSX", ":").Set("IF", ":").Set("_IFS", ":"), wide().Set("IFS", ":").Unset("IFS")} {
		if got := e.Ifs(); got != " \t\n" {
			t.Errorf("%+v: %q", e, got)
		}
	}
	for _, s := range []string{"", " ", ":", "\n\t ", "::", "é", "\x00\xff", strings.Repeat("v", 5000)} {
		if got := wide().Set("IFS", s).Ifs(); got != s {
			t.Errorf("%.40q: %.40q", s, got)
		}
	}
}

// P14.3

func TestSame(t *testing.T) {
	all := []env.Env{wide(), {}, wide().Set("b", ""), wide().Set("A", "2"), wide().Set("A", ""), wide().Unset("A"), wide().Unset("ab"), wide().Unset("_")}
	for _, v := range [][]arith.Var{nil, vars("a", ""), vars("a", "b"), vars("b", "a"), vars("ab", ""), vars("a", "", "b", ""), vars("a", "b", "b", "b"), vars("b", "")} {
		all = append(all, env.Env{Vars: v, Flags: "e"})
	}
	for _, a := range [][]string{nil, {""}, {"", ""}, {"a"}, {"a", ""}, {"", "a"}, {"a", "b"}, {"b", "a"}, {"ab"}, {"a b"}} {
		all = append(all, env.Env{Args: a, Flags: "f"})
	}
	for _, n := range []int{0, 1, 2, 10, 255} {
		all = append(all, env.Env{Status: n, Flags: "u"})
	}
	for _, s := range flags() {
		all = append(all, env.Env{Flags: s, Status: 9})
	}
	for i, a := range all {
		for j, b := range all {
			b.Vars, b.Args = append(make([]arith.Var, 0, 50), b.Vars...), append(make([]string, 0, 50), b.Args...)
			if got := env.Same(a, b); got != (i == j) {
				t.Errorf("%+v, %+v: %t", a, b, got)
			}
		}
	}
}

func TestSameOfNothing(t *testing.T) {
	if !env.Same(env.Env{}, env.Env{Vars: []arith.Var{}, Args: []string{}}) || !env.Same(env.Env{Vars: []arith.Var{}, Args: []string{}}, env.Env{}) {
		t.Error("nil and empty lists are one")
	}
}

// P14.4

// kept are parameters, and what else an Env tells.
func kept(e env.Env) map[string]string {
	all := map[string]string{"Ifs": e.Ifs() + "."} // a name that isn't asked for below
	for _, name := range append(short("ab_B", 3), "0", "1", "2", "3", "4", "5", "?", "#", "-", "@", "*", "IFS", "A", "v") {
		if v, is := e.Get(name); is {
			all[name] = v
		}
	}
	return all
}

// differs holds in what two Envs differ.
func differs(t *testing.T, what string, a, b env.Env, want ...string) {
	t.Helper()
	x, y := kept(a), kept(b)
	var got []string
	for name := range x {
		if _, is := y[name]; !is {
			got = append(got, name)
		}
	}
	for name := range y {
		if v, is := x[name]; !is || v != y[name] {
			got = append(got, name)
		}
	}
	slices.Sort(got)
	slices.Sort(want)
	if !slices.Equal(got, want) {
		t.Errorf("%s differs in %q, not %q", what, got, want)
	}
}

func TestWhatWasSet(t *testing.T) {
	e := wide()
	for _, name := range append(short("ab_B", 3), "A", "v") {
		f := e.Set(name, "new")
		if name == "" {
			differs(t, name, e, f)
			continue
		}
		differs(t, name, e, f, name)
		gets(t, f, name, "new")
		g := f.Unset(name)
		differs(t, name, f, g, name)
		lacks(t, g, name)
		gets(t, g.Set(name, ""), name, "")
	}
	differs(t, "IFS", e, e.Set("IFS", ":"), "@", "*", "IFS", "Ifs")
	differs(t, "e", e, e.Flag('e', true), "-")
	differs(t, "f", e, e.Flag('f', false), "-")
	differs(t, "z", e, e.Flag('z', true))
	f, _ := e.Shift(1)
	differs(t, "1", e, f, "1", "2", "3", "4", "#", "@", "*")
	f, _ = e.Shift(0)
	differs(t, "0", e, f)
	f, _ = e.Shift(5)
	differs(t, "5", e, f)
}

// model is an Env that is kept another way.
type model struct {
	vars  map[string]string
	args  []string
	flags map[string]int
}

// env is the model's Env.
func (m model) env() env.Env {
	var e env.Env
	for name, value := range m.vars {
		e.Vars = append(e.Vars, arith.Var{Name: name, Value: value})
	}
	slices.SortFunc(e.Vars, func(a, b arith.Var) int { return strings.Compare(a.Name, b.Name) })
	for _, f := range []string{"e", "f", "u", "x"} {
		if m.flags[f] > 0 {
			e.Flags += f
		}
	}
	e.Args, e.Status = m.args, 42
	return e
}

// byChance is one of some texts.
func byChance(r *rand.Rand, l ...string) string { return l[r.Intn(len(l))] }

// move does something by chance to an Env, and to its model.
func (m *model) move(r *rand.Rand, e env.Env) env.Env {
	name := byChance(r, "a", "b", "ab", "aa", "A", "_", "B1", "IFS", "z", "", "1", "@", "a-")
	value := byChance(r, "", "v", ":", " x", "\x00\xff", "é")
	switch r.Intn(6) {
	case 0, 1:
		if isName.MatchString(name) {
			m.vars[name] = value
		}
		return e.Set(name, value)
	case 2:
		delete(m.vars, name)
		return e.Unset(name)
	case 3:
		f := byChance(r, "e", "f", "u", "x", "z", "E")
		m.flags[f] = r.Intn(2)
		return e.Flag(f[0], m.flags[f] > 0)
	case 4:
		m.args = append(slices.Clone(m.args), value)
		e.Args = append(slices.Clone(e.Args), value)
		return e
	}
	n := r.Intn(5) - 1
	if n >= 0 && n <= len(m.args) {
		m.args = m.args[n:]
	}
	e, _ = e.Shift(n)
	return e
}

// After many moves all is as the model has it, and each Env on the way is what it was.
func TestManyMoves(t *testing.T) {
	r := rand.New(rand.NewSource(144))
	for range 300 {
		m := model{map[string]string{}, nil, map[string]int{}}
		e := env.Env{Status: 42}
		var all, were []env.Env
		for range 60 {
			e = m.move(r, e)
			all, were = append(all, e), append(were, m.env())
			for _, name := range []string{"a", "ab", "IFS", "z", "1", "3", "?", "#", "-", "@", "*"} {
				asSpelt(t, e, name)
			}
			if e.Ifs() != speltIfs(e) {
				t.Errorf("%+v: %q", e, e.Ifs())
			}
		}
		for i := range all {
			holds(t, "on the way", all[i], were[i])
		}
	}
}

// moves are all that tell an Env, where it changes something and where it doesn't.
func moves() map[string]func(e env.Env) env.Env {
	shifted := func(n int) func(e env.Env) env.Env {
		return func(e env.Env) env.Env {
			e, _ = e.Shift(n)
			return e
		}
	}
	return map[string]func(e env.Env) env.Env{
		"set a new one":  func(e env.Env) env.Env { return e.Set("aa", "1") },
		"set the first":  func(e env.Env) env.Env { return e.Set("A", "9") },
		"set the last":   func(e env.Env) env.Env { return e.Set("zz", "9") },
		"set it again":   func(e env.Env) env.Env { return e.Set("A", "1") },
		"set no name":    func(e env.Env) env.Env { return e.Set("1", "1") },
		"unset":          func(e env.Env) env.Env { return e.Unset("A") },
		"unset the last": func(e env.Env) env.Env { return e.Unset("ab") },
		"unset nothing":  func(e env.Env) env.Env { return e.Unset("no") },
		"flag":           func(e env.Env) env.Env { return e.Flag('e', true) },
		"no flag":        func(e env.Env) env.Env { return e.Flag('f', false) },
		"flag again":     func(e env.Env) env.Env { return e.Flag('f', true) },
		"no such flag":   func(e env.Env) env.Env { return e.Flag('z', true) },
		"shift 0":        shifted(0),
		"shift 1":        shifted(1),
		"shift all":      shifted(4),
		"shift too many": shifted(5),
		"shift below 0":  shifted(-1),
	}
}

// spoil writes over an Env's lists, and behind them.
func spoil(e env.Env) {
	_, _ = append(e.Vars, arith.Var{Name: "spoilt"}), append(e.Args, "spoilt")
	for i := range e.Vars {
		e.Vars[i] = arith.Var{Name: "spoilt"}
	}
	for i := range e.Args {
		e.Args[i] = "spoilt"
	}
}

// roomy is an Env whose lists have room behind them, and what stands there.
func roomy() (env.Env, env.Env) {
	e, room := wide(), wide()
	room.Vars, room.Args = append(room.Vars, vars("z", "room")...), append(room.Args, "room")
	e.Vars, e.Args = room.Vars[:len(e.Vars)], room.Args[:len(e.Args)]
	return e, room
}

func TestInNewMemory(t *testing.T) {
	for name, move := range moves() {
		e, room := roomy()
		_, want := roomy()
		a := move(e)
		holds(t, name+", what was handed in", room, want)
		b, was := move(e), move(wide())
		spoil(a)
		holds(t, name+", what was handed in, when what was told is spoilt", room, want)
		holds(t, name+", what was told, when another one is spoilt", b, was)
		holds(t, name+", what is told again", move(e), was)
		spoil(e)
		holds(t, name+", what was told, when what was handed in is spoilt", b, was)
	}
}

func TestAskingLeaves(t *testing.T) {
	e, room := roomy()
	_, want := roomy()
	for _, name := range []string{"a", "no", "0", "1", "9", "?", "#", "-", "@", "*", "", "x y"} {
		e.Get(name)
	}
	e.Ifs()
	e.Has('e')
	env.Same(e, room)
	holds(t, "what was handed in", room, want)
}

// Envs that the chapter doesn't tell of: all calls end, with some answer.
func TestOddEnvs(t *testing.T) {
	odd := []env.Env{
		{Vars: vars("z", "1", "a", "2", "z", "3", "", "4", "1", "5")},
		{Vars: vars("a", "1", "a", "2", "a", "3")},
		{Flags: "zzxxe\x00\xff", Status: -1},
		{Status: math.MinInt, Args: []string{"", "\x00"}},
		{Status: math.MaxInt, Vars: vars("IFS", "1", "IFS", "2", "A", "3"), Args: []string{"a", "b"}},
	}
	for _, e := range odd {
		for _, move := range moves() {
			f := move(e)
			for _, name := range append(short("az10@*?#-", 2), "IFS") {
				f.Get(name)
			}
			f.Ifs()
			f.Has('z')
			if !env.Same(f, f) || !env.Same(move(e), f) {
				t.Errorf("%+v: not the same again", e)
			}
		}
	}
}
