package arith_test

import (
	"math"
	"math/rand"
	"reflect"
	"strings"
	"testing"

	"kinetoscope/api"
	"kinetoscope/arith"
)

// values are variables with values of all kinds; some have none that is a number.
func values() []arith.Var {
	return []arith.Var{
		{Name: "zero", Value: "0"},
		{Name: "one", Value: "1"},
		{Name: "two", Value: " 2\n"},
		{Name: "seven", Value: "+7"},
		{Name: "low", Value: "-0x10"},
		{Name: "eight", Value: "\t010 "},
		{Name: "max", Value: "9223372036854775807"},
		{Name: "empty", Value: ""},
		{Name: "blank", Value: " \t\n"},
		{Name: "word", Value: "abc"},
		{Name: "sum", Value: "1+1"},
		{Name: "big", Value: "9223372036854775808"},
		{Name: "one", Value: "11"},
		{Name: "word", Value: "5"},
		{Name: "_a1", Value: "21"},
		{Name: "1", Value: "31"},
		{Name: "", Value: "41"},
	}
}

// comes holds of each expression that it comes to just that.
func comes(t *testing.T, want map[string]int64) {
	t.Helper()
	for s, n := range want {
		if got, e := arith.Eval(s, values()...); got != n || e != api.OK {
			t.Errorf("Eval(%.90q): %d, error %d; not %d", s, got, e, n)
		}
	}
}

// fails holds of each text that it comes to nothing, but that error.
func fails(t *testing.T, want api.Errno, texts ...string) {
	t.Helper()
	for _, s := range texts {
		if got, e := arith.Eval(s, values()...); got != 0 || e != want {
			t.Errorf("Eval(%.90q): %d, error %d; not error %d", s, got, e, want)
		}
	}
}

// numbers holds of each text that it is just that number.
func numbers(t *testing.T, want map[string]int64) {
	t.Helper()
	for s, n := range want {
		if got, ok := arith.Number(s); got != n || !ok {
			t.Errorf("Number(%.90q): %d, %t; not %d", s, got, ok, n)
		}
	}
}

// none holds of each text that it is no number.
func none(t *testing.T, texts ...string) {
	t.Helper()
	for _, s := range texts {
		if got, ok := arith.Number(s); got != 0 || ok {
			t.Errorf("Number(%.90q): %d, %t", s, got, ok)
		}
	}
}

// within is s with n times what is ahead of it, and what is behind it.
func within(n int, ahead, s, behind string) string {
	return strings.Repeat(ahead, n) + s + strings.Repeat(behind, n)
}

// P10.1

func TestNumber(t *testing.T) {
	numbers(t, map[string]int64{
		"0": 0, "1": 1, "9": 9, "10": 10, "907": 907, "123456789": 123456789,
		"00": 0, "01": 1, "07": 7, "010": 8, "0777": 511, "000012": 10,
		"0x0": 0, "0x1": 1, "0X1": 1, "0xf": 15, "0xF": 15, "0xabcdef": 0xabcdef, "0XABCDEF": 0xabcdef, "0x0010": 16, "0xaB9": 0xab9,
		"+0": 0, "-0": 0, "+5": 5, "-5": -5, "+010": 8, "-010": -8, "+0x10": 16, "-0X1f": -31, "-00": 0,
	})
	none(t, "a", "x1", "_", "1a", "1x", "a1", "08", "09", "018", "0x", "0X", "0xg", "0x1g", "1_0", "0x1_0", "0_7", "0b1", "0o7", "1e3", "1.0", "1.", ".1", "1L", "16#f", "$x", "(1)", "'1'", "\\1",
		"+", "-", "++1", "--1", "+-1", "-+1", "1+", "1-", "1+1", "~1", "!0", "0x+1", "0x-1", "0-1", "0x0x1", "00x1", "x", "0x 1", "é", "\xff", "1\x00", "\x00", "²", "١")
}

func TestNumberBlanks(t *testing.T) {
	numbers(t, map[string]int64{
		"": 0, " ": 0, "\t": 0, "\n": 0, " \t\n\n\t ": 0,
		" 5": 5, "5 ": 5, "\t5\n": 5, "\n\n -5\t \t": -5, " 0x1F ": 31, " 010\n": 8, " +1 ": 1,
	})
	none(t, "1 2", "1\t2", "1\n2", "- 5", "+ 5", "-\n5", " - ", " +\n", "0 x1", "0x 1", "\r", "5\r", "\v5", "\f", "\u00a05", "5\u00a0", "\x00 5", " a ")
}

func TestNumberEdges(t *testing.T) {
	zeros := strings.Repeat("0", 1000)
	numbers(t, map[string]int64{
		"9223372036854775807":           math.MaxInt64,
		"+9223372036854775807":          math.MaxInt64,
		"-9223372036854775807":          -math.MaxInt64,
		"9223372036854775799":           math.MaxInt64 - 8,
		"0x7fffffffffffffff":            math.MaxInt64,
		"-0x7FFFFFFFFFFFFFFF":           -math.MaxInt64,
		"0777777777777777777777":        math.MaxInt64,
		"-0777777777777777777777":       -math.MaxInt64,
		"0" + zeros + "7":               7,
		"0x" + zeros + "8":              8,
		"-" + zeros:                     0,
		"0x00007fffffffffffffff":        math.MaxInt64,
		zeros + "777777777777777777777": math.MaxInt64,
	})
	none(t, "9223372036854775808", "-9223372036854775808", "+9223372036854775808", "9223372036854775810", "9999999999999999999", "10000000000000000000", "18446744073709551615", "18446744073709551616", "18446744073709551617", "99999999999999999999999",
		"0x8000000000000000", "-0x8000000000000000", "0xffffffffffffffff", "0x10000000000000000", "0x10000000000000001", "01000000000000000000000", "-01000000000000000000000", "01777777777777777777777", "02000000000000000000001", "0"+zeros+"8", "1"+zeros)
}

// P10.2

func TestExamples(t *testing.T) {
	if n, e := arith.Eval("1+2*3"); n != 7 || e != api.OK {
		t.Errorf("%d, error %d", n, e)
	}
	if n, e := arith.Eval("x ? 1/0 : 5"); n != 5 || e != api.OK {
		t.Errorf("%d, error %d", n, e)
	}
}

func TestNumbersInExpressions(t *testing.T) {
	comes(t, map[string]int64{
		"0": 0, "1": 1, "907": 907, "00": 0, "017": 15, "0x1f": 31, "0X1F": 31, "+5": 5, "-5": -5, "- 5": -5, "-\n-5": 5,
		"9223372036854775807": math.MaxInt64, "0x7fffffffffffffff": math.MaxInt64, "0777777777777777777777": math.MaxInt64, "-9223372036854775807-1": math.MinInt64,
	})
	fails(t, api.ErrForm, "08", "019", "0x", "0X", "0xg", "0x1g", "1x", "1a", "1_0", "0x_1", "0b1", "1e3", "1.5", ".5", "16#f", "9223372036854775808", "-9223372036854775808", "0x8000000000000000", "01000000000000000000000", "18446744073709551617", "1+08", "x+0x", "0x 1", "0 x1")
}

func TestOperations(t *testing.T) {
	comes(t, map[string]int64{
		"0||0": 0, "0||5": 1, "5||0": 1, "-1||-1": 1, "0&&0": 0, "0&&5": 0, "5&&0": 0, "5&&-7": 1,
		"5|3": 7, "-8|3": -5, "0|0": 0, "5^3": 6, "-1^5": -6, "5^5": 0, "5&3": 1, "-8&15": 8, "-1&-2": -2,
		"1==1": 1, "1==2": 0, "-1==1": 0, "1!=1": 0, "1!=2": 1, "0==-0": 1,
		"1<2": 1, "2<2": 0, "3<2": 0, "-1<0": 1, "1<=2": 1, "2<=2": 1, "3<=2": 0, "0<=-1": 0,
		"1>2": 0, "2>2": 0, "3>2": 1, "0>-1": 1, "1>=2": 0, "2>=2": 1, "3>=2": 1, "-1>=0": 0,
		"1<<0": 1, "1<<3": 8, "3<<2": 12, "-3<<2": -12, "8>>1": 4, "9>>1": 4, "-8>>1": -4, "-9>>1": -5, "-1>>63": -1, "1>>1": 0,
		"2+3": 5, "2+-3": -1, "2-3": -1, "2--3": 5, "6*7": 42, "-6*7": -42, "-6*-7": 42, "0*5": 0,
		"7/2": 3, "-7/2": -3, "7/-2": -3, "-7/-2": 3, "6/3": 2, "1/2": 0, "-1/2": 0, "0/5": 0,
		"7%2": 1, "-7%2": -1, "7%-2": 1, "-7%-2": -1, "6%3": 0, "1%2": 1, "-6%4": -2,
		"!0": 1, "!1": 0, "!5": 0, "!-1": 0, "!!5": 1, "~0": -1, "~-1": 0, "~5": -6, "~~5": 5, "+5": 5, "+-5": -5, "-+5": -5, "--5": 5, "-0": 0, "-~5": 6, "!~-1": 1,
		"1?2:3": 2, "0?2:3": 3, "-1?2:3": 2, "5?0:1": 0,
	})
}

func TestRound(t *testing.T) {
	comes(t, map[string]int64{
		"9223372036854775807+1": math.MinInt64,
		"max+max":               -2,
		"-max-2":                math.MaxInt64,
		"-max-1-1":              math.MaxInt64,
		"max*2":                 -2,
		"max*max":               1,
		"4294967296*4294967296": 0,
		"3037000500*3037000500": -9223372036709301616,
		"-(-max-1)":             math.MinInt64,
		"(-max-1)/-1":           math.MinInt64,
		"(-max-1)%-1":           0,
		"(-max-1)*-1":           math.MinInt64,
		"~max":                  math.MinInt64,
		"1<<63":                 math.MinInt64,
		"1<<62<<1":              math.MinInt64,
		"3<<63":                 math.MinInt64,
		"2<<63":                 0,
		"-max-1<0":              1,
		"max+1<max":             1,
		"0x7fffffffffffffff+0x7fffffffffffffff+2": 0,
	})
}

func TestShifts(t *testing.T) {
	comes(t, map[string]int64{
		"1<<64": 1, "1<<65": 2, "1<<127": math.MinInt64, "1<<128": 1, "5>>64": 5, "5>>65": 2,
		"1<<-1": math.MinInt64, "1<<-64": 1, "1<<-63": 2, "-8>>-63": -4, "-1>>-1": -1, "max>>-1": 0, "max>>62": 1, "8>>max": 0,
		"-8>>63": -1, "1<<4294967297": 2, "-5>>1": -3,
		"1<<0x4000000000000001": 2, "(-max-1)>>63": -1, "-max-1>>1": -4611686018427387904,
	})
}

// Each row of the table binds less than the next one.
func TestRows(t *testing.T) {
	comes(t, map[string]int64{
		"1||0&&0": 1, "0&&0||1": 1, "0&&1|1": 0, "2|1&&2": 1, "1|1^1": 1, "1^1|1": 1, "1^3&2": 3, "2&3^1": 3,
		"2&3==3": 0, "3==3&2": 0, "0==0<1": 0, "1<0==0": 1, "2!=1>=1": 1, "1<1<<1": 1, "1<<1>1": 1,
		"1<<1+1": 4, "1+1<<1": 4, "16>>2-1": 8, "1+2*3": 7, "2*3+1": 7, "7-6/2": 4, "9-7%4": 6,
		"-2+3": 1, "~1+1": -1, "!0+1": 2, "!5*3": 0, "-7/2*2": -6, "-7%4": -3, "2*-3": -6, "!1==0": 1, "~1<<1": -4, "-1>>1": -1, "!0&&0": 0, "-1&3": 3,
		"5&3|8^1": 9, "0x1F+010": 39, "2>1==1": 1, "1+2<<3-1&7|8": 12, "1||1?2:3": 2, "0?1:0||5": 1, "0||0?1:2": 2, "1?0:1||1": 0,
		"1==1?2+3:4": 5, "2-1?3:4": 3,
	})
}

func TestFromTheLeft(t *testing.T) {
	comes(t, map[string]int64{
		"10-3-2": 5, "10-3+2": 9, "10+3-2": 11, "100/5/2": 10, "100/5*2": 40, "7*5/2": 17, "7/2*5": 15, "7%4%2": 1, "17%7*2": 6, "2*17%7": 6,
		"1<<2<<3": 32, "256>>2>>1": 32, "1<<4>>2": 4, "16>>4<<2": 4, "3>2>1": 0, "1<2<3": 1, "3>=2>=2": 0, "-3<-2<-1": 0, "5<=4<=0": 1,
		"2==2==2": 0, "2==2!=0": 1, "1!=1!=2": 1, "0==1==0": 1,
		"0&&0||1||0": 1, "5&6&3": 0, "1|2|4": 7, "1^3^7": 5, "max/2*2": math.MaxInt64 - 1,
	})
}

func TestConditions(t *testing.T) {
	comes(t, map[string]int64{
		"1?2:3?4:5": 2, "0?2:3?4:5": 4, "0?2:0?4:5": 5, "1?1?2:3:4": 2, "1?0?2:3:4": 3, "0?0?2:3:4": 4, "(1?0:1)?2:3": 3,
		"1?2:3+4": 2, "0?2:3+4": 7, "1+1?2:3": 2, "1-1?2:3": 3, "1+(1?2:3)": 3, "(0?1:2)*3": 6, "-1?2:3": 2, "!1?2:3": 3, "-(1?2:3)": -2,
		"1 ? 0 ? 1 : 2 : 0 ? 3 : 4": 2, "0 ? 0 ? 1 : 2 : 0 ? 3 : 4": 4, "0 ? 0 ? 1 : 2 : 1 ? 3 : 4": 3,
		"1?(2):(3)": 2, "x?y:zero": 0, "one?two:seven": 2, "empty?two:seven": 7,
	})
}

func TestNames(t *testing.T) {
	comes(t, map[string]int64{
		"zero": 0, "one": 1, "two": 2, "seven": 7, "low": -16, "eight": 8, "max": math.MaxInt64, "empty": 0, "blank": 0, "_a1": 21,
		"$one": 1, "${one}": 1, "$_a1": 21, "${_a1}": 21, "unknown": 0, "$unknown": 0, "${unknown}": 0, "_": 0, "X": 0, "One": 0, "on": 0, "one1": 0,
		"one+$one+${one}": 3, "-low": 16, "-$low": 16, "low--low": -32, "low-low": 0, "!empty": 1, "two*seven": 14, "$two*${seven}": 14, "two<<two": 8, "one?two:seven": 2,
		"x": 0, "e": 0, "x1": 0, "xFF": 0, "_0": 0,
	})
	fails(t, api.ErrForm, "word", "$word", "${word}", "sum", "big", "1+word", "word+1", "-word", "(word)", "word?1:2", "1?word:2", "word/0", "1/word", "word||1", "word&&0", "1&&word", "0||word", "word==word")
	fails(t, api.ErrForm, "$", "$1", "${1}", "$?", "$#", "$@", "$*", "$-", "$$", "$$one", "$(one)", "$((one))", "${", "${}", "${one", "${one}}", "one}", "}", "{one}", "${one two}", "${one-1}", "${#one}", "${-one}", "${$one}", "${(one)}", "$ {one}", "$-one", "$!one", "$ 1", "one two", "one 1", "1 one", "$one$one", "one$one", "${one}1", "1${one}")
}

// The first variable of a name counts; without variables all names are 0.
func TestVariables(t *testing.T) {
	for s, want := range map[string]int64{"x": 1, "y": 2, "x+y": 3, "z": 0} {
		if n, e := arith.Eval(s, arith.Var{Name: "x", Value: "1"}, arith.Var{Name: "y", Value: "2"}, arith.Var{Name: "x", Value: "word"}); n != want || e != api.OK {
			t.Errorf("Eval(%q): %d, error %d", s, n, e)
		}
		if n, e := arith.Eval(s); n != 0 || e != api.OK {
			t.Errorf("Eval(%q), without variables: %d, error %d", s, n, e)
		}
	}
	if n, e := arith.Eval("x", arith.Var{Name: "x", Value: "word"}, arith.Var{Name: "x", Value: "1"}); n != 0 || e != api.ErrForm {
		t.Errorf("%d, error %d", n, e)
	}
	if n, e := arith.Eval("x", arith.Var{Name: "x ", Value: "3"}, arith.Var{Name: "$x", Value: "4"}); n != 0 || e != api.OK {
		t.Errorf("%d, error %d", n, e)
	}
	got := values()
	arith.Eval("one+two+word", got...)
	if !reflect.DeepEqual(got, values()) {
		t.Errorf("changed: %v", got)
	}
}

func TestBlanks(t *testing.T) {
	comes(t, map[string]int64{
		" 1": 1, "1 ": 1, "\t1\n": 1, " 1 + 2 ": 3, "1\n+\n2": 3, "1\t\t*\t\t2": 2, "( 1 )": 1, "\n(\n1\n)\n": 1, "- 1": -1, "! ! 1": 1, "1 << 3": 8, "1\n<=\n1": 1,
		"1 ? 2 : 3": 2, "1\n?\t2\n:\t3": 2, "$ one": 1, "${ one }": 1, "${\n\tone\n}": 1, "$\none": 1, " one ": 1,
	})
	fails(t, api.ErrForm, "1 2", "0 7", "0 x1", "1 < < 2", "1 > > 2", "1 & & 1", "1 | | 1", "1 = = 1", "1 ! = 2", "1 < = 2", "1 > = 2", "on e 1", "\r", "1\r", "\v1", "1\f+1", "1\u00a0", "1\u2028+1")
}

func TestLongestSigns(t *testing.T) {
	comes(t, map[string]int64{
		"1+++1": 2, "1---1": 0, "1-- -1": 0, "2+-+-3": 5, "++one": 1, "--one": 1, "1<-1": 0, "1<<-1": math.MinInt64, "1==-1": 0, "1!=!1": 1, "1==!0": 1, "1<!0": 0, "1<=!0": 1, "1&~0": 1, "1&&!0": 1, "1|~0": -1, "1||!1": 1, "!1!=1": 1, "1>-1": 1, "1>>-64": 1, "1>=-1": 1,
	})
	fails(t, api.ErrForm, "1&&&1", "1|||1", "1<<<1", "1>>>1", "1>>=1", "1<<=1", "1>=>1", "1<=<1", "1===1", "1!==1", "1=1", "one=1", "1=!1", "one+=1", "!=1", "1!=", "! =1", "1**2", "1//2", "1%%2", "1^^1", "one++", "one--", "1=>1", "1=<1", "1<>1", "1&|1", "1|&1")
}

func TestNoExpressions(t *testing.T) {
	fails(t, api.ErrForm, "", " ", "\n\t", "(", ")", "()", "( )", "(1", "1)", "((1)", "(1))", ")1(", "(1)(2)", "(1)1", "1(1)", "one(1)", "(1,2)", "1,", ",", "1;", "1 2 3",
		"+", "-", "!", "~", "*", "1+", "1*", "*1", "/1", "1+*2", "1*/2", "1+)", "(+)", "(1+)", "(*1)", "1!", "1~", "1!1", "1~1", "one!", "|1", "||1", "1||", "&&1", "1&&", "<1", "1<", "<<1", "1>>", "==1", "1==", "%1",
		"?", ":", "1?", "1?2", "1?2:", "?1:2", "1?:2", "1?2:3:4", "1:2", ":1", "1?2?3:4", "1?2?3:4:", "(1?2):3", "1?(2:3)", "(1?2:)3", "1?2:3?4", "1??2:3", "1?2::3", "1?(2:3", "1?2)",
		"=", "#", "@", ".", "\\", "'", "\"", "`", "[1]", "{1}", "'1'", "\"1\"", "\\1", "1\\", "1\\\n+1", "1#", "a.b", "1 \x00", "\x00", "é", "\xff", "1+é", "²", "1+１")
}

// What stands in 40 others at most.
func TestDeep(t *testing.T) {
	const most = api.MaxDeep
	comes(t, map[string]int64{
		within(most, "(", "5", ")"):                          5,
		within(most, "-", "5", ""):                           5,
		within(most, "! ", "5", ""):                          1,
		within(most, "-+", "5", "")[most:]:                   5,
		within(most, "0?1:", "5", ""):                        5,
		within(most, "1?", "5", ":2"):                        5,
		within(most/2, "(1?", "5", ":2)"):                    5,
		within(most/2, "-(", "5", ")"):                       5,
		within(most/2, "(-", "5", ")"):                       5,
		within(most, "0?1:-", "5", "")[2*len("0?1:-"):]:      -5,
		within(most/3, "0?1:-(", "5", ")"):                   -5,
		within(most-1, "1?-", "5", ":2"):                     -5,
		within(most/2, "(-", "1?2:3", ")"):                   -2,
		within(most, "(", "1", ")") + "?2:3":                 2, // what is asked stands in none
		within(most, "-", "1", "") + "?2:3":                  2,
		within(most-1, "(", "(1)?2:3", ")"):                  2,
		"1?" + within(most-1, "(", "2", ")") + ":3":          2,
		"0?1:" + within(most-1, "-", "2", ""):                -2,
		"(" + within(most-1, "0?1:", "2", "") + ")":          2,
		"-" + within(most-1, "(", "2", ")"):                  -2,
		within(most, "(", "1", ")") + "+-(-(1))":             2, // what ended counts no more
		within(500, "(1)+", "1", ""):                         501,
		within(500, "-1+", "1", ""):                          -499,
		within(500, "(1?2:3)+", "1", ""):                     1001,
		within(500, "(1?-2:3)-", "1?2:3", "") + "+" + "4*-1": 2,
		within(most, "(", "1+${one}+$one", ")"):              3,
	})
	fails(t, api.ErrDeep,
		within(most+1, "(", "5", ")"), within(most+1, "-", "5", ""), within(most+1, "!", "5", ""), within(most+1, "~+", "5", ""), within(most+1, "0?1:", "5", ""), within(most+1, "1?", "5", ":2"),
		within(most/2, "(1?", "(5)", ":2)"), within(most/2, "-(", "-5", ")"), within(most/2, "(-", "(1?2:3)", ")"), within(most, "(", "1?2:3", ")"), within(most, "(", "-1", ")"), within(most, "-", "(1)", ""),
		within(most, "(", "1?2:3", ")"), within(most, "0?1:", "-1", ""), within(most, "1?", "(5)", ":2"), "1?"+within(most, "(", "2", ")")+":3", "1?2:"+within(most, "-", "2", ""), "-"+within(most, "(", "2", ")"), "("+within(most, "-", "2", "")+")",
		within(most, "(", "1", ")")+"+"+within(most+1, "(", "1", ")"), "1+"+within(most+1, "-", "1", ""), within(1000, "(", "1", ")"), within(1000, "-", "1", ""))
}

// Of what is no expression and what is too deep the first one counts, from the left on.
func TestDeepOrForm(t *testing.T) {
	const more = api.MaxDeep + 1
	open := strings.Repeat("(", more)
	fails(t, api.ErrDeep, open, open+")", open+"*", open+"08", open+"=", strings.Repeat("-", more), strings.Repeat("!", more)+"!=1", within(more, "0?1:", "", ""), within(more-1, "0?1:", "1?", ""), within(more-1, "0?1:", "1?)", ""), within(more-1, "(", "-)", ")"), within(more-1, "(", "1?", ")"), open+"1/0", "word+"+open, "1/0+"+open, "1+"+open+"1", "1?2:"+open)
	fails(t, api.ErrForm, "08+"+open, ")"+open, "1 "+open, "1"+open, "one"+open, "="+open, "1:"+open, "1+*"+open, "1!"+strings.Repeat("!", more), within(more-1, "(", "", ")"), within(more-1, "(", "1(", ")"), within(more-1, "(", "?", ")"), within(more-1, "(", "1!", ")"), within(more-1, "(", "1~1", ")"), within(more-1, "-", "", ""), within(more-1, "-", "?", ""), within(more-1, "-", "1(", ""), within(more-1, "0?1:", "?", ""), within(more-1, "(", "9223372036854775808(", ")"), within(more-1, "(", "08", "?1:2)"), "${"+open, "$"+open, "1?2"+open)
}

// An expression is told ahead of what it comes to.
func TestFormAheadOfFaults(t *testing.T) {
	fails(t, api.ErrForm, "1/0+", "1/0)", "(1/0", "1/0 1", "1%0?", "1/0?1", "1/0+08", "1/0,1", "word+", "1/0||")
	fails(t, api.ErrDeep, "1/0+"+strings.Repeat("(", 41), "word-"+strings.Repeat("-", 41))
}

func TestFirstFault(t *testing.T) {
	fails(t, api.ErrZero, "1/0", "1%0", "0/0", "0%0", "1/zero", "1/empty", "1/unknown", "1%(1-1)", "-(1/0)", "(1/0)", "!1/0", "1/!1", "1/0+1", "1+1/0", "1/0/0", "1/0*word", "1/0+word", "1%0-word", "(1/0)/word", "1/0?word:word", "1/0||word", "1/0&&word", "1?1/0:word", "0?word:1/0", "1&&1/0", "0||1/0", "1/0==word", "2*3/0+word", "1<<1%0|word", "max/0", "word1/0")
	fails(t, api.ErrForm, "word/0", "word%0", "1/word/0", "1/(word&0)", "word+1/0", "word*1/0", "word?1/0:1/0", "word||1/0", "word&&1/0", "1?word:1/0", "0?1/0:word", "1&&word/0", "0||word%0", "word==1/0", "(word)/0", "-word/0", "2*word/0", "word-(1/0)", "big+1/0", "sum%0", "1-word+1/0")
	comes(t, map[string]int64{"0/1": 0, "0%1": 0, "1/!0": 1})
}

// P10.3

func TestWhatIsNotReckoned(t *testing.T) {
	comes(t, map[string]int64{
		"0&&1/0": 0, "0&&word": 0, "1||1/0": 1, "5||word": 1, "1?2:1/0": 2, "1?2:word": 2, "0?1/0:3": 3, "0?word:3": 3, "x?1/0:5": 5,
		"0&&(1||1/0)": 0, "0&&(0||1/0)": 0, "0&&(1?1/0:word)": 0, "1||(1&&1/0)": 1, "1||0&&1/0": 1, "1||1/0||word": 1, "0&&1/0&&word": 0, "0&&1/0||1": 1, "1||1&&1/0": 1,
		"0?1/0?word:1/0:7": 7, "1?2:1/0?3:4": 2, "1?2:word?1/0:4": 2, "0?1?1/0:word:8": 8, "1?0&&1/0:word": 0, "0?word:1||1/0": 1, "(0&&word)+(1||word)": 1, "0&&-word": 0, "0&&!(1/0)": 0, "1||1%0": 1,
		"0&&1?1/0:6": 6, "1||0?6:1/0": 6, "0&&1/0==1/0": 0, "0&&word<<word|1/0": 0, "zero&&$word": 0, "one||${word}": 1, "z||0&&1/0": 0,
	})
	fails(t, api.ErrZero, "1||0?1/0:6", "0&&1?6:1/0", "0&&1/0||1/0", "1||word?1/0:2", "(1||word)/(0&&word)", "1&&0||1/0", "0||1&&1/0")
	fails(t, api.ErrForm, "0&&word||word", "(0&&1/0)+word", "(1||1/0)+word+1/0", "1?word:2", "0?1/0:word")
}

func TestWhatIsNotReckonedIsAnExpression(t *testing.T) {
	fails(t, api.ErrForm, "0&&", "0&&)", "0&&(", "0&&08", "0&&9223372036854775808", "0&&1 2", "0&&${1}", "0&&$", "1||", "1||)", "1||*1", "1||0x", "1?2:", "1?2:)", "1?2:08", "1?2:1 1", "0?:3", "0?*:3", "0?08:3", "0?(1:3", "0?$:3", "0&&1=1", "1||one=1", "0&&1/0)")
	deep := within(api.MaxDeep+1, "(", "1", ")")
	fails(t, api.ErrDeep, "0&&"+deep, "1||"+deep, "1?2:"+deep, "0?"+deep+":3", "0&&"+within(api.MaxDeep+1, "-", "1", ""), "1?2:"+within(api.MaxDeep, "1?2:", "3", ""))
	comes(t, map[string]int64{"0&&" + deep[1:len(deep)-1]: 0, "1||" + deep[1:len(deep)-1]: 1, "1?2:" + deep[2:len(deep)-2]: 2})
}

// Rule 1 of the whole: every call ends, whatever its bytes are.
func TestAllBytes(t *testing.T) {
	for i := range 256 {
		c := string([]byte{byte(i)})
		for _, s := range []string{c, c + c, "1" + c, c + "1", "1" + c + "1", "1+" + c + "1", "$" + c, "${" + c + "}", "0x" + c, "(" + c + ")"} {
			got, e := arith.Eval(s)
			if want, f := speltEval(s, nil); got != want || e != f {
				t.Errorf("Eval(%q): %d, error %d; not %d, error %d", s, got, e, want, f)
			}
		}
	}
	r := rand.New(rand.NewSource(10))
	for range 20000 {
		b := make([]byte, r.Intn(12))
		for i := range b {
			b[i] = byte(r.Intn(256))
		}
		if n, e := arith.Eval(string(b)); e != api.OK && n != 0 {
			t.Errorf("Eval(%q): %d, error %d", b, n, e)
		}
		if n, ok := arith.Number(string(b)); !ok && n != 0 {
			t.Errorf("Number(%q): %d", b, n)
		}
	}
}

// Rule 5 of the whole: a long text is reckoned, too.
func TestLong(t *testing.T) {
	const n = 1 << 20
	name := strings.Repeat("a", n)
	comes(t, map[string]int64{
		within(n, "1+", "1", ""):             n + 1,
		within(n, "1-", "1", ""):             1 - n,
		within(n, "0||", "5", ""):            1,
		within(n, "1&&", "0", ""):            0,
		within(n, "0&&", "1/0", ""):          0,
		within(n, "", "1", "<<1"):            0,
		within(n, "-1*", "3", ""):            3,
		within(n, "(1)*", "3", ""):           3,
		within(n, " ", "1", "\n"):            1,
		within(n, "0", "7", ""):              7,
		"0x" + within(n, "0", "7", ""):       7,
		name:                                 0,
		"${" + name + "}":                    0,
		"(" + within(n, "1|", "2", "") + ")": 3,
	})
	fails(t, api.ErrDeep, strings.Repeat("(", n), strings.Repeat("-", n), within(n, "1?2:", "3", ""), within(n, "1?", "3", ":2"))
	fails(t, api.ErrForm, strings.Repeat("1", n), strings.Repeat("1 ", n), strings.Repeat("1+", n), strings.Repeat("$", n), strings.Repeat("?", n), strings.Repeat(" ", n), name+"=")
	if got, e := arith.Eval(name, arith.Var{Name: name, Value: within(n, " ", "5", " ")}); got != 5 || e != api.OK {
		t.Errorf("%d, error %d", got, e)
	}
	numbers(t, map[string]int64{strings.Repeat(" ", n): 0, strings.Repeat("0", n): 0})
	none(t, strings.Repeat("1", n), strings.Repeat("-", n))
}
