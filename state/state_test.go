package state_test

import (
	"bytes"
	"encoding/binary"
	"math"
	"reflect"
	"slices"
	"strings"
	"testing"

	"kinetoscope/api"
	"kinetoscope/arith"
	"kinetoscope/env"
	"kinetoscope/fds"
	"kinetoscope/split"
	"kinetoscope/state"
)

// zeros are how many bytes the state of zeros has.
const zeros = 29

// keep is something that a subshell leaves, with nothing empty.
func keep() state.Keep {
	return state.Keep{
		Env:   env.Env{Vars: []arith.Var{{Name: "x", Value: "ab"}, {Name: "y", Value: ""}}, Args: []string{"p", "q r"}, Status: 127, Flags: "ex"},
		Funcs: []state.Fn{{Name: "f", Prog: 1, Node: 9}},
		Traps: []state.Trap{{Sig: 2, Text: "t"}, {Sig: 15, Text: ""}},
		FDs:   fds.Table{{FD: 0, K: 5}, {FD: 2, K: -1}},
	}
}

// kept are keep's bytes.
const kept = "\x04\x01x\x02ab\x01y\x00" + "\x04\x01p\x03q r" + "\xfe\x01" + "\x02ex" +
	"\x02\x01f\x02\x12" +
	"\x04\x04\x01t\x1e\x00" +
	"\x04\x00\x0a\x04\x01"

// full is a state with nothing empty, and no number twice in one struct.
func full() state.State {
	return state.State{
		Keep:  keep(),
		Progs: []string{"a", "", "bc"},
		Stack: []state.Frame{
			{Op: 5, Prog: 6, Node: 7, Phase: 8, I: -9, Quiet: true, A: 10, B: -11, Text: "F", Nums: []int64{12, -13}, Words: []string{"v", "w"},
				Rows: []split.Row{{Text: "lm", Mask: "qs"}, {Text: "", Mask: "e"}}, Keep: keep()},
			{Op: 1},
		},
		Asked: api.Request{Kind: api.Spawn, N: 14, M: -15, Text: "A", List: []string{"ls", "-l"}},
		Got:   api.Answer{Kind: api.Wait, Err: 4, N: 16, M: -17, Text: "G", List: []string{"g"}, Sig: 18},
		Sigs:  []int{1, 2},
		Loose: 19, N: 20, Deep: 21,
		Trapping: true, Ended: false, Done: true,
		Fail: api.ErrOut,
	}
}

// fullBytes are those of full.
const fullBytes = kept +
	"\x06\x01a\x00\x02bc" +
	"\x04" +
	"\x0a\x0c\x0e\x10\x11\x02\x14\x15\x01F\x04\x18\x19\x04\x01v\x01w\x04\x02lm\x02qs\x00\x01e" + kept +
	"\x02\x00\x00\x00\x00\x00\x00\x00\x00\x00\x00\x00" + "\x00\x00\x00\x00\x00\x00\x00" +
	"\x0c\x1c\x1d\x01A\x04\x02ls\x02-l" +
	"\x0e\x08\x20\x21\x01G\x02\x01g\x24" +
	"\x04\x02\x04" +
	"\x26\x28\x2a" +
	"\x02\x00\x02" +
	"\x3c"

// places are where each field of the state of zeros has its byte.
func places() map[string]int {
	l := map[string]int{}
	for i, name := range strings.Fields("Vars Args Status Flags Funcs Traps FDs Progs Stack " +
		"Asked.Kind Asked.N Asked.M Asked.Text Asked.List " +
		"Got.Kind Got.Err Got.N Got.M Got.Text Got.List Got.Sig " +
		"Sigs Loose N Deep Trapping Ended Done Fail") {
		l[name] = i
	}
	return l
}

// with are the bytes of the state of zeros, but for those of one field.
func with(name, b string) string {
	at := places()[name]
	return strings.Repeat("\x00", at) + b + strings.Repeat("\x00", zeros-1-at)
}

// one is a state with a single field set, that field's name, and its bytes.
type one struct {
	name string
	s    state.State
	b    string
}

func ones() []one {
	return []one{
		{"Vars", state.State{Keep: state.Keep{Env: env.Env{Vars: []arith.Var{{Name: "n", Value: "v"}}}}}, "\x02\x01n\x01v"},
		{"Args", state.State{Keep: state.Keep{Env: env.Env{Args: []string{"", "a"}}}}, "\x04\x00\x01a"},
		{"Status", state.State{Keep: state.Keep{Env: env.Env{Status: 64}}}, "\x80\x01"},
		{"Flags", state.State{Keep: state.Keep{Env: env.Env{Flags: "f"}}}, "\x01f"},
		{"Funcs", state.State{Keep: state.Keep{Funcs: []state.Fn{{Name: "f", Prog: 3, Node: -4}}}}, "\x02\x01f\x06\x07"},
		{"Traps", state.State{Keep: state.Keep{Traps: []state.Trap{{Sig: 2, Text: "x"}}}}, "\x02\x04\x01x"},
		{"FDs", state.State{Keep: state.Keep{FDs: fds.First()}}, "\x06\x00\x00\x02\x02\x04\x04"},
		{"FDs", state.State{Keep: state.Keep{FDs: fds.Table{{FD: -1, K: 1 << 40}}}}, "\x02\x01\x80\x80\x80\x80\x80\x40"},
		{"Progs", state.State{Progs: []string{"echo a\n"}}, "\x02\x07echo a\n"},
		{"Stack", state.State{Stack: []state.Frame{{}}}, "\x02" + strings.Repeat("\x00", 19)},
		{"Asked.Kind", state.State{Asked: api.Request{Kind: 11}}, "\x16"},
		{"Asked.N", state.State{Asked: api.Request{N: -1}}, "\x01"},
		{"Asked.M", state.State{Asked: api.Request{M: math.MinInt64}}, "\xff\xff\xff\xff\xff\xff\xff\xff\xff\x01"},
		{"Asked.Text", state.State{Asked: api.Request{Text: "\x00\xff"}}, "\x02\x00\xff"},
		{"Asked.List", state.State{Asked: api.Request{List: []string{""}}}, "\x02\x00"},
		{"Got.Kind", state.State{Got: api.Answer{Kind: -2}}, "\x03"},
		{"Got.Err", state.State{Got: api.Answer{Err: 255}}, "\xfe\x03"},
		{"Got.N", state.State{Got: api.Answer{N: math.MaxInt64}}, "\xfe\xff\xff\xff\xff\xff\xff\xff\xff\x01"},
		{"Got.M", state.State{Got: api.Answer{M: 63}}, "\x7e"},
		{"Got.Text", state.State{Got: api.Answer{Text: "t"}}, "\x01t"},
		{"Got.List", state.State{Got: api.Answer{List: []string{"l", "m"}}}, "\x04\x01l\x01m"},
		{"Got.Sig", state.State{Got: api.Answer{Sig: 64}}, "\x80\x01"},
		{"Sigs", state.State{Sigs: []int{0, 1, -1}}, "\x06\x00\x02\x01"},
		{"Loose", state.State{Loose: 1}, "\x02"},
		{"N", state.State{N: 1}, "\x02"},
		{"Deep", state.State{Deep: 1}, "\x02"},
		{"Trapping", state.State{Trapping: true}, "\x02"},
		{"Ended", state.State{Ended: true}, "\x02"},
		{"Done", state.State{Done: true}, "\x02"},
		{"Fail", state.State{Fail: api.ErrBudget}, "\x40"},
		{"Fail", state.State{Fail: -3}, "\x05"},
	}
}

// frames are states of one frame with a single field set, and that frame's bytes.
func frames() []one {
	at := func(i int, b string) string {
		return strings.Repeat("\x00", i) + b + strings.Repeat("\x00", 18-i)
	}
	l := []one{
		{"Op", of(state.Frame{Op: 7}), at(0, "\x0e")},
		{"Prog", of(state.Frame{Prog: 7}), at(1, "\x0e")},
		{"Node", of(state.Frame{Node: 7}), at(2, "\x0e")},
		{"Phase", of(state.Frame{Phase: 7}), at(3, "\x0e")},
		{"I", of(state.Frame{I: 7}), at(4, "\x0e")},
		{"Quiet", of(state.Frame{Quiet: true}), at(5, "\x02")},
		{"A", of(state.Frame{A: 7}), at(6, "\x0e")},
		{"B", of(state.Frame{B: 7}), at(7, "\x0e")},
		{"Text", of(state.Frame{Text: "t"}), at(8, "\x01t")},
		{"Nums", of(state.Frame{Nums: []int64{7, -7}}), at(9, "\x04\x0e\x0d")},
		{"Words", of(state.Frame{Words: []string{"", "w"}}), at(10, "\x04\x00\x01w")},
		{"Rows", of(state.Frame{Rows: []split.Row{{Text: "t", Mask: "lq"}}}), at(11, "\x02\x01t\x02lq")},
		{"Vars", of(state.Frame{Keep: state.Keep{Env: env.Env{Vars: []arith.Var{{Name: "n", Value: "v"}}}}}), at(12, "\x02\x01n\x01v")},
		{"Args", of(state.Frame{Keep: state.Keep{Env: env.Env{Args: []string{"a"}}}}), at(13, "\x02\x01a")},
		{"Status", of(state.Frame{Keep: state.Keep{Env: env.Env{Status: 1}}}), at(14, "\x02")},
		{"Flags", of(state.Frame{Keep: state.Keep{Env: env.Env{Flags: "e"}}}), at(15, "\x01e")},
		{"Funcs", of(state.Frame{Keep: state.Keep{Funcs: []state.Fn{{Node: 1}}}}), at(16, "\x02\x00\x00\x02")},
		{"Traps", of(state.Frame{Keep: state.Keep{Traps: []state.Trap{{Sig: 1}}}}), at(17, "\x02\x02\x00")},
		{"FDs", of(state.Frame{Keep: state.Keep{FDs: fds.Table{{K: 1}}}}), at(18, "\x02\x00\x02")},
	}
	for i := range l {
		l[i].name, l[i].b = "Stack", "\x02"+l[i].b
	}
	return l
}

// of is a state of one frame.
func of(f state.Frame) state.State {
	return state.State{Stack: []state.Frame{f}}
}

// all are states of one field, and a full one, with their bytes.
func all() map[string]state.State {
	l := map[string]state.State{fullBytes: full(), strings.Repeat("\x00", zeros): {}}
	for _, o := range slices.Concat(ones(), frames()) {
		l[with(o.name, o.b)] = o.s
	}
	return l
}

// emptied is a state of empty rows that aren't nil.
func emptied() state.State {
	k := state.Keep{Env: env.Env{Vars: []arith.Var{}, Args: []string{}}, Funcs: []state.Fn{}, Traps: []state.Trap{}, FDs: fds.Table{}}
	return state.State{Keep: k, Progs: []string{}, Sigs: []int{}, Asked: api.Request{List: []string{}}, Got: api.Answer{List: []string{}},
		Stack: []state.Frame{{Nums: []int64{}, Words: []string{}, Rows: []split.Row{}, Keep: k}}}
}

// signed is a number's bytes, those of the library.
func signed(x int64) string { return string(binary.AppendVarint(nil, x)) }

// refused holds that Unpack of b tells an error, and nothing else.
func refused(t *testing.T, name, b string, want api.Errno) {
	t.Helper()
	s, e := state.Unpack([]byte(b))
	if e != want || !reflect.DeepEqual(s, state.State{}) {
		t.Errorf("%s: error %d, not %d, or something beside it", name, e, want)
	}
}

// P18.1

func TestPackOfZeros(t *testing.T) {
	if got := state.Pack(state.State{}); !bytes.Equal(got, make([]byte, 29)) {
		t.Errorf("%x", got)
	}
}

func TestPack(t *testing.T) {
	for b, s := range all() {
		if got := state.Pack(s); string(got) != b {
			t.Errorf("Pack(%v): %x, not %x", s, got, b)
		}
	}
}

func TestPackOfEmptyRows(t *testing.T) {
	if got := state.Pack(emptied()); string(got) != with("Stack", "\x02"+strings.Repeat("\x00", 19)) {
		t.Errorf("%x", got)
	}
}

func TestUnpack(t *testing.T) {
	for b, s := range all() {
		got, e := state.Unpack([]byte(b))
		if e != api.OK || !reflect.DeepEqual(got, s) {
			t.Errorf("Unpack(%x): error %d, %v, not %v", b, e, got, s)
		}
	}
}

func TestRowsWithoutThingsAreNone(t *testing.T) {
	s, e := state.Unpack(state.Pack(emptied()))
	if e != api.OK || s.Env.Vars != nil || s.Env.Args != nil || s.Funcs != nil || s.Traps != nil || s.FDs != nil || s.Progs != nil || s.Sigs != nil || s.Asked.List != nil || s.Got.List != nil {
		t.Errorf("%v, %d", s, e)
	}
	if len(s.Stack) != 1 || !reflect.DeepEqual(s.Stack[0], state.Frame{}) {
		t.Errorf("%v", s.Stack)
	}
}

func TestBools(t *testing.T) {
	bools := []string{"Trapping", "Ended", "Done"}
	for _, name := range bools {
		for _, x := range []int64{-1, 2, -2, 3, 127, 128, 256, 257, 1<<32 + 1, math.MaxInt64, math.MinInt64} {
			refused(t, name+signed(x), with(name, signed(x)), api.ErrForm)
		}
	}
	for _, x := range []int64{-1, 2, 257, math.MinInt64} {
		refused(t, "Quiet", with("Stack", "\x02\x00\x00\x00\x00\x00"+signed(x)+strings.Repeat("\x00", 13)), api.ErrForm)
	}
	for _, name := range bools {
		if s, e := state.Unpack([]byte(with(name, "\x02"))); e != api.OK || !(s.Trapping || s.Ended || s.Done) {
			t.Errorf("%s: %v, %d", name, s, e)
		}
	}
}

// rowsOfZeros are the fields that are rows, with the bytes of such a thing of zeros.
func rowsOfZeros() map[string]string {
	return map[string]string{"Vars": "\x00\x00", "Args": "\x00", "Funcs": "\x00\x00\x00", "Traps": "\x00\x00", "FDs": "\x00\x00", "Progs": "\x00",
		"Stack": strings.Repeat("\x00", 19), "Asked.List": "\x00", "Got.List": "\x00", "Sigs": "\x00"}
}

func TestRowsOfTooMany(t *testing.T) {
	for name, thing := range rowsOfZeros() {
		for _, n := range []int64{-1, -2, -100000, math.MinInt64, 100001, 1 << 32, 1<<32 + 1, math.MaxInt64} {
			refused(t, name+" without things", with(name, signed(n)), api.ErrForm)
			refused(t, name+" cut behind", strings.Repeat("\x00", places()[name])+signed(n), api.ErrForm)
		}
		refused(t, name+" of 100001", with(name, signed(100001)+strings.Repeat(thing, 100001)), api.ErrForm)
		refused(t, name+" of 100000, without things", with(name, signed(100000)), api.ErrShort)
		s, e := state.Unpack([]byte(with(name, signed(100000)+strings.Repeat(thing, 100000))))
		if e != api.OK || string(state.Pack(s)) != with(name, signed(100000)+strings.Repeat(thing, 100000)) {
			t.Errorf("%s of 100000: %d", name, e)
		}
	}
}

func TestRowsOfFramesOfTooMany(t *testing.T) {
	for at, thing := range map[int]string{9: "\x00", 10: "\x00", 11: "\x00\x00", 12: "\x00\x00", 13: "\x00", 16: "\x00\x00\x00", 17: "\x00\x00", 18: "\x00\x00"} {
		frame := func(b string) string {
			return with("Stack", "\x02"+strings.Repeat("\x00", at)+b+strings.Repeat("\x00", 18-at))
		}
		for _, n := range []int64{-1, math.MinInt64, 100001, math.MaxInt64} {
			refused(t, "a frame's row", frame(signed(n)), api.ErrForm)
		}
		refused(t, "a frame's row of 100001", frame(signed(100001)+strings.Repeat(thing, 100001)), api.ErrForm)
		if _, e := state.Unpack([]byte(frame(signed(100000) + strings.Repeat(thing, 100000)))); e != api.OK {
			t.Errorf("a frame's row of 100000: %d", e)
		}
	}
}

func TestUnpackOfWrongBytes(t *testing.T) {
	nine := strings.Repeat("\xff", 9)
	rows := []struct {
		name string
		b    string
		e    api.Errno
	}{
		{"nothing", "", api.ErrShort},
		{"28 zeros", strings.Repeat("\x00", 28), api.ErrShort},
		{"30 zeros", strings.Repeat("\x00", 30), api.ErrLeft},
		{"31 bytes, the last ones no number", strings.Repeat("\x00", 29) + "\x80\x00", api.ErrLeft},
		{"a number that is none", with("Status", "\x80\x00"), api.ErrForm},
		{"a number of eleven bytes", with("Deep", nine+"\x81\x00"), api.ErrForm},
		{"a number that is cut", strings.Repeat("\x00", 28) + "\x80", api.ErrShort},
		{"how many things, no number", with("Sigs", "\x82\x00"), api.ErrForm},
		{"a bool that is no number", with("Done", "\x82\x00"), api.ErrForm},
		{"a text that is cut", strings.Repeat("\x00", 3) + "\x1aefux", api.ErrShort},
		{"a text of 2^64 - 1 bytes", with("Flags", nine+"\x01"), api.ErrShort},
		{"a text's number that is none", with("Got.Text", "\x80\x00"), api.ErrForm},
		{"a row that is cut", strings.Repeat("\x00", 7) + "\x04\x01a", api.ErrShort},
		{"a thing that is no number", with("Sigs", "\x04\x00\x80\x00"), api.ErrForm},
		{"a bool of 1 as no Zig", with("Done", "\x01"), api.ErrForm},
	}
	for _, r := range rows {
		refused(t, r.name, r.b, r.e)
	}
	if s, e := state.Unpack(nil); e != api.ErrShort || !reflect.DeepEqual(s, state.State{}) {
		t.Errorf("of nil: %v, %d", s, e)
	}
}

func TestTheFirstErrorIsTold(t *testing.T) {
	refused(t, "a row below 0, behind it bytes that end", "\x01", api.ErrForm)
	refused(t, "a row below 0, behind it bytes that are left", "\x01"+strings.Repeat("\x00", 40), api.ErrForm)
	refused(t, "a row of too many, behind it a text that is cut", signed(100001)+"\x05a", api.ErrForm)
	refused(t, "a text that is cut, behind it a row below 0", "\x02\x00\x7f\x01", api.ErrShort)
	refused(t, "a bool of 2, behind it nothing", strings.Repeat("\x00", 25)+"\x04", api.ErrForm)
	refused(t, "a bool of 2, behind it no number", strings.Repeat("\x00", 25)+"\x04\x80\x00\x00", api.ErrForm)
	refused(t, "no number, behind it a bool of 2", strings.Repeat("\x00", 24)+"\x80\x00\x04\x00\x00\x00", api.ErrForm)
	refused(t, "a text that is too long, behind it bools of 2", strings.Repeat("\x00", 18)+"\x7f\x04\x04\x04\x04\x04\x04\x04\x04\x04\x04", api.ErrShort)
	refused(t, "a bool of 2, and bytes left", with("Ended", "\x04")+"\x00", api.ErrForm)
	refused(t, "a frame's bool of 2, behind it nothing", strings.Repeat("\x00", 8)+"\x04\x00\x00\x00\x00\x00\x04", api.ErrForm)
	refused(t, "a frame that is cut", strings.Repeat("\x00", 8)+"\x04\x00\x00\x00\x00\x00", api.ErrShort)
}

func TestSame(t *testing.T) {
	l := all()
	for a, s := range l {
		for b, other := range l {
			if state.Same(s, other) != (a == b) {
				t.Errorf("%x and %x", a, b)
			}
		}
	}
	if !state.Same(full(), full()) || !state.Same(emptied(), of(state.Frame{})) {
		t.Error("nil and empty rows are one")
	}
	if state.Same(state.State{Progs: []string{"ab", "c"}}, state.State{Progs: []string{"a", "bc"}}) || state.Same(state.State{Progs: []string{""}}, state.State{}) {
		t.Error("rows aren't their texts, one behind the other")
	}
}

// P18.2

func TestWhatIsPackedIsUnpacked(t *testing.T) {
	long := full()
	long.Progs = append(long.Progs, strings.Repeat("p", 1<<20), strings.Repeat("q", 127), strings.Repeat("r", 128))
	long.Stack = slices.Repeat(long.Stack, 500)
	got, e := state.Unpack(state.Pack(long))
	if e != api.OK || !reflect.DeepEqual(got, long) || !state.Same(got, long) {
		t.Errorf("error %d, or another state", e)
	}
}

// Rule 3: nothing that is handed in is changed, or kept.

func TestNewMemory(t *testing.T) {
	s := full()
	b := state.Pack(s)
	empty := emptied()
	state.Pack(empty)
	if !reflect.DeepEqual(s, full()) || !reflect.DeepEqual(empty, emptied()) {
		t.Error("Pack changed a state")
	}
	c := state.Pack(s)
	clear(c)
	if string(b) != fullBytes {
		t.Error("Pack's answers share memory")
	}
	x, _ := state.Unpack(b)
	y, _ := state.Unpack(b)
	if string(b) != fullBytes {
		t.Error("Unpack changed bytes")
	}
	clear(b)
	spoil(&x)
	if !reflect.DeepEqual(y, full()) {
		t.Error("Unpack's answers share memory")
	}
	state.Same(s, y)
	if !reflect.DeepEqual(s, full()) || !reflect.DeepEqual(y, full()) {
		t.Error("Same changed a state")
	}
}

// spoil changes what a state's lists stand for.
func spoil(s *state.State) {
	clear(s.Progs)
	clear(s.Sigs)
	clear(s.Asked.List)
	clear(s.Got.List)
	clear(s.Env.Vars)
	clear(s.Env.Args)
	clear(s.Funcs)
	clear(s.Traps)
	clear(s.FDs)
	clear(s.Stack[0].Words)
	clear(s.Stack[0].Nums)
	clear(s.Stack[0].Rows)
	clear(s.Stack[0].Keep.Env.Args)
	clear(s.Stack)
}

func TestListsOfOneAnswerShareNothing(t *testing.T) {
	x, _ := state.Unpack([]byte(fullBytes))
	want := full()
	clear(x.Asked.List)
	clear(x.Stack[0].Keep.Env.Vars)
	clear(x.Stack[0].Keep.FDs)
	clear(x.Stack[0].Words)
	_ = append(x.Progs[:0:0], "z")
	_ = append(x.Got.List, "z")
	_ = append(x.Env.Args, "z")
	_ = append(x.FDs, fds.Pair{FD: 9})
	if !reflect.DeepEqual(x.Keep, want.Keep) || !reflect.DeepEqual(x.Got, want.Got) || !slices.Equal(x.Progs, want.Progs) || !reflect.DeepEqual(x.Stack[0].Rows, want.Stack[0].Rows) {
		t.Error("two lists share memory")
	}
}
