package event_test

import (
	"bytes"
	"encoding/binary"
	"math"
	"reflect"
	"slices"
	"strings"
	"testing"

	"kinetoscope/api"
	"kinetoscope/event"
)

// kinds are all that there are, with their names.
var kinds = map[int]string{
	1: "read", 2: "write", 3: "open", 4: "close", 5: "pipe", 6: "spawn", 7: "wait", 8: "clock", 9: "list", 10: "stat", 11: "chdir",
}

// noKinds are numbers that are none, though some have a kind's lowest bits.
func noKinds() []int {
	return []int{0, -1, -8, 12, 13, 127, 128, 255, 256, 264, 1<<16 + 8, 1<<31 + 8, 1<<32 + 8, math.MaxInt, math.MinInt, math.MinInt + 8}
}

// num, zig and text spell by the words of varint's chapter, without the package.
func num(x uint64) []byte { return binary.AppendUvarint(nil, x) }

func zig(x int64) []byte { return binary.AppendVarint(nil, x) }

func text(s string) []byte { return append(num(uint64(len(s))), s...) }

func list(l []string) []byte {
	b := num(uint64(len(l)))
	for _, s := range l {
		b = append(b, text(s)...)
	}
	return b
}

// speltRequest is a request's bytes by the chapter's words, whether it may be or not.
func speltRequest(q api.Request) []byte {
	return slices.Concat(num(uint64(q.Kind)), zig(q.N), zig(q.M), text(q.Text), list(q.List))
}

// speltAnswer is an answer's bytes, likewise.
func speltAnswer(a api.Answer) []byte {
	return slices.Concat(num(uint64(a.Kind)), num(uint64(a.Err)), zig(a.N), zig(a.M), text(a.Text), list(a.List), num(uint64(a.Sig)))
}

// many are n texts, some without bytes.
func many(n int) []string {
	l := make([]string, n)
	for i := range l {
		l[i] = strings.Repeat("x", i%4)
	}
	return l
}

func numbers() []int64 {
	return []int64{0, 1, -1, 2, 63, 64, -64, -65, 300, -300, 1 << 31, -1 << 31, 1 << 40, math.MaxInt64, math.MinInt64, math.MaxInt64 - 1, math.MinInt64 + 1}
}

func texts() []string {
	return []string{"", "a", "\x00", "\xff\x80\x00", "two words\n", strings.Repeat("t", 127), strings.Repeat("u", 128), strings.Repeat("v", 70000)}
}

func lists() [][]string {
	return [][]string{nil, {}, {""}, {"", ""}, {"ls", "-l"}, {"ls-l"}, {"l", "s-l"}, {"-l", "ls"}, {"\x00", "\x01a", "\xff"}, many(127), many(128), many(4095), many(4096)}
}

// requests are such as may be: the edges of each field.
func requests() []api.Request {
	var l []api.Request
	for kind := range 11 {
		l = append(l, api.Request{Kind: kind + 1}, api.Request{Kind: kind + 1, N: 1, M: -1, Text: "t", List: []string{"l"}})
	}
	for _, x := range numbers() {
		l = append(l, api.Request{Kind: 1, N: x}, api.Request{Kind: 2, M: x}, api.Request{Kind: 3, N: x, M: -x})
	}
	for _, s := range texts() {
		l = append(l, api.Request{Kind: 4, Text: s}, api.Request{Kind: 5, List: []string{s, "a", s}})
	}
	for _, s := range lists() {
		l = append(l, api.Request{Kind: 6, List: s}, api.Request{Kind: 7, N: 7, Text: "t", List: s})
	}
	return l
}

// answers are such as may be, likewise.
func answers() []api.Answer {
	var l []api.Answer
	for _, q := range requests() {
		l = append(l, api.Answer{Kind: q.Kind, N: q.N, M: q.M, Text: q.Text, List: q.List})
	}
	for _, e := range []int{0, 1, 2, 64, 127, 128, 254, 255} {
		for _, sig := range []int{0, 1, 2, 15, 63, 64} {
			l = append(l, api.Answer{Kind: 1 + e%11, Err: e, Sig: sig, N: -5, Text: "t", List: []string{"l", ""}})
		}
	}
	return l
}

// alike tells whether two answers have the same fields, with an empty list as none.
func alike(a, b api.Answer) bool {
	listed := slices.Equal(a.List, b.List)
	a.List, b.List = nil, nil
	return listed && reflect.DeepEqual(a, b)
}

// unasked holds that Asked of b tells an error, and nothing else.
func unasked(t *testing.T, name string, b []byte, want api.Errno) {
	t.Helper()
	q, e := event.Asked(b)
	if e != want || q.Kind != 0 || q.N != 0 || q.M != 0 || q.Text != "" || len(q.List) != 0 {
		t.Errorf("Asked of %s: kind %d, %d texts, error %d, not %d", name, q.Kind, len(q.List), e, want)
	}
}

// untold holds that Told of b tells an error, and nothing else.
func untold(t *testing.T, name string, b []byte, want api.Errno) {
	t.Helper()
	a, e := event.Told(b)
	if e != want || !alike(a, api.Answer{}) {
		t.Errorf("Told of %s: kind %d, err %d, sig %d, %d texts, error %d, not %d", name, a.Kind, a.Err, a.Sig, len(a.List), e, want)
	}
}

// P4.1

func TestName(t *testing.T) {
	for kind, want := range kinds {
		if got := event.Name(kind); got != want {
			t.Errorf("Name(%d): %q, not %q", kind, got, want)
		}
	}
	for _, kind := range noKinds() {
		if got := event.Name(kind); got != "" {
			t.Errorf("Name(%d): %q", kind, got)
		}
	}
	if event.Name(api.Read) != "read" || event.Name(api.Spawn) != "spawn" || event.Name(api.Chdir) != "chdir" {
		t.Error("api's kinds have other names")
	}
}

func TestRight(t *testing.T) {
	for i, q := range requests() {
		if !event.Right(q) {
			t.Errorf("request %d of kind %d with %d texts isn't right", i, q.Kind, len(q.List))
		}
	}
	for _, kind := range noKinds() {
		if event.Right(api.Request{Kind: kind}) {
			t.Errorf("kind %d is right", kind)
		}
	}
	for kind := range kinds {
		if event.Right(api.Request{Kind: kind, List: many(4097)}) || event.Right(api.Request{Kind: kind, List: make([]string, 9000)}) {
			t.Errorf("kind %d is right with too many texts", kind)
		}
	}
}

func TestFits(t *testing.T) {
	for i, a := range answers() {
		if !event.Fits(a.Kind, a) {
			t.Errorf("answer %d doesn't fit: kind %d, err %d, sig %d, %d texts", i, a.Kind, a.Err, a.Sig, len(a.List))
		}
	}
	for asked := range 14 {
		for kind := range 14 {
			want := asked == kind && kinds[kind] != ""
			if got := event.Fits(asked, api.Answer{Kind: kind}); got != want {
				t.Errorf("Fits(%d, of %d): %t", asked, kind, got)
			}
		}
	}
	for _, kind := range noKinds() {
		if event.Fits(kind, api.Answer{Kind: kind}) || event.Fits(8, api.Answer{Kind: kind}) || event.Fits(kind, api.Answer{Kind: 8}) {
			t.Errorf("kind %d fits", kind)
		}
	}
}

// unfit are answers that fit no kind, for what stands in one field.
func unfit() map[string]api.Answer {
	l := map[string]api.Answer{
		"an err below 0":        {Kind: 1, Err: -1},
		"an err above 255":      {Kind: 1, Err: 256},
		"an err far above":      {Kind: 1, Err: 1 << 32},
		"the greatest err":      {Kind: 1, Err: math.MaxInt},
		"the least err":         {Kind: 1, Err: math.MinInt},
		"a sig below 0":         {Kind: 8, Sig: -1},
		"a sig above 64":        {Kind: 8, Sig: 65},
		"a sig that an err may": {Kind: 8, Sig: 255},
		"a sig far above":       {Kind: 8, Sig: 1<<32 + 1},
		"the greatest sig":      {Kind: 8, Sig: math.MaxInt},
		"the least sig":         {Kind: 8, Sig: math.MinInt},
		"too many texts":        {Kind: 9, List: many(4097)},
		"far too many texts":    {Kind: 9, List: make([]string, 9000)},
	}
	for _, kind := range noKinds() {
		l["kind "+string(zig(int64(kind)))] = api.Answer{Kind: kind}
	}
	return l
}

func TestFitsNot(t *testing.T) {
	for name, a := range unfit() {
		if event.Fits(a.Kind, a) {
			t.Errorf("%q fits", name)
		}
	}
}

func TestSame(t *testing.T) {
	q := api.Request{Kind: 6, N: 3, M: -4, Text: "t", List: []string{"ls", "-l"}}
	others := []api.Request{
		{Kind: 7, N: 3, M: -4, Text: "t", List: []string{"ls", "-l"}},
		{Kind: 6, N: 4, M: -4, Text: "t", List: []string{"ls", "-l"}},
		{Kind: 6, N: 3, M: 4, Text: "t", List: []string{"ls", "-l"}},
		{Kind: 6, N: -4, M: 3, Text: "t", List: []string{"ls", "-l"}},
		{Kind: 6, N: 3, M: -4, Text: "T", List: []string{"ls", "-l"}},
		{Kind: 6, N: 3, M: -4, Text: "", List: []string{"ls", "-l"}},
		{Kind: 6, N: 3, M: -4, Text: "t", List: []string{"ls", "-L"}},
		{Kind: 6, N: 3, M: -4, Text: "t", List: []string{"Ls", "-l"}},
		{Kind: 6, N: 3, M: -4, Text: "t", List: []string{"-l", "ls"}},
		{Kind: 6, N: 3, M: -4, Text: "t", List: []string{"ls"}},
		{Kind: 6, N: 3, M: -4, Text: "t", List: []string{"ls", "-l", ""}},
		{Kind: 6, N: 3, M: -4, Text: "t", List: []string{"ls-l"}},
		{Kind: 6, N: 3, M: -4, Text: "t", List: []string{"l", "s-l"}},
		{Kind: 6, N: 3, M: -4, Text: "t"},
		{},
	}
	copied := q
	copied.List = slices.Clone(q.List)
	if !event.Same(q, q) || !event.Same(q, copied) {
		t.Error("a request isn't the same as itself")
	}
	for i, other := range others {
		if event.Same(q, other) || event.Same(other, q) || !event.Same(other, other) {
			t.Errorf("request %d", i)
		}
	}
}

func TestSameOfSuchAsMayNotBe(t *testing.T) {
	none := api.Request{Kind: 99, List: many(5000)}
	longer := api.Request{Kind: 99, List: many(5001)}
	if !event.Same(none, none) || event.Same(none, longer) || event.Same(none, api.Request{Kind: 98, List: none.List}) {
		t.Error("Same asks for fields alone")
	}
	if !event.Same(api.Request{}, api.Request{List: []string{}}) || event.Same(api.Request{}, api.Request{List: []string{""}}) {
		t.Error("an empty list is none; one of an empty text isn't")
	}
}

// P4.2

func TestAsk(t *testing.T) {
	rows := []struct {
		q    api.Request
		want string
	}{
		{api.Request{Kind: api.Clock}, "\x08\x00\x00\x00\x00"},
		{api.Request{Kind: api.Read, N: 1}, "\x01\x02\x00\x00\x00"},
		{api.Request{Kind: api.Write, M: -1}, "\x02\x00\x01\x00\x00"},
		{api.Request{Kind: api.Open, Text: "ab"}, "\x03\x00\x00\x02ab\x00"},
		{api.Request{Kind: api.Chdir, N: 150, M: -150}, "\x0b\xac\x02\xab\x02\x00\x00"},
		{api.Request{Kind: api.List, List: []string{""}}, "\x09\x00\x00\x00\x01\x00"},
		{api.Request{Kind: api.Spawn, N: -3, M: 2, Text: "x", List: []string{"ls", "-l"}}, "\x06\x05\x04\x01x\x02\x02ls\x02-l"},
	}
	for _, r := range rows {
		if got := event.Ask(r.q); string(got) != r.want {
			t.Errorf("Ask(%v): %x, not %x", r.q, got, r.want)
		}
	}
	for i, q := range requests() {
		if !bytes.Equal(event.Ask(q), speltRequest(q)) {
			t.Errorf("request %d of kind %d isn't put as it should be", i, q.Kind)
		}
	}
}

func TestAskOfOneThatMayNotBe(t *testing.T) {
	for _, kind := range noKinds() {
		if b := event.Ask(api.Request{Kind: kind, Text: "t"}); len(b) != 0 {
			t.Errorf("kind %d: %x", kind, b)
		}
	}
	if b := event.Ask(api.Request{Kind: 9, List: many(4097)}); len(b) != 0 {
		t.Errorf("4097 texts: %d bytes", len(b))
	}
}

func TestTell(t *testing.T) {
	rows := []struct {
		a    api.Answer
		want string
	}{
		{api.Answer{Kind: api.Clock}, "\x08\x00\x00\x00\x00\x00\x00"},
		{api.Answer{Kind: api.Read, Err: 4, Text: "a", Sig: 2}, "\x01\x04\x00\x00\x01a\x00\x02"},
		{api.Answer{Kind: api.Chdir, Err: 255, Sig: 64}, "\x0b\xff\x01\x00\x00\x00\x00\x40"},
		{api.Answer{Kind: api.Wait, Err: 1, N: -1, M: 1}, "\x07\x01\x01\x02\x00\x00\x00"},
		{api.Answer{Kind: api.List, List: []string{"a", "", "bc"}, Sig: 1}, "\x09\x00\x00\x00\x00\x03\x01a\x00\x02bc\x01"},
	}
	for _, r := range rows {
		if got := event.Tell(r.a); string(got) != r.want {
			t.Errorf("Tell(%v): %x, not %x", r.a, got, r.want)
		}
	}
	for i, a := range answers() {
		if !bytes.Equal(event.Tell(a), speltAnswer(a)) {
			t.Errorf("answer %d of kind %d isn't put as it should be", i, a.Kind)
		}
	}
}

func TestTellOfOneThatMayNotBe(t *testing.T) {
	for name, a := range unfit() {
		if b := event.Tell(a); len(b) != 0 {
			t.Errorf("%q: %d bytes", name, len(b))
		}
	}
}

func TestAskedOfWrongBytes(t *testing.T) {
	nine := strings.Repeat("\xff", 9)
	low := strings.Repeat("\x80", 9)
	rows := []struct {
		name string
		b    string
		e    api.Errno
	}{
		{"nothing", "", api.ErrShort},
		{"kind 0", "\x00\x00\x00\x00\x00", api.ErrForm},
		{"kind 12", "\x0c\x00\x00\x00\x00", api.ErrForm},
		{"kind 256 + 8", "\x88\x02\x00\x00\x00\x00", api.ErrForm},
		{"kind 2^32 + 8", "\x88\x80\x80\x80\x10\x00\x00\x00\x00", api.ErrForm},
		{"kind 2^63", low + "\x01\x00\x00\x00\x00", api.ErrForm},
		{"kind 2^64 - 1", nine + "\x01\x00\x00\x00\x00", api.ErrForm},
		{"a kind that is no number", "\x88\x00\x00\x00\x00\x00", api.ErrForm},
		{"an N that is no number", "\x08\x80\x00\x00\x00\x00", api.ErrForm},
		{"an M of eleven bytes", "\x08\x00" + nine + "\x81\x00\x00\x00", api.ErrForm},
		{"a text's number that is none", "\x08\x00\x00\x80\x00\x00", api.ErrForm},
		{"a list's number that is none", "\x08\x00\x00\x00\x80\x00", api.ErrForm},
		{"a text of the list whose number is none", "\x08\x00\x00\x00\x01\x80\x00", api.ErrForm},
		{"a text that is cut", "\x08\x00\x00\x03ab", api.ErrShort},
		{"a text of 2^64 - 1 bytes", "\x08\x00\x00" + nine + "\x01ab", api.ErrShort},
		{"a list that is cut", "\x08\x00\x00\x00\x02\x01a", api.ErrShort},
		{"a byte left", "\x08\x00\x00\x00\x00\x00", api.ErrLeft},
		{"a byte left that is no number", "\x08\x00\x00\x00\x00\x80", api.ErrLeft},
		{"a text left", "\x08\x00\x00\x00\x01\x01a\x01b", api.ErrLeft},
	}
	for _, r := range rows {
		unasked(t, r.name, []byte(r.b), r.e)
	}
	unasked(t, "nil", nil, api.ErrShort)
}

func TestToldOfWrongBytes(t *testing.T) {
	nine := strings.Repeat("\xff", 9)
	rows := []struct {
		name string
		b    string
		e    api.Errno
	}{
		{"nothing", "", api.ErrShort},
		{"a request", "\x08\x00\x00\x00\x00", api.ErrShort},
		{"kind 0", "\x00\x00\x00\x00\x00\x00\x00", api.ErrForm},
		{"kind 12", "\x0c\x00\x00\x00\x00\x00\x00", api.ErrForm},
		{"kind 2^32 + 8", "\x88\x80\x80\x80\x10\x00\x00\x00\x00\x00\x00", api.ErrForm},
		{"err 256", "\x08\x80\x02\x00\x00\x00\x00\x00", api.ErrForm},
		{"err 2^32", "\x08\x80\x80\x80\x80\x10\x00\x00\x00\x00\x00", api.ErrForm},
		{"err 2^64 - 1", "\x08" + nine + "\x01\x00\x00\x00\x00\x00", api.ErrForm},
		{"sig 65", "\x08\x00\x00\x00\x00\x00\x41", api.ErrForm},
		{"sig 2^32 + 1", "\x08\x00\x00\x00\x00\x00\x81\x80\x80\x80\x10", api.ErrForm},
		{"sig 2^64 - 1", "\x08\x00\x00\x00\x00\x00" + nine + "\x01", api.ErrForm},
		{"an err that is no number", "\x08\x80\x00\x00\x00\x00\x00\x00", api.ErrForm},
		{"an N that is no number", "\x08\x00\x80\x00\x00\x00\x00\x00", api.ErrForm},
		{"a sig that is no number", "\x08\x00\x00\x00\x00\x00\x81\x00", api.ErrForm},
		{"a sig that is cut", "\x08\x00\x00\x00\x00\x00\x81", api.ErrShort},
		{"a text that is cut", "\x08\x00\x00\x00\x04ab\x00", api.ErrShort},
		{"a text of the list that is cut", "\x08\x00\x00\x00\x00\x01\x02a", api.ErrShort},
		{"a byte left", "\x08\x00\x00\x00\x00\x00\x00\x00", api.ErrLeft},
		{"two left", "\x01\x04\x00\x00\x01a\x00\x02\x80\x00", api.ErrLeft},
	}
	for _, r := range rows {
		untold(t, r.name, []byte(r.b), r.e)
	}
	untold(t, "nil", nil, api.ErrShort)
}

// The order of the promise: reading, as it goes on; whether it may be; what is left.
func TestTheFirstErrorIsTold(t *testing.T) {
	unasked(t, "kind 12, cut", []byte("\x0c\x00\x00"), api.ErrShort)
	unasked(t, "kind 12, and bytes left", []byte("\x0c\x00\x00\x00\x00\x07"), api.ErrForm)
	unasked(t, "a text that is cut, ahead of no number", []byte("\x08\x00\x00\x05\x80\x00"), api.ErrShort)
	unasked(t, "no number, ahead of a text that is cut", []byte("\x08\x80\x00\x00\x05"), api.ErrForm)
	untold(t, "err 256, cut", []byte("\x08\x80\x02\x00\x00\x00\x00"), api.ErrShort)
	untold(t, "sig 65, and bytes left", []byte("\x08\x00\x00\x00\x00\x00\x41\x07"), api.ErrForm)
	untold(t, "kind 12, a sig that is cut", []byte("\x0c\x00\x00\x00\x00\x00\x80"), api.ErrShort)
}

func TestTooManyTextsAreToldAheadOfThem(t *testing.T) {
	for _, n := range []uint64{4097, 8192, 65536, 1<<32 + 1, 1 << 63, math.MaxUint64} {
		ask := append([]byte("\x08\x00\x00\x00"), num(n)...)
		unasked(t, "too many texts, none there", ask, api.ErrForm)
		unasked(t, "too many texts, one cut", append(bytes.Clone(ask), "\x05a"...), api.ErrForm)
		tell := append([]byte("\x08\x00\x00\x00\x00"), num(n)...)
		untold(t, "too many texts, none there", tell, api.ErrForm)
		untold(t, "too many texts, one cut", append(bytes.Clone(tell), "\x05a"...), api.ErrForm)
	}
	unasked(t, "4097 texts", speltRequest(api.Request{Kind: 8, List: many(4097)}), api.ErrForm)
	untold(t, "4097 texts", speltAnswer(api.Answer{Kind: 8, List: many(4097)}), api.ErrForm)
	unasked(t, "4096 texts, none there", append([]byte("\x08\x00\x00\x00"), num(4096)...), api.ErrShort)
	untold(t, "4096 texts, none there", append([]byte("\x08\x00\x00\x00\x00"), num(4096)...), api.ErrShort)
	unasked(t, "a text that is cut, ahead of too many", []byte("\x08\x00\x00\x04\x81\x20"), api.ErrShort)
	untold(t, "kind 12, and too many", []byte("\x0c\x00\x00\x00\x00\x81\x20"), api.ErrForm)
}

func TestWhatMayNotBeIsNotRead(t *testing.T) {
	for name, a := range unfit() {
		untold(t, name, speltAnswer(a), api.ErrForm)
	}
	for _, kind := range noKinds() {
		unasked(t, "no kind", speltRequest(api.Request{Kind: kind, Text: "t"}), api.ErrForm)
	}
}

func TestCutAnywhere(t *testing.T) {
	ask := event.Ask(api.Request{Kind: 6, N: -300, M: 1 << 40, Text: "some text", List: []string{"", "a", strings.Repeat("b", 130)}})
	for n := range ask {
		unasked(t, "a request that is cut", ask[:n], api.ErrShort)
	}
	tell := event.Tell(api.Answer{Kind: 7, Err: 255, N: -300, M: 1 << 40, Text: "some text", List: []string{"", "a", strings.Repeat("b", 130)}, Sig: 64})
	for n := range tell {
		untold(t, "an answer that is cut", tell[:n], api.ErrShort)
	}
}

func TestWhatIsHandedInIsLeft(t *testing.T) {
	l := []string{"a", "b", "kept"}[:2]
	ask := event.Ask(api.Request{Kind: 6, List: l})
	tell := event.Tell(api.Answer{Kind: 6, List: l})
	if !slices.Equal(l[:3], []string{"a", "b", "kept"}) {
		t.Errorf("the list was changed: %q", l[:3])
	}
	l[0] = "z"
	if string(ask) != "\x06\x00\x00\x00\x02\x01a\x01b" || string(tell) != "\x06\x00\x00\x00\x00\x02\x01a\x01b\x00" {
		t.Errorf("%x %x", ask, tell)
	}
	wholeAsk, wholeTell := bytes.Clone(ask), bytes.Clone(tell)
	q, _ := event.Asked(ask)
	a, _ := event.Told(tell)
	if !bytes.Equal(ask, wholeAsk) || !bytes.Equal(tell, wholeTell) {
		t.Errorf("the bytes were changed: %x %x", ask, tell)
	}
	clear(ask)
	clear(tell)
	if !slices.Equal(q.List, []string{"a", "b"}) || !slices.Equal(a.List, []string{"a", "b"}) {
		t.Errorf("the bytes are kept: %q %q", q.List, a.List)
	}
}

func TestWhatIsAnsweredIsNewMemory(t *testing.T) {
	q := api.Request{Kind: 6, List: []string{"a", "b"}}
	one, two := event.Ask(q), event.Ask(q)
	p, _ := event.Asked(one)
	clear(one)
	p.List[0] = "z"
	again, e := event.Asked(two)
	if e != api.OK || !event.Same(again, q) || q.List[0] != "a" {
		t.Error(again, e, q)
	}
}

// P4.3

func TestWhatIsPutIsGot(t *testing.T) {
	for i, q := range requests() {
		got, e := event.Asked(event.Ask(q))
		if e != api.OK || !event.Same(got, q) || got.Kind != q.Kind || got.N != q.N || got.M != q.M || got.Text != q.Text || !slices.Equal(got.List, q.List) {
			t.Errorf("request %d of kind %d: error %d, or another one", i, q.Kind, e)
		}
	}
	for i, a := range answers() {
		got, e := event.Told(event.Tell(a))
		if e != api.OK || !alike(got, a) {
			t.Errorf("answer %d of kind %d: error %d, or another one", i, a.Kind, e)
		}
	}
}

func TestOtherThingsAreOtherBytes(t *testing.T) {
	asks := map[string]api.Request{}
	for i, q := range requests() {
		b := string(event.Ask(q))
		if p, ok := asks[b]; ok && !event.Same(p, q) {
			t.Errorf("request %d has the bytes of another one", i)
		}
		asks[b] = q
	}
	tells := map[string]api.Answer{}
	for i, a := range answers() {
		b := string(event.Tell(a))
		if p, ok := tells[b]; ok && !alike(p, a) {
			t.Errorf("answer %d has the bytes of another one", i)
		}
		tells[b] = a
	}
}

// each tells all bytes of at most n bytes of which each is one of few.
func each(n int, few string, tell func([]byte)) {
	var grow func(b []byte)
	grow = func(b []byte) {
		tell(b)
		for i := 0; i < len(few) && len(b) < n; i++ {
			grow(append(b[:len(b):len(b)], few[i]))
		}
	}
	grow(nil)
}

// What is got, put again, is what it was got from: there is no second way to write it.
func TestOtherBytesAreOtherThings(t *testing.T) {
	asked, told := 0, 0
	each(8, "\x00\x01\x08\x41\x80", func(b []byte) {
		if q, e := event.Asked(b); e == api.OK {
			asked++
			if !bytes.Equal(event.Ask(q), b) {
				t.Errorf("%x is asked as %v, that is put as %x", b, q, event.Ask(q))
			}
		}
		if a, e := event.Told(b); e == api.OK {
			told++
			if !bytes.Equal(event.Tell(a), b) {
				t.Errorf("%x is told as %v, that is put as %x", b, a, event.Tell(a))
			}
		}
	})
	if asked == 0 || told == 0 {
		t.Error("no bytes were read")
	}
}

func TestSpoiltBytesAreOtherThings(t *testing.T) {
	q := api.Request{Kind: 6, N: -300, M: 5, Text: "text", List: []string{"", "ls"}}
	a := api.Answer{Kind: 6, Err: 130, N: -300, M: 5, Text: "text", List: []string{"", "ls"}, Sig: 2}
	ask, tell := event.Ask(q), event.Tell(a)
	for i := range 8 * len(ask) {
		b := bytes.Clone(ask)
		b[i/8] ^= 1 << (i % 8)
		if p, e := event.Asked(b); e == api.OK && event.Same(p, q) {
			t.Errorf("request, bit %d", i)
		}
	}
	for i := range 8 * len(tell) {
		b := bytes.Clone(tell)
		b[i/8] ^= 1 << (i % 8)
		if p, e := event.Told(b); e == api.OK && alike(p, a) {
			t.Errorf("answer, bit %d", i)
		}
	}
}
