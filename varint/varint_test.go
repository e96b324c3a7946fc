package varint_test

import (
	"math"
	"slices"
	"strings"
	"testing"

	"kinetoscope/api"
	"kinetoscope/varint"
)

// numbers are the edges of each length, and some between.
func numbers() []uint64 {
	l := []uint64{0, 1, 2, 3, 100, 126, 127, 128, 129, 255, 256, 300, 1<<63 - 1, 1 << 63, math.MaxUint64 - 1, math.MaxUint64}
	for i := range 9 {
		edge := uint64(1) << (7 * (i + 1))
		l = append(l, edge-1, edge, edge+1, edge+edge/3)
	}
	return l
}

// spelt is a number's bytes by the chapter's words, without the package.
func spelt(x uint64) []byte {
	rest, above := x%128, x/128
	if above == 0 {
		return []byte{byte(rest)}
	}
	return append([]byte{byte(rest + 128)}, spelt(above)...)
}

// P1.1

func TestPut(t *testing.T) {
	rows := []struct {
		l    []uint64
		want string
	}{
		{nil, ""},
		{[]uint64{}, ""},
		{[]uint64{0}, "\x00"},
		{[]uint64{1}, "\x01"},
		{[]uint64{127}, "\x7f"},
		{[]uint64{128}, "\x80\x01"},
		{[]uint64{300}, "\xac\x02"},
		{[]uint64{300, 1}, "\xac\x02\x01"},
		{[]uint64{1, 300}, "\x01\xac\x02"},
		{[]uint64{0, 0, 128, 0}, "\x00\x00\x80\x01\x00"},
		{[]uint64{16383, 16384}, "\xff\x7f\x80\x80\x01"},
		{[]uint64{1 << 63}, "\x80\x80\x80\x80\x80\x80\x80\x80\x80\x01"},
		{[]uint64{math.MaxUint64}, "\xff\xff\xff\xff\xff\xff\xff\xff\xff\x01"},
	}
	for _, r := range rows {
		if got := varint.Put(r.l...); string(got) != r.want {
			t.Errorf("Put(%v): %x, not %x", r.l, got, r.want)
		}
	}
	for _, x := range numbers() {
		if got := varint.Put(x); !slices.Equal(got, spelt(x)) {
			t.Errorf("Put(%d): %x, not %x", x, got, spelt(x))
		}
	}
}

func TestPutIsNewMemory(t *testing.T) {
	l := []uint64{300, 5}
	first, second := varint.Put(l...), varint.Put(l...)
	first[0] = 9
	if string(second) != "\xac\x02\x05" || !slices.Equal(l, []uint64{300, 5}) {
		t.Error(second, l)
	}
}

func TestTake(t *testing.T) {
	full := strings.Repeat("\xff", 9)
	low := strings.Repeat("\x80", 9)
	rows := []struct {
		name string
		b    string
		x    uint64
		n    int
		e    api.Errno
	}{
		{"nothing", "", 0, 0, api.ErrShort},
		{"a byte", "\x05", 5, 1, api.OK},
		{"0", "\x00", 0, 1, api.OK},
		{"0 and more", "\x00\x00", 0, 1, api.OK},
		{"the greatest byte", "\x7f", 127, 1, api.OK},
		{"two", "\xac\x02", 300, 2, api.OK},
		{"two and others", "\xac\x02\xff\xff", 300, 2, api.OK},
		{"cut behind one", "\x80", 0, 0, api.ErrShort},
		{"cut behind eight", full[:8], 0, 0, api.ErrShort},
		{"cut behind nine", full, 0, 0, api.ErrShort},
		{"cut behind nine without bits", low, 0, 0, api.ErrShort},
		{"a last 0", "\x80\x00", 0, 0, api.ErrForm},
		{"a last 0 with bits ahead", "\xff\x00", 0, 0, api.ErrForm},
		{"a last 0 in the middle", "\xff\xff\x00\x01", 0, 0, api.ErrForm},
		{"a last 0, the ninth", full[:8] + "\x00", 0, 0, api.ErrForm},
		{"a last 0, the tenth", full + "\x00", 0, 0, api.ErrForm},
		{"nine", full[:8] + "\x7f", 1<<63 - 1, 9, api.OK},
		{"ten", low + "\x01", 1 << 63, 10, api.OK},
		{"the greatest", full + "\x01", math.MaxUint64, 10, api.OK},
		{"the greatest and more", full + "\x01\x07", math.MaxUint64, 10, api.OK},
		{"a tenth of 2", full + "\x02", 0, 0, api.ErrForm},
		{"a tenth of 3", low + "\x03", 0, 0, api.ErrForm},
		{"a tenth of 127", low + "\x7f", 0, 0, api.ErrForm},
		{"ten that go on", full + "\xff", 0, 0, api.ErrForm},
		{"ten that go on without bits", low + "\x80", 0, 0, api.ErrForm},
		{"a tenth of 1 that goes on", low + "\x81", 0, 0, api.ErrForm},
		{"eleven", low + "\x80\x01", 0, 0, api.ErrForm},
		{"eleven that go on", full + "\xff\xff", 0, 0, api.ErrForm},
	}
	for _, r := range rows {
		b := []byte(r.b)
		x, n, e := varint.Take(b)
		if x != r.x || n != r.n || e != r.e {
			t.Errorf("%s: %d %d %d, not %d %d %d", r.name, x, n, e, r.x, r.n, r.e)
		}
		if string(b) != r.b {
			t.Errorf("%s: the bytes were changed", r.name)
		}
	}
	if x, n, e := varint.Take(nil); x != 0 || n != 0 || e != api.ErrShort {
		t.Error("nil:", x, n, e)
	}
}

func TestTakeOfEachCut(t *testing.T) {
	for _, x := range numbers() {
		b := varint.Put(x)
		for i := range b {
			if y, n, e := varint.Take(b[:i]); y != 0 || n != 0 || e != api.ErrShort {
				t.Errorf("%d cut behind %d: %d %d %d", x, i, y, n, e)
			}
		}
	}
}

// P1.2

func TestZig(t *testing.T) {
	rows := []struct {
		x    int64
		want uint64
	}{
		{0, 0}, {-1, 1}, {1, 2}, {-2, 3}, {2, 4}, {-3, 5}, {3, 6},
		{63, 126}, {-64, 127}, {64, 128}, {-150, 299}, {150, 300},
		{1 << 40, 1 << 41}, {-1 << 40, 1<<41 - 1},
		{math.MaxInt64, math.MaxUint64 - 1}, {math.MinInt64, math.MaxUint64},
		{math.MaxInt64 - 1, math.MaxUint64 - 3}, {math.MinInt64 + 1, math.MaxUint64 - 2},
	}
	for _, r := range rows {
		if got := varint.Zig(r.x); got != r.want {
			t.Errorf("Zig(%d): %d, not %d", r.x, got, r.want)
		}
		if got := varint.Zag(r.want); got != r.x {
			t.Errorf("Zag(%d): %d, not %d", r.want, got, r.x)
		}
	}
	for _, x := range numbers() {
		if varint.Zig(varint.Zag(x)) != x || varint.Zag(varint.Zig(int64(x))) != int64(x) {
			t.Error(x)
		}
	}
}

// P1.3

func TestTexts(t *testing.T) {
	long := strings.Repeat("x", 300)
	rows := []struct {
		l    []string
		want string
	}{
		{nil, ""},
		{[]string{""}, "\x00"},
		{[]string{"ab", "c"}, "\x02ab\x01c"},
		{[]string{"", "a", ""}, "\x00\x01a\x00"},
		{[]string{"\x00\xff"}, "\x02\x00\xff"},
		{[]string{"\u00e9"}, "\x02\xc3\xa9"},
		{[]string{long, "y"}, "\xac\x02" + long + "\x01y"},
	}
	for _, r := range rows {
		if got := varint.Texts(r.l...); string(got) != r.want {
			t.Errorf("Texts(%q): %q", r.l, got)
		}
	}
}

func TestReaderReads(t *testing.T) {
	b := varint.Put(300, 0, varint.Zig(-7))
	b = append(b, varint.Texts("ab", "", "\x80\x00")...)
	r := varint.Open(b)
	left := func(n int) {
		t.Helper()
		if r.Left() != n || r.Err() != api.OK {
			t.Errorf("left %d, not %d; error %d", r.Left(), n, r.Err())
		}
	}
	left(11)
	if x := r.Num(); x != 300 {
		t.Error(x)
	}
	left(9)
	if x := r.Int(); x != 0 {
		t.Error(x)
	}
	left(8)
	if x := r.Int(); x != -7 {
		t.Error(x)
	}
	left(7)
	if s := r.Text(); s != "ab" {
		t.Errorf("%q", s)
	}
	left(4)
	if s := r.Text(); s != "" {
		t.Errorf("%q", s)
	}
	left(3)
	if r.End() != api.ErrLeft {
		t.Error(r.End())
	}
	left(3)
	if s := r.Text(); s != "\x80\x00" {
		t.Errorf("%q", s)
	}
	left(0)
	if r.End() != api.OK {
		t.Error(r.End())
	}
}

// stuck tells whether a reader stays where it is, with an error.
func stuck(t *testing.T, name string, r *varint.Reader, left int, e api.Errno) {
	t.Helper()
	for range 2 {
		x, y, s := r.Num(), r.Int(), r.Text()
		if x != 0 || y != 0 || s != "" {
			t.Errorf("%s: read %d %d %q", name, x, y, s)
		}
		if r.Left() != left || r.Err() != e || r.End() != e {
			t.Errorf("%s: left %d, error %d, end %d; not %d, %d", name, r.Left(), r.Err(), r.End(), left, e)
		}
	}
}

func TestReaderStopsAtTheFirstError(t *testing.T) {
	full := strings.Repeat("\xff", 9)
	rows := []struct {
		name string
		b    string
		left int
		e    api.Errno
	}{
		{"nothing", "", 0, api.ErrShort},
		{"cut", "\x80", 1, api.ErrShort},
		{"nine", full, 9, api.ErrShort},
		{"a last 0", "\x80\x00\x01", 3, api.ErrForm},
		{"a tenth of 2", full + "\x02\x01\x01", 12, api.ErrForm},
		{"ten that go on", full + "\xff\x01", 11, api.ErrForm},
	}
	for _, r := range rows {
		num := varint.Open([]byte(r.b))
		if x := num.Num(); x != 0 {
			t.Error(r.name, x)
		}
		stuck(t, r.name+", Num", num, r.left, r.e)
		signed := varint.Open([]byte(r.b))
		if x := signed.Int(); x != 0 {
			t.Error(r.name, x)
		}
		stuck(t, r.name+", Int", signed, r.left, r.e)
		text := varint.Open([]byte(r.b))
		if s := text.Text(); s != "" {
			t.Error(r.name, s)
		}
		stuck(t, r.name+", Text", text, r.left, r.e)
	}
}

func TestReaderOfATextThatIsCut(t *testing.T) {
	rows := []struct {
		name string
		b    string
		left int
	}{
		{"none of it", "\x01", 0},
		{"one fewer", "\x03ab", 2},
		{"others behind that would do", "\x05\x01a\x01", 3},
		{"a number of two bytes", "\xac\x02abc", 3},
		{"more than an int", "\xff\xff\xff\xff\xff\xff\xff\xff\xff\x01a", 1},
		{"the least number, as an int", "\x80\x80\x80\x80\x80\x80\x80\x80\x80\x01ab", 2},
	}
	for _, r := range rows {
		text := varint.Open([]byte(r.b))
		if s := text.Text(); s != "" {
			t.Errorf("%s: %q", r.name, s)
		}
		stuck(t, r.name, text, r.left, api.ErrShort)
	}
}

func TestReaderErrorBehindWhatWasRead(t *testing.T) {
	r := varint.Open([]byte("\x02ab\x05\x80\x00"))
	if r.Text() != "ab" || r.Num() != 5 || r.Err() != api.OK {
		t.Error(r.Err())
	}
	stuck(t, "a last 0", r, 2, api.ErrForm)
}

func TestReaderOfNothing(t *testing.T) {
	for _, r := range []*varint.Reader{varint.Open(nil), varint.Open([]byte{}), {}} {
		if r.Left() != 0 || r.Err() != api.OK || r.End() != api.OK {
			t.Error(r.Left(), r.Err(), r.End())
		}
	}
	stuck(t, "nil", nil, 0, api.ErrShort)
}

func TestReaderKeepsNothingThatWasHandedIn(t *testing.T) {
	b := varint.Texts("ab", "cd")
	r := varint.Open(b)
	copy(b, "\x09zz")
	if r.Text() != "ab" {
		t.Error("what was handed in is kept")
	}
	clear(b)
	if r.Text() != "cd" || r.End() != api.OK || !slices.Equal(b, make([]byte, 6)) {
		t.Error("what was handed in is kept, or changed")
	}
}

func TestReadersAreApart(t *testing.T) {
	b := varint.Put(1, 2, 3)
	one, two := varint.Open(b), varint.Open(b)
	if one.Num() != 1 || one.Num() != 2 || two.Num() != 1 || two.Left() != 2 || one.Left() != 1 {
		t.Error(one.Left(), two.Left())
	}
}

// P1.4

func TestWhatWasPutIsTaken(t *testing.T) {
	l := numbers()
	b := varint.Put(l...)
	r := varint.Open(b)
	for _, want := range l {
		x, n, e := varint.Take(b)
		if x != want || n != len(varint.Put(want)) || e != api.OK {
			t.Fatal(want, x, n, e)
		}
		b = b[n:]
		if y := r.Num(); y != want || r.Left() != len(b) {
			t.Fatal(want, y, r.Left())
		}
	}
	if len(b) != 0 || r.End() != api.OK {
		t.Error(b, r.End())
	}
}

func TestTextsThatWerePutAreTaken(t *testing.T) {
	l := []string{"", "a", "", strings.Repeat("b", 127), strings.Repeat("c", 128), "\x00\x80\xff", strings.Repeat("d", 20000), ""}
	r := varint.Open(varint.Texts(l...))
	for i, want := range l {
		if s := r.Text(); s != want {
			t.Fatal(i, len(s), r.Err())
		}
	}
	if r.End() != api.OK {
		t.Error(r.End())
	}
}

func TestNumbersHaveBytesOfTheirOwn(t *testing.T) {
	seen := map[string]uint64{}
	for x := range uint64(40000) {
		b := string(varint.Put(x))
		if y, ok := seen[b]; ok {
			t.Fatalf("%d and %d have the same bytes", x, y)
		}
		seen[b] = x
	}
}

// What is taken, put again, is what it was taken from: there is no second way to write a number.
func TestNumbersAreWrittenInOneWay(t *testing.T) {
	tails := []string{"", "\x00", "\x01", "\x02", "\x7f", "\x80", "\xff", "\x80\x00", "\x80\x01", "\xff\x01"}
	for heads := range 11 {
		for _, c := range []string{"\x80", "\x81", "\xff"} {
			for _, tail := range tails {
				b := []byte(strings.Repeat(c, heads) + tail)
				x, n, e := varint.Take(b)
				if e == api.OK && !slices.Equal(varint.Put(x), b[:n]) {
					t.Errorf("%x is taken as %d, that is put as %x", b, x, varint.Put(x))
				}
			}
		}
	}
}
