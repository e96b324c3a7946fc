package frame_test

import (
	"bytes"
	"encoding/binary"
	"hash/crc32"
	"math"
	"slices"
	"strings"
	"testing"

	"kinetoscope/api"
	"kinetoscope/frame"
)

// summed are bytes and their sum behind them, the lowest byte first, by the library.
func summed(b []byte) []byte {
	return binary.LittleEndian.AppendUint32(bytes.Clone(b), crc32.ChecksumIEEE(b))
}

// spelt is a row's frame by the chapter's words, without the package.
func spelt(row []byte) []byte {
	return summed(append(binary.AppendUvarint(nil, uint64(len(row))), row...))
}

// some are n bytes of no plain order, the same ones for the same start.
func some(n int, start uint32) []byte {
	b := make([]byte, n)
	for i := range b {
		start = start*1664525 + 1013904223
		b[i] = byte(start >> 24)
	}
	return b
}

// few are rows as they may come: short ones, one without bytes, one like a frame, one of which the number has two bytes.
func few() [][]byte {
	return [][]byte{[]byte("ab"), nil, []byte("c"), spelt([]byte("in")), {0}, some(300, 1), {}, []byte("\xff\xff\xff\xff")}
}

// ends are the places behind each row's frame, from 0 on.
func ends(rows [][]byte) []int {
	l := []int{0}
	for i, row := range rows {
		l = append(l, l[i]+len(spelt(row)))
	}
	return l
}

func equal(a, b [][]byte) bool {
	return slices.EqualFunc(a, b, bytes.Equal)
}

// fails holds that Take of b tells an error, and nothing else.
func fails(t *testing.T, name string, b []byte, want api.Errno) {
	t.Helper()
	row, n, e := frame.Take(b)
	if len(row) != 0 || n != 0 || e != want {
		t.Errorf("Take of %s: %d bytes, %d, error %d, not %d", name, len(row), n, e, want)
	}
}

// scans holds what Scan of b tells.
func scans(t *testing.T, name string, b []byte, rows [][]byte, n int, e api.Errno) {
	t.Helper()
	l, gotN, gotE := frame.Scan(b)
	if !equal(l, rows) || gotN != n || gotE != e {
		t.Errorf("Scan of %s: %d rows (as they should be: %t), %d, error %d; not %d, %d, %d", name, len(l), equal(l, rows), gotN, gotE, len(rows), n, e)
	}
}

// P3.1

func TestPut(t *testing.T) {
	rows := []struct {
		l    []string
		want string
	}{
		{nil, ""},
		{[]string{""}, "\x00\x8d\xef\x02\xd2"},
		{[]string{"ab"}, "\x02ab\xee\x57\x9f\x23"},
		{[]string{"c", ""}, "\x01c\x5c\x13\x79\x8c\x00\x8d\xef\x02\xd2"},
		{[]string{"", "c"}, "\x00\x8d\xef\x02\xd2\x01c\x5c\x13\x79\x8c"},
		{[]string{"\x00"}, "\x01\x00\xbe\x23\xc2\x58"},
		{[]string{"123456789"}, "\x09123456789\x34\x6e\x62\x32"},
	}
	for _, r := range rows {
		var l [][]byte
		for _, s := range r.l {
			l = append(l, []byte(s))
		}
		if got := frame.Put(l...); string(got) != r.want {
			t.Errorf("Put(%q): %x, not %x", r.l, got, r.want)
		}
	}
}

func TestPutOfEachLength(t *testing.T) {
	for _, n := range []int{0, 1, 2, 126, 127, 128, 129, 255, 256, 16383, 16384, 65535, 65536} {
		row := some(n, uint32(n))
		got := frame.Put(row)
		if !bytes.Equal(got, spelt(row)) {
			t.Errorf("the frame of %d bytes isn't what it should be", n)
		}
		back, size, e := frame.Take(got)
		if !bytes.Equal(back, row) || size != len(got) || e != api.OK {
			t.Errorf("%d bytes: Take tells %d, %d, error %d", n, len(back), size, e)
		}
	}
}

func TestPutKeepsTheRowsInOrder(t *testing.T) {
	l := few()
	var want []byte
	for _, row := range l {
		want = append(want, spelt(row)...)
	}
	if got := frame.Put(l...); !bytes.Equal(got, want) {
		t.Errorf("%x, not %x", got, want)
	}
	slices.Reverse(l)
	if bytes.Equal(frame.Put(l...), want) {
		t.Error("the rows' order doesn't count")
	}
}

func TestPutOfARowThatIsTooLong(t *testing.T) {
	short, most, long := []byte("ab"), make([]byte, 65536), make([]byte, 65537)
	for i, l := range [][][]byte{
		{long}, {long, short}, {short, long}, {short, nil, long, short}, {most, long}, {long, long}, {make([]byte, 1<<20)},
	} {
		if got := frame.Put(l...); len(got) != 0 {
			t.Errorf("%d: %d bytes", i, len(got))
		}
	}
	if got := frame.Put(most, most, short); len(got) != 2*(3+65536+4)+7 {
		t.Errorf("each row may have 65536 bytes, not all of them: %d bytes", len(got))
	}
}

func TestTake(t *testing.T) {
	for i, row := range few() {
		one := spelt(row)
		for _, behind := range []string{"", "\x00", "\xff\xff\xff\xff\xff", "\x05ab", string(spelt(nil))} {
			got, n, e := frame.Take(append(bytes.Clone(one), behind...))
			if !bytes.Equal(got, row) || n != len(one) || e != api.OK {
				t.Errorf("row %d with %x behind: %x, %d, error %d", i, behind, got, n, e)
			}
		}
	}
}

func TestTakeOfNoNumber(t *testing.T) {
	nine := strings.Repeat("\xff", 9)
	rows := []struct {
		name string
		b    string
		e    api.Errno
	}{
		{"nothing", "", api.ErrShort},
		{"a number that is cut", "\x80", api.ErrShort},
		{"nine bytes that go on", nine, api.ErrShort},
		{"ten bytes that go on", nine + "\xff", api.ErrForm},
		{"a tenth byte of 2", nine + "\x02", api.ErrForm},
		{"a last byte of 0", "\x80\x00", api.ErrForm},
		{"a last byte of 0, and its sum", string(summed([]byte("\x80\x00"))), api.ErrForm},
		{"a 2 with a last byte of 0, a row, its sum", string(summed([]byte("\x82\x00ab"))), api.ErrForm},
	}
	for _, r := range rows {
		fails(t, r.name, []byte(r.b), r.e)
	}
	fails(t, "nil", nil, api.ErrShort)
}

func TestTakeOfANumberThatIsTooBig(t *testing.T) {
	for _, x := range []uint64{65537, 65538, 1 << 20, 1 << 31, 1<<32 + 2, 1 << 63, 1<<63 + 2, math.MaxUint64 - 3, math.MaxUint64} {
		head := binary.AppendUvarint(nil, x)
		fails(t, "a head alone", head, api.ErrBig)
		fails(t, "a head, and few bytes", append(bytes.Clone(head), "ab"...), api.ErrBig)
		fails(t, "a head, and a sum", summed(head), api.ErrBig)
	}
	fails(t, "a whole row of 65537 bytes", spelt(make([]byte, 65537)), api.ErrBig)
	fails(t, "one fewer that is cut", spelt(make([]byte, 65536))[:3], api.ErrShort)
}

func TestTakeOfBytesThatAreCut(t *testing.T) {
	for _, row := range [][]byte{nil, []byte("a"), []byte("ab"), some(130, 2), spelt([]byte("in"))} {
		b := spelt(row)
		for n := range b {
			fails(t, "a frame that is cut", b[:n], api.ErrShort)
		}
	}
	b := spelt(make([]byte, 65536))
	for _, n := range []int{1, 2, 3, 4, 65535, 65536, 65538, 65539, 65540, 65542} {
		fails(t, "the longest frame, cut", b[:n], api.ErrShort)
	}
	fails(t, "a wrong sum that is cut", []byte("\x02abxxx"), api.ErrShort)
}

func TestTakeOfAnotherSum(t *testing.T) {
	turned := spelt([]byte("ab"))
	slices.Reverse(turned[3:])
	rows := []struct {
		name string
		b    []byte
	}{
		{"zeros", make([]byte, 5)},
		{"four bytes that are no sum", []byte("\x02abxxxx")},
		{"a sum of which the highest byte is first", turned},
		{"the sum of the row alone", append([]byte("\x02"), summed([]byte("ab"))...)},
		{"the sum of another row", append([]byte("\x02ab"), spelt([]byte("ba"))[3:]...)},
	}
	for _, r := range rows {
		fails(t, r.name, r.b, api.ErrSum)
	}
}

func TestTakeOfSpoiltBits(t *testing.T) {
	b := spelt([]byte("some row"))
	for i := range 8 * len(b) {
		spoilt := bytes.Clone(b)
		spoilt[i/8] ^= 1 << (i % 8)
		row, n, e := frame.Take(spoilt)
		if len(row) != 0 || n != 0 || e == api.OK {
			t.Errorf("bit %d: %q, %d, error %d", i, row, n, e)
		}
		if i >= 8 && e != api.ErrSum {
			t.Errorf("bit %d behind the number: error %d", i, e)
		}
	}
}

func TestWhatIsHandedInIsLeft(t *testing.T) {
	one, two := []byte("abxxxxxxxx")[:2], []byte("cd")
	l := [][]byte{one, nil, two}
	b := frame.Put(l...)
	if string(one[:10]) != "abxxxxxxxx" || string(two) != "cd" || len(l) != 3 || l[1] != nil {
		t.Errorf("Put changed %q %q", one[:10], two)
	}
	clear(one)
	if !bytes.Equal(b, slices.Concat(spelt([]byte("ab")), spelt(nil), spelt([]byte("cd")))) {
		t.Error("Put's bytes are those of a row")
	}
	whole := bytes.Clone(b)
	frame.Take(b)
	frame.Scan(b)
	if !bytes.Equal(b, whole) {
		t.Errorf("Take or Scan changed %x", b)
	}
}

func TestTakeIsNewMemory(t *testing.T) {
	b := frame.Put([]byte("ab"), []byte("cd"))
	whole := bytes.Clone(b)
	one, _, _ := frame.Take(b)
	two, _, _ := frame.Take(b)
	copy(one, "zz")
	_ = append(one, "zzzzzzzz"...)
	if !bytes.Equal(b, whole) || string(two) != "ab" {
		t.Errorf("%x %q", b, two)
	}
	clear(b)
	if string(two) != "ab" {
		t.Errorf("%q", two)
	}
}

// P3.2

func TestScan(t *testing.T) {
	scans(t, "nil", nil, nil, 0, api.OK)
	scans(t, "nothing", []byte{}, nil, 0, api.OK)
	scans(t, "a row without bytes", spelt(nil), [][]byte{{}}, 5, api.OK)
	scans(t, "three of them", slices.Repeat(spelt(nil), 3), [][]byte{{}, {}, {}}, 15, api.OK)
	l := few()
	var b []byte
	for i, row := range l {
		b = append(b, spelt(row)...)
		scans(t, "some rows", b, l[:i+1], len(b), api.OK)
	}
}

// faults are bytes that Take takes not, with its error.
func faults() map[string]api.Errno {
	wrong := spelt([]byte("wrong"))
	wrong[2] ^= 1
	return map[string]api.Errno{
		"\x80":                     api.ErrShort,
		"\x02":                     api.ErrShort,
		"\x00\x8d\xef\x02":         api.ErrShort,
		"\x80\x00":                 api.ErrForm,
		"\x81\x80\x04":             api.ErrBig,
		string(wrong):              api.ErrSum,
		"\x00\x00\x00\x00\x00":     api.ErrSum,
		strings.Repeat("\xff", 12): api.ErrForm,
	}
}

func TestScanStopsAtTheFirstFault(t *testing.T) {
	l := few()
	for fault, want := range faults() {
		fails(t, "a fault", []byte(fault), want)
		var ahead []byte
		for i := range len(l) + 1 {
			scans(t, "a fault at the end", append(bytes.Clone(ahead), fault...), l[:i], len(ahead), want)
			if i < len(l) {
				ahead = append(ahead, spelt(l[i])...)
			}
		}
	}
}

func TestScanTellsNothingBehindAFault(t *testing.T) {
	l, wrong := few(), spelt([]byte("wrong"))
	wrong[len(wrong)-1] ^= 128
	for i := range l {
		b := slices.Concat(frame.Put(l[:i]...), wrong, frame.Put(l[i:]...))
		scans(t, "a wrong sum between", b, l[:i], ends(l)[i], api.ErrSum)
		b = slices.Concat(frame.Put(l[:i]...), spelt(make([]byte, 65537)), frame.Put(l[i:]...))
		scans(t, "a row too long between", b, l[:i], ends(l)[i], api.ErrBig)
	}
}

func TestScanIsNewMemory(t *testing.T) {
	b := frame.Put([]byte("ab"), []byte("cd"), []byte("ef"))
	whole := bytes.Clone(b)
	l, _, _ := frame.Scan(b)
	copy(l[0], "zz")
	_ = append(l[0], "zzzzzzzz"...)
	if !bytes.Equal(b, whole) || string(l[1]) != "cd" || string(l[2]) != "ef" {
		t.Errorf("%x %q", b, l)
	}
	clear(b)
	if string(l[1]) != "cd" || string(l[2]) != "ef" {
		t.Errorf("%q", l)
	}
}

// P3.3

func TestWhatIsPutIsScanned(t *testing.T) {
	lists := [][][]byte{nil, {nil}, {some(65536, 3)}, {some(65536, 4), nil, some(65535, 5)}, few()}
	for n := range 140 {
		lists = append(lists, [][]byte{some(n, 6), some(139-n, 7)})
	}
	many := make([][]byte, 3000)
	for i := range many {
		many[i] = some(i%9, uint32(i))
	}
	for _, l := range append(lists, many) {
		b := frame.Put(l...)
		scans(t, "what was put", b, l, len(b), api.OK)
	}
}

func TestCutAnywhere(t *testing.T) {
	l := few()
	b, places := frame.Put(l...), ends(l)
	for n := range len(b) + 1 {
		i, between := slices.BinarySearch(places, n)
		if between {
			scans(t, "bytes cut between two frames", b[:n], l[:i], n, api.OK)
		} else {
			scans(t, "bytes cut within a frame", b[:n], l[:i-1], places[i-1], api.ErrShort)
		}
	}
}

func TestSpoiltAnywhere(t *testing.T) {
	l := few()
	b, places := frame.Put(l...), ends(l)
	for n := range b {
		i, at := slices.BinarySearch(places, n)
		if !at {
			i--
		}
		spoilt := bytes.Clone(b)
		spoilt[n] ^= 1
		rows, size, e := frame.Scan(spoilt)
		if !equal(rows, l[:i]) || size != places[i] || e == api.OK {
			t.Errorf("byte %d: %d rows, %d, error %d; not %d, %d", n, len(rows), size, e, i, places[i])
		}
	}
}
