package crc_test

import (
	"hash/crc32"
	"slices"
	"strings"
	"testing"

	"kinetoscope/crc"
)

// spelt is a sum by the chapter's words, without the package.
func spelt(b []byte) uint32 {
	x := uint32(4294967295)
	for _, c := range b {
		x ^= uint32(c)
		for range 8 {
			wasOdd := x%2 == 1
			x /= 2
			if wasOdd {
				x ^= 3988292384
			}
		}
	}
	return 4294967295 - x
}

// some are n bytes of no plain order, the same ones for the same start.
func some(n int, start uint32) []byte {
	b := make([]byte, n)
	for i := range b {
		start = start*1664525 + 1013904223
		b[i] = byte(start >> 24)
	}
	return b
}

// rows are bytes of many lengths.
func rows() [][]byte {
	l := [][]byte{nil, {}}
	for _, n := range []int{1, 2, 3, 4, 5, 7, 8, 9, 31, 32, 33, 255, 256, 257, 4096, 65536} {
		l = append(l, make([]byte, n), slices.Repeat([]byte{255}, n), some(n, uint32(n)))
	}
	return l
}

// bytesOf are four bytes whose sum is x: the eight halvings of each of four
// bytes are gone back over, and what the number was at first is xored away.
func bytesOf(x uint32) []byte {
	x = ^x
	for range 32 {
		if x>>31 == 1 {
			x = (x^3988292384)<<1 | 1
		} else {
			x <<= 1
		}
	}
	x = ^x
	return []byte{byte(x), byte(x >> 8), byte(x >> 16), byte(x >> 24)}
}

// sums are the edges of 32 bits, each bit alone, and some between.
func sums() []uint32 {
	l := []uint32{0, 1, 255, 256, 3421780262, 3988292384, 1<<31 - 1, 1 << 31, 1<<31 + 1, 1<<32 - 2, 1<<32 - 1}
	for i := range 32 {
		l = append(l, 1<<i, ^uint32(1<<i), 1<<i*2654435761)
	}
	return l
}

// P2.1

func TestOf(t *testing.T) {
	known := []struct {
		b    string
		want uint32
	}{
		{"", 0},
		{"\x00", 0xd202ef8d},
		{"\x00\x00", 0x41d912ff},
		{"\x01", 0xa505df1b},
		{"\x80", 0x3fba6cad},
		{"\xff", 0xff000000},
		{"\xff\xff", 0xffff0000},
		{"\xff\xff\xff\xff", 0xffffffff},
		{"a", 0xe8b7be43},
		{"abc", 0x352441c2},
		{"123456789", 3421780262},
		{"The quick brown fox jumps over the lazy dog", 0x414fa339},
		{strings.Repeat("\x00", 32), 0x190a55ad},
		{strings.Repeat("\xff", 32), 0xff6cab0b},
	}
	for _, r := range known {
		if got := crc.Of([]byte(r.b)); got != r.want {
			t.Errorf("Of(%q): %x, not %x", r.b, got, r.want)
		}
	}
	if crc.Of(nil) != 0 || crc.Of([]byte{}) != 0 {
		t.Error("nothing has the sum 0")
	}
}

func TestOfIsAsTheWordsAndTheLibraryHaveIt(t *testing.T) {
	for _, b := range rows() {
		if got := crc.Of(b); got != spelt(b) || got != crc32.ChecksumIEEE(b) {
			t.Errorf("%d bytes: %x, not %x", len(b), got, spelt(b))
		}
	}
	for c := range 256 {
		b := []byte{byte(c)}
		if got := crc.Of(b); got != spelt(b) {
			t.Errorf("the byte %d: %x, not %x", c, got, spelt(b))
		}
	}
}

func TestNew(t *testing.T) {
	if crc.New() != 0 || crc.New() != crc.Sum(crc.Of(nil)) {
		t.Error(crc.New())
	}
}

func TestAdd(t *testing.T) {
	want := crc.Sum(3421780262)
	b := func(s string) []byte { return []byte(s) }
	got := []crc.Sum{
		crc.New().Add(b("123456789")),
		crc.New().Add(b("1234")).Add(b("56789")),
		crc.New().Add(b("1234"), b("56789")),
		crc.New().Add(nil, b("1"), nil, b("2345678"), b(""), b("9"), nil),
		crc.New().Add().Add(nil).Add(b("12345678")).Add().Add(b("9")).Add(b(""), nil),
		crc.New().Add(b("1"), b("2"), b("3"), b("4"), b("5"), b("6"), b("7"), b("8"), b("9")),
	}
	for i, s := range got {
		if s != want {
			t.Errorf("%d: %d, not %d", i, s, want)
		}
	}
}

func TestAddKeepsTheRowsInOrder(t *testing.T) {
	one, two := []byte("ab"), []byte("c")
	if crc.New().Add(one, two) == crc.New().Add(two, one) {
		t.Error("the rows' order doesn't count")
	}
	if uint32(crc.New().Add(two, one)) != crc.Of([]byte("cab")) {
		t.Error("the rows aren't one behind the other")
	}
}

func TestAddOfNothing(t *testing.T) {
	for _, x := range sums() {
		s := crc.Sum(x)
		if s.Add() != s || s.Add(nil) != s || s.Add([]byte{}, nil) != s || s.Add([][]byte{}...) != s {
			t.Error(x)
		}
	}
}

func TestAddLeavesTheSum(t *testing.T) {
	s := crc.New().Add([]byte("ab"))
	one, two := s.Add([]byte("c")), s.Add([]byte("d"))
	if uint32(s) != crc.Of([]byte("ab")) || uint32(one) != crc.Of([]byte("abc")) || uint32(two) != crc.Of([]byte("abd")) {
		t.Error(s, one, two)
	}
}

func TestEachSumIsThatOfSomeBytes(t *testing.T) {
	more := []byte("and more")
	for _, x := range sums() {
		b := bytesOf(x)
		if got := crc.Of(b); got != x {
			t.Errorf("Of(%x): %x, not %x", b, got, x)
		}
		want := crc.Of(append(b, more...))
		if got := crc.Sum(x).Add(more); uint32(got) != want {
			t.Errorf("%x and more: %x, not %x", x, got, want)
		}
	}
}

func TestTail(t *testing.T) {
	known := []struct {
		x    uint32
		want string
	}{
		{0, "\x00\x00\x00\x00"},
		{1, "\x01\x00\x00\x00"},
		{255, "\xff\x00\x00\x00"},
		{256, "\x00\x01\x00\x00"},
		{1 << 16, "\x00\x00\x01\x00"},
		{1 << 24, "\x00\x00\x00\x01"},
		{1 << 31, "\x00\x00\x00\x80"},
		{0x01020304, "\x04\x03\x02\x01"},
		{0xfcfdfeff, "\xff\xfe\xfd\xfc"},
		{3421780262, "\x26\x39\xf4\xcb"},
		{1<<32 - 1, "\xff\xff\xff\xff"},
	}
	for _, r := range known {
		if got := crc.Tail(r.x); string(got) != r.want {
			t.Errorf("Tail(%x): %x, not %x", r.x, got, r.want)
		}
	}
}

func TestTailIsNewMemory(t *testing.T) {
	one, two := crc.Tail(0x01020304), crc.Tail(0x01020304)
	clear(one)
	if string(two) != "\x04\x03\x02\x01" || string(crc.Tail(0x01020304)) != "\x04\x03\x02\x01" {
		t.Error(two)
	}
}

func TestWhatIsHandedInIsLeft(t *testing.T) {
	one, two := []byte("ab"), []byte("cd")
	l := [][]byte{one, nil, two}
	crc.New().Add(l...)
	crc.Of(one)
	if string(one) != "ab" || string(two) != "cd" || len(l) != 3 || l[1] != nil || &l[0][0] != &one[0] || &l[2][0] != &two[0] {
		t.Error(one, two, l)
	}
}

// P2.2

func TestASumMayBeToldInParts(t *testing.T) {
	b := some(300, 7)
	want := crc.Of(b)
	for i := range len(b) + 1 {
		head, tail := b[:i], b[i:]
		if uint32(crc.New().Add(head).Add(tail)) != want || uint32(crc.New().Add(head, tail)) != want || uint32(crc.Sum(crc.Of(head)).Add(tail)) != want {
			t.Errorf("cut behind %d bytes", i)
		}
	}
	for size := 1; size <= len(b); size++ {
		s, l := crc.New(), [][]byte(nil)
		for part := range slices.Chunk(b, size) {
			s, l = s.Add(part), append(l, part)
		}
		if uint32(s) != want || uint32(crc.New().Add(l...)) != want {
			t.Errorf("parts of %d bytes", size)
		}
	}
}

// whole tells whether bytes are some and their Tail.
func whole(b []byte) bool {
	n := len(b) - 4
	return string(crc.Tail(crc.Of(b[:n]))) == string(b[n:])
}

// turned is b with others for the bits of mask, whose lowest one stands at bit i, as far as b goes.
func turned(b []byte, i int, mask uint32) []byte {
	b = slices.Clone(b)
	for j := range 32 {
		if k := i + j; mask>>j&1 == 1 && k < 8*len(b) {
			b[k/8] ^= 1 << (k % 8)
		}
	}
	return b
}

// bursts are masks, each with its lowest bit: of one bit, of all up to some bit, of the two ends alone, and some between.
func bursts() []uint32 {
	l := []uint32{1, 1<<32 - 1, 0xdb710641, 0xedb88321}
	for n := 1; n < 32; n++ {
		ends := uint32(1)<<n | 1
		l = append(l, ends, 1<<n-1, ends|0x5bd1e995%(1<<n), ends|0x9e3779b9%(1<<n))
	}
	return l
}

func TestOtherBitsOnEndAreFound(t *testing.T) {
	for _, n := range []int{0, 1, 3, 4, 9, 40} {
		b := some(n, 3)
		b = append(b, crc.Tail(crc.Of(b))...)
		if !whole(b) {
			t.Fatalf("%d bytes and their Tail aren't told as these", n)
		}
		for i := range 8 * len(b) {
			for _, mask := range bursts() {
				if whole(turned(b, i, mask)) {
					t.Errorf("%d bytes: others from bit %d on (%x) aren't found", n, i, mask)
				}
			}
		}
	}
}
