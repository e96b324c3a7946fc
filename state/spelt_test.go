package state_test

import (
	"bytes"
	"encoding/binary"
	"math"
	"math/rand"
	"reflect"
	"testing"

	"kinetoscope/api"
	"kinetoscope/state"
)

// The chapter's words spelt another way: things are gone over by package reflect, in the order in which their types have their fields, and numbers are those of the library.

const speltMost = 100000

// speltBytes are a thing's, behind b.
func speltBytes(b []byte, x reflect.Value) []byte {
	switch x.Kind() {
	case reflect.Bool:
		if x.Bool() {
			return append(b, 2)
		}
		return append(b, 0)
	case reflect.String:
		return append(binary.AppendUvarint(b, uint64(x.Len())), x.String()...)
	case reflect.Slice:
		b = binary.AppendVarint(b, int64(x.Len()))
		for i := range x.Len() {
			b = speltBytes(b, x.Index(i))
		}
		return b
	case reflect.Struct:
		for i := range x.NumField() {
			b = speltBytes(b, x.Field(i))
		}
		return b
	}
	return binary.AppendVarint(b, x.Int())
}

func speltPack(s state.State) []byte {
	return speltBytes(nil, reflect.ValueOf(s))
}

// speltReader is bytes that are yet to be read; its methods tell an error by a panic.
type speltReader []byte

func (r *speltReader) unsigned() uint64 {
	x, n := binary.Uvarint(*r)
	switch {
	case n == 0 && len(*r) < 10:
		panic(api.ErrShort)
	case n <= 0 || n > 1 && (*r)[n-1] == 0:
		panic(api.ErrForm)
	}
	*r = (*r)[n:]
	return x
}

func (r *speltReader) signed() int64 {
	x := r.unsigned()
	return int64(x>>1) ^ -int64(x&1)
}

func (r *speltReader) upTo(most int64) int64 {
	x := r.signed()
	if x < 0 || x > most {
		panic(api.ErrForm)
	}
	return x
}

func (r *speltReader) text() string {
	n := r.unsigned()
	if n > uint64(len(*r)) {
		panic(api.ErrShort)
	}
	s := string((*r)[:n])
	*r = (*r)[n:]
	return s
}

func (r *speltReader) thing(x reflect.Value) {
	switch x.Kind() {
	case reflect.Bool:
		x.SetBool(r.upTo(1) == 1)
	case reflect.String:
		x.SetString(r.text())
	case reflect.Slice:
		for range r.upTo(speltMost) {
			next := reflect.New(x.Type().Elem()).Elem()
			r.thing(next)
			x.Set(reflect.Append(x, next))
		}
	case reflect.Struct:
		for i := range x.NumField() {
			r.thing(x.Field(i))
		}
	default:
		x.SetInt(r.signed())
	}
}

func speltUnpack(b []byte) (s state.State, e api.Errno) {
	defer func() {
		if x := recover(); x != nil {
			s, e = state.State{}, x.(api.Errno)
		}
	}()
	r := speltReader(b)
	r.thing(reflect.ValueOf(&s).Elem())
	if len(r) > 0 {
		return state.State{}, api.ErrLeft
	}
	return s, api.OK
}

// someNumber is one of many lengths.
func someNumber(by *rand.Rand) int64 {
	switch by.Intn(4) {
	case 0:
		return int64(by.Intn(7) - 3)
	case 1:
		return []int64{63, 64, -64, -65, 8191, 8192, -8192, -8193, math.MaxInt64, math.MinInt64}[by.Intn(10)]
	}
	return int64(by.Uint64()) >> by.Intn(64)
}

// fill makes a thing one by chance; the fewer, the fewer things its rows have.
func fill(by *rand.Rand, x reflect.Value, fewer int) {
	switch x.Kind() {
	case reflect.Bool:
		x.SetBool(by.Intn(2) == 1)
	case reflect.String:
		b := make([]byte, by.Intn(5))
		by.Read(b)
		x.SetString(string(b))
	case reflect.Slice:
		for range by.Intn(8) / fewer {
			next := reflect.New(x.Type().Elem()).Elem()
			fill(by, next, fewer+1)
			x.Set(reflect.Append(x, next))
		}
	case reflect.Struct:
		for i := range x.NumField() {
			fill(by, x.Field(i), fewer)
		}
	default:
		x.SetInt(someNumber(by))
	}
}

func byChance(by *rand.Rand) state.State {
	var s state.State
	fill(by, reflect.ValueOf(&s).Elem(), 1+by.Intn(4))
	return s
}

// holdUnpacked holds Unpack of b against the chapter's words.
func holdUnpacked(t *testing.T, b []byte) {
	t.Helper()
	want, e := speltUnpack(b)
	got, f := state.Unpack(b)
	if e != f || !reflect.DeepEqual(got, want) {
		t.Fatalf("Unpack(%x): error %d, not %d, or another state", b, f, e)
	}
}

func TestSpeltStates(t *testing.T) {
	by := rand.New(rand.NewSource(18))
	for range 4000 {
		s := byChance(by)
		b := speltPack(s)
		if got := state.Pack(s); !bytes.Equal(got, b) {
			t.Fatalf("Pack(%v): %x, not %x", s, got, b)
		}
		got, e := state.Unpack(b)
		if e != api.OK || !reflect.DeepEqual(got, s) {
			t.Fatalf("Unpack(%x): error %d, or another state", b, e)
		}
		other := byChance(by)
		if !state.Same(s, got) || state.Same(s, other) != bytes.Equal(b, speltPack(other)) {
			t.Fatalf("Same of %v", s)
		}
	}
}

func TestSpeltCuts(t *testing.T) {
	b := speltPack(full())
	for n := range b {
		holdUnpacked(t, b[:n])
		holdUnpacked(t, b[n:])
	}
	by := rand.New(rand.NewSource(181))
	for range 400 {
		b := speltPack(byChance(by))
		holdUnpacked(t, b[:by.Intn(len(b)+1)])
		holdUnpacked(t, append(b, byte(by.Intn(256))))
	}
}

// Each byte of a state is each other byte, and none, and two.
func TestSpeltSpoilt(t *testing.T) {
	for _, s := range []state.State{{}, full()} {
		b := speltPack(s)
		for i := range b {
			for c := range 256 {
				x := bytes.Clone(b)
				x[i] = byte(c)
				holdUnpacked(t, x)
				holdUnpacked(t, append(append(bytes.Clone(b[:i]), byte(c)), b[i:]...))
			}
			holdUnpacked(t, append(bytes.Clone(b[:i]), b[i+1:]...))
		}
	}
}

// Several places are spoilt, so which one counts first is seen.
func TestSpeltSpoiltByChance(t *testing.T) {
	by := rand.New(rand.NewSource(182))
	few := []byte{0, 1, 2, 3, 4, 5, 127, 128, 129, 255}
	for range 60000 {
		b := speltPack(state.State{})
		if by.Intn(3) == 0 {
			b = speltPack(byChance(by))
		}
		for range 1 + by.Intn(4) {
			at := by.Intn(len(b))
			b[at] = few[by.Intn(len(few))]
		}
		holdUnpacked(t, b)
	}
}
