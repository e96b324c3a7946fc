// Package varint is numbers and texts as bytes, in one way only.
package varint

import (
	"kinetoscope/api"
)

const (
	more    = 128 // in a byte: the number goes on behind it
	longest = 10  // bytes of a number of 64 bits, at most
)

// Put is the bytes of numbers.
func Put(l ...uint64) []byte {
	var b []byte
	for _, x := range l {
		b = add(b, x)
	}
	return b
}

// add is b with a number's bytes behind.
func add(b []byte, x uint64) []byte {
	for x >= more {
		b = append(b, byte(x%more)+more)
		x /= more
	}
	return append(b, byte(x))
}

// Take is the number that bytes begin with, and how many bytes it has.
func Take(b []byte) (uint64, int, api.Errno) {
	var x uint64
	for i := range min(len(b), longest) {
		c := b[i]
		x |= uint64(c%more) << (7 * i)
		if c >= more {
			continue
		}
		if !mayEnd(c, i) {
			return 0, 0, api.ErrForm
		}
		return x, i + 1, api.OK
	}
	if len(b) < longest {
		return 0, 0, api.ErrShort
	}
	return 0, 0, api.ErrForm
}

// mayEnd tells whether a number's last byte, at i, may be c: a 0 there would be
// a second way to write the number, and the tenth byte has but one bit of it.
func mayEnd(c byte, i int) bool {
	if i == 0 {
		return true
	}
	return c != 0 && (i < longest-1 || c == 1)
}

// Zig is a number with a sign as one without.
func Zig(x int64) uint64 {
	if x < 0 {
		return 2*uint64(-(x+1)) + 1 // x+1 first: -x of the least number is too big
	}
	return 2 * uint64(x)
}

// Zag is the number whose Zig is x.
func Zag(x uint64) int64 {
	half := int64(x / 2)
	if x%2 == 1 {
		return -half - 1
	}
	return half
}

// Texts are the bytes of texts: of each one how many bytes it has, and these.
func Texts(l ...string) []byte {
	var b []byte
	for _, s := range l {
		b = add(b, uint64(len(s)))
		b = append(b, s...)
	}
	return b
}

// Reader reads what Put and Texts put.
type Reader struct {
	rest []byte
	err  api.Errno
}

// Open is a reader of b, at its beginning.
func Open(b []byte) *Reader {
	return &Reader{rest: append([]byte(nil), b...)}
}

// Num is the next number; 0 behind an error.
func (r *Reader) Num() uint64 {
	if r.Err() != api.OK {
		return 0
	}
	x, n, e := Take(r.rest)
	r.rest, r.err = r.rest[n:], e
	return x
}

// Int is the next number with a sign; 0 behind an error.
func (r *Reader) Int() int64 {
	return Zag(r.Num())
}

// Text is the next text; empty behind an error.
func (r *Reader) Text() string {
	n := r.Num()
	if r.Err() != api.OK {
		return ""
	}
	if n > uint64(len(r.rest)) {
		r.err = api.ErrShort
		return ""
	}
	s := string(r.rest[:n])
	r.rest = r.rest[n:]
	return s
}

// Left is how many bytes weren't passed.
func (r *Reader) Left() int {
	if r == nil {
		return 0
	}
	return len(r.rest)
}

// Err is the first error.
func (r *Reader) Err() api.Errno {
	if r == nil {
		return api.ErrShort
	}
	return r.err
}

// End is the first error; ErrLeft, if there is none, and bytes are left.
func (r *Reader) End() api.Errno {
	if e := r.Err(); e != api.OK {
		return e
	}
	if r.Left() > 0 {
		return api.ErrLeft
	}
	return api.OK
}
