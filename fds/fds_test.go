package fds_test

import (
	"math"
	"math/rand"
	"slices"
	"strings"
	"testing"

	"kinetoscope/fds"
)

// tb is a table of FDs and Ks, by turns.
func tb(l ...int64) fds.Table {
	var t fds.Table
	for i := 0; i < len(l); i += 2 {
		t = append(t, fds.Pair{FD: int(l[i]), K: l[i+1]})
	}
	return t
}

// holds holds a table; one without pairs is none.
func holds(t *testing.T, what string, got, want fds.Table) {
	t.Helper()
	if !slices.Equal(got, want) {
		t.Errorf("%.80s: %.300v, not %.300v", what, got, want)
	}
}

// shows holds a table as a text.
func shows(t *testing.T, got fds.Table, want string) {
	t.Helper()
	if s := got.Show(); s != want {
		t.Errorf("%.300v: %.300q, not %.300q", got, s, want)
	}
}

// gets holds what a number stands for.
func gets(t *testing.T, l fds.Table, fd int, want int64) {
	t.Helper()
	if k, is := l.Get(fd); k != want || !is {
		t.Errorf("%d of %.300v: %d, %t, not %d", fd, l, k, is, want)
	}
}

// lacks holds that numbers stand for nothing.
func lacks(t *testing.T, l fds.Table, fds ...int) {
	t.Helper()
	for _, fd := range fds {
		if k, is := l.Get(fd); k != 0 || is {
			t.Errorf("%d of %.300v: %d, %t", fd, l, k, is)
		}
	}
}

// wide is a table of numbers of all sizes.
func wide() fds.Table {
	return tb(math.MinInt64, 5, -300, -1, -1, math.MinInt64, 0, 0, 2, math.MaxInt64, 10, 2, 11, 2, math.MaxInt64, -7)
}

// P16.1

func TestExample(t *testing.T) {
	shows(t, fds.First().With(1, 7), "0=0 1=7 2=2")
}

func TestFirst(t *testing.T) {
	l := fds.First()
	holds(t, "first", l, tb(0, 0, 1, 1, 2, 2))
	shows(t, l, "0=0 1=1 2=2")
	gets(t, l, 0, 0)
	gets(t, l, 1, 1)
	gets(t, l, 2, 2)
	lacks(t, l, -1, 3, 4, 9, 10, 255, math.MinInt, math.MaxInt)
	l[0], l[1], l[2] = fds.Pair{FD: 7, K: 7}, fds.Pair{FD: 8, K: 8}, fds.Pair{FD: 9, K: 9}
	holds(t, "first, anew", fds.First(), tb(0, 0, 1, 1, 2, 2))
}

func TestGet(t *testing.T) {
	l := wide()
	gets(t, l, math.MinInt, 5)
	gets(t, l, -300, -1)
	gets(t, l, -1, math.MinInt64)
	gets(t, l, 0, 0) // what is got is 0, and there is one
	gets(t, l, 2, math.MaxInt64)
	gets(t, l, 10, 2)
	gets(t, l, 11, 2)
	gets(t, l, math.MaxInt, -7)
	lacks(t, l, math.MinInt+1, -301, -299, -2, 1, 3, 5, 7, 9, 12, 256, 1<<32, math.MaxInt-1)
	for _, none := range []fds.Table{nil, {}} {
		lacks(t, none, 0, 1, 2, -1, math.MinInt, math.MaxInt)
	}
	lacks(t, tb(1, 7), 0, 2, 7)
	gets(t, tb(1, 7), 1, 7)
}

// One among many, at each place, with holes between.
func TestGetOneOfMany(t *testing.T) {
	for n := range 70 {
		var l fds.Table
		for i := range n {
			l = append(l, fds.Pair{FD: 2*i - 60, K: int64(i * i)})
		}
		for i := range n {
			gets(t, l, 2*i-60, int64(i*i))
			lacks(t, l, 2*i-61, 2*i-59)
		}
	}
}

func TestWith(t *testing.T) {
	with := func(l fds.Table, fd int, k int64, want fds.Table) {
		t.Helper()
		holds(t, l.Show(), l.With(fd, k), want)
	}
	l := tb(1, 10, 3, 30)
	with(l, 0, 7, tb(0, 7, 1, 10, 3, 30))
	with(l, -1, 7, tb(-1, 7, 1, 10, 3, 30))
	with(l, 2, 7, tb(1, 10, 2, 7, 3, 30))
	with(l, 4, 7, tb(1, 10, 3, 30, 4, 7))
	with(l, 1, 7, tb(1, 7, 3, 30))
	with(l, 3, 7, tb(1, 10, 3, 7))
	with(l, 3, 30, l)
	with(l, 3, 0, tb(1, 10, 3, 0))
	with(l, 3, -1, tb(1, 10, 3, -1))
	with(l, 2, 10, tb(1, 10, 2, 10, 3, 30)) // two that stand for one file
	with(nil, 5, 0, tb(5, 0))
	with(fds.Table{}, -5, -6, tb(-5, -6))
	with(tb(0, 1), math.MaxInt, math.MinInt64, tb(0, 1, math.MaxInt64, math.MinInt64))
	with(tb(0, 1), math.MinInt, math.MaxInt64, tb(math.MinInt64, math.MaxInt64, 0, 1))
	with(tb(math.MinInt64, 1, math.MaxInt64, 2), 0, 3, tb(math.MinInt64, 1, 0, 3, math.MaxInt64, 2))
	with(tb(math.MinInt64, 1, math.MaxInt64, 2), math.MaxInt, 3, tb(math.MinInt64, 1, math.MaxInt64, 3))
	with(tb(math.MinInt64, 1, math.MaxInt64, 2), math.MinInt, 3, tb(math.MinInt64, 3, math.MaxInt64, 2))
	with(tb(2, 0), 10, 1, tb(2, 0, 10, 1)) // as numbers, not as texts
}

func TestWithout(t *testing.T) {
	without := func(l fds.Table, fd int, want fds.Table) {
		t.Helper()
		holds(t, l.Show(), l.Without(fd), want)
	}
	l := tb(-2, 5, 1, 10, 3, 1, 4, 10)
	without(l, -2, tb(1, 10, 3, 1, 4, 10))
	without(l, 1, tb(-2, 5, 3, 1, 4, 10))
	without(l, 3, tb(-2, 5, 1, 10, 4, 10))
	without(l, 4, tb(-2, 5, 1, 10, 3, 1))
	for _, fd := range []int{-3, -1, 0, 2, 5, 10, math.MinInt, math.MaxInt} {
		without(l, fd, l)
		without(nil, fd, nil)
		without(fds.Table{}, fd, nil)
		without(tb(int64(fd), 1), fd, nil)
	}
	without(tb(math.MinInt64, 1, math.MaxInt64, 2), math.MinInt, tb(math.MaxInt64, 2))
	without(tb(math.MinInt64, 1, math.MaxInt64, 2), math.MaxInt, tb(math.MinInt64, 1))
	holds(t, "all", fds.First().Without(1).Without(0).Without(2), nil)
}

func TestShow(t *testing.T) {
	shows(t, nil, "")
	shows(t, fds.Table{}, "")
	shows(t, tb(0, 0), "0=0")
	shows(t, tb(1, 7, 2, 2, 9, -2), "1=7 2=2 9=-2")
	shows(t, tb(10, 100, 255, 65536, 1000000, 1234567890), "10=100 255=65536 1000000=1234567890")
	shows(t, tb(-10, -1, -9, 1), "-10=-1 -9=1")
	shows(t, wide(), "-9223372036854775808=5 -300=-1 -1=-9223372036854775808 0=0 2=9223372036854775807 10=2 11=2 9223372036854775807=-7")
	var want []string
	var l fds.Table
	for n := range 100000 {
		l = append(l, fds.Pair{FD: n})
		want = append(want, digits(int64(n))+"=0")
	}
	shows(t, l, strings.Join(want, " "))
}

// Tables that don't rise, or have a number twice, have some answer.
func TestOthersHaveSomeAnswer(t *testing.T) {
	r := rand.New(rand.NewSource(161))
	for range 20000 {
		var l fds.Table
		for range r.Intn(7) {
			l = append(l, fds.Pair{FD: r.Intn(5), K: int64(r.Intn(9))})
		}
		was := slices.Clone(l)
		fd := r.Intn(6) - 1
		l.Get(fd)
		l.With(fd, 7).Show()
		l.Without(fd).Show()
		holds(t, "stays", l, was)
	}
}

// P16.2

func TestWhatWasPutIsGot(t *testing.T) {
	some := []int{math.MinInt, -1000, -1, 0, 1, 2, 3, 9, 10, 11, 1 << 40, math.MaxInt}
	for _, l := range []fds.Table{nil, fds.First(), wide(), tb(5, 5)} {
		for _, fd := range some {
			for _, k := range []int64{math.MinInt64, -1, 0, 1, 7, math.MaxInt64} {
				with, without := l.With(fd, k), l.Without(fd)
				gets(t, with, fd, k)
				lacks(t, without, fd)
				for _, other := range some {
					if other != fd {
						same(t, l, with, other)
						same(t, l, without, other)
					}
				}
				holds(t, "again", with.With(fd, k), with)
				holds(t, "another", with.With(fd, 99), l.With(fd, 99))
				holds(t, "gone", with.Without(fd), without)
				holds(t, "back", without.With(fd, k), with)
				holds(t, "gone again", without.Without(fd), without)
			}
		}
	}
}

// same holds that a number stands for the same in both.
func same(t *testing.T, a, b fds.Table, fd int) {
	t.Helper()
	k, is := a.Get(fd)
	if m, has := b.Get(fd); m != k || has != is {
		t.Errorf("%d of %v: %d, %t, not %d, %t", fd, b, m, has, k, is)
	}
}

// What is handed in stays, also behind its end; what is told is new memory, also where nothing is changed.
func TestNewMemory(t *testing.T) {
	for _, fd := range []int{-1, 0, 1, 2, 3, 4, 5, 9} {
		whole := tb(0, 10, 2, 12, 4, 14, 6, 16, 8, 18, 9, 19)
		for n := range len(whole) {
			l := whole[:n]
			with, without := l.With(fd, 77), l.Without(fd)
			l.Get(fd)
			l.Show()
			holds(t, "handed in", whole, tb(0, 10, 2, 12, 4, 14, 6, 16, 8, 18, 9, 19))
			for _, told := range []fds.Table{with, without} {
				was := slices.Clone(told)
				for i := range told[:cap(told)] {
					told[:cap(told)][i] = fds.Pair{FD: 1000 + i, K: 3}
				}
				holds(t, "handed in, still", whole, tb(0, 10, 2, 12, 4, 14, 6, 16, 8, 18, 9, 19))
				copy(told, was)
			}
			a, b := with.With(50, 1), with.With(60, 2) // two that go on from one
			a = append(a, fds.Pair{FD: 70, K: 3})
			holds(t, "one", b, append(slices.Clone(with), fds.Pair{FD: 60, K: 2}))
			holds(t, "other", a, append(slices.Clone(with), fds.Pair{FD: 50, K: 1}, fds.Pair{FD: 70, K: 3}))
		}
	}
}
