package fds_test

import (
	"maps"
	"math"
	"math/rand"
	"slices"
	"testing"

	"kinetoscope/fds"
)

// The chapter's words spelt another way: a table as a map, and digits by division.

// digits is a number in digits.
func digits(n int64) string {
	s, u, sign := "", uint64(n), ""
	if n < 0 {
		u, sign = -u, "-"
	}
	for ; u > 9; u /= 10 {
		s = string(rune('0'+u%10)) + s
	}
	return sign + string(rune('0'+u)) + s
}

// rising is a map's numbers, each one above the one ahead.
func rising(m map[int]int64) []int {
	return slices.Sorted(maps.Keys(m))
}

// asMap holds a table against a map.
func asMap(t *testing.T, l fds.Table, m map[int]int64) {
	t.Helper()
	if len(l) != len(m) {
		t.Fatalf("%v, not %v", l, m)
	}
	said := ""
	for i, fd := range rising(m) {
		if l[i] != (fds.Pair{FD: fd, K: m[fd]}) {
			t.Fatalf("%v, not %v", l, m)
		}
		if i > 0 {
			said += " "
		}
		said += digits(int64(fd)) + "=" + digits(m[fd])
	}
	shows(t, l, said)
}

// anyNumber is one of those that are near each other, or near an end, or any.
func anyNumber(r *rand.Rand) int64 {
	switch n := r.Intn(10); {
	case n < 7:
		return int64(r.Intn(25) - 5)
	case n < 8:
		return math.MinInt64 + int64(r.Intn(3))
	case n < 9:
		return math.MaxInt64 - int64(r.Intn(3))
	}
	return int64(r.Uint64()) >> r.Intn(64)
}

// Tables that are changed again and again, each of them told of again at the end.
func TestAgainstMaps(t *testing.T) {
	r := rand.New(rand.NewSource(162))
	for range 300 {
		l, m := fds.First(), map[int]int64{0: 0, 1: 1, 2: 2}
		if r.Intn(3) == 0 {
			l, m = nil, map[int]int64{}
		}
		var tables []fds.Table
		var were []map[int]int64
		for range 60 {
			fd, k := int(anyNumber(r)), anyNumber(r)
			if r.Intn(5) < 2 {
				l = l.Without(fd)
				delete(m, fd)
			} else {
				l = l.With(fd, k)
				m[fd] = k
			}
			asMap(t, l, m)
			tables, were = append(tables, l), append(were, maps.Clone(m))
			for fd := -7; fd < 22; fd++ {
				if k, is := m[fd]; is {
					gets(t, l, fd, k)
				} else {
					lacks(t, l, fd)
				}
			}
		}
		for i := range tables {
			asMap(t, tables[i], were[i])
		}
	}
}
