package split_test

import (
	"math/rand"
	"regexp"
	"strings"
	"testing"

	"kinetoscope/split"
)

// The chapter's words spelt another way: each byte of a row as the letter of what it is, and fields as what
// an expression of package regexp finds between two borders, since nothing is known of what is ahead of one.

const (
	asPlain   = "P"
	asNothing = "N"
	asBorder  = "B"
	asBlank   = "W"
	asMark    = "S"
)

var (
	asFirst = regexp.MustCompile(`^W*`)
	asField = regexp.MustCompile(`^([PN]*)(?:W*SW*|W+|$)`)
)

// kinds are the letters of what a row's bytes are.
func kinds(r split.Row, ifs string) string {
	said := ""
	for i := 0; i < len(r.Text) && i < len(r.Mask); i++ {
		separates := strings.Contains(ifs, r.Text[i:i+1])
		switch r.Mask[i : i+1] {
		case "e":
			said += asNothing
		case "b":
			said += asBorder
		case "s":
			switch c := r.Text[i]; {
			case separates && (c == 32 || c == 9 || c == 10):
				said += asBlank
			case separates:
				said += asMark
			default:
				said += asPlain
			}
		default:
			said += asPlain
		}
	}
	return said
}

// kept is those of a row's bytes from a place on that are plain.
func kept(r split.Row, at int, letters string) split.Row {
	var f split.Row
	for i := range len(letters) {
		if letters[i:i+1] == asPlain {
			f.Text += r.Text[at+i : at+i+1]
			f.Mask += r.Mask[at+i : at+i+1]
		}
	}
	return f
}

// spelt is a row's fields.
func spelt(r split.Row, ifs string) []split.Row {
	var l []split.Row
	at := 0
	for _, piece := range strings.Split(kinds(r, ifs), asBorder) {
		left := piece[len(asFirst.FindString(piece)):]
		for left != "" {
			m := asField.FindStringSubmatch(left)
			l = append(l, kept(r, at+len(piece)-len(left), m[1]))
			left = left[len(m[0]):]
		}
		at += len(piece) + 1
	}
	return l
}

// rows calls with all rows of up to some of these cells: a byte and a letter each.
func rows(cells []string, most int, call func(split.Row)) {
	var grow func(r split.Row, left int)
	grow = func(r split.Row, left int) {
		call(r)
		for _, c := range cells {
			if left > 0 {
				grow(split.Row{Text: r.Text + c[:1], Mask: r.Mask + c[1:]}, left-1)
			}
		}
	}
	grow(split.Row{}, most)
}

// byChance is a text of some bytes at most.
func byChance(r *rand.Rand, bytes string, most int) string {
	return exactly(r, bytes, r.Intn(most+1))
}

// exactly is a text of that many bytes.
func exactly(r *rand.Rand, bytes string, n int) string {
	b := make([]byte, n)
	for i := range b {
		b[i] = bytes[r.Intn(len(bytes))]
	}
	return string(b)
}

// all is each byte once.
func all() string {
	b := make([]byte, 256)
	for i := range b {
		b[i] = byte(i)
	}
	return string(b)
}

// P13.1

func TestSplitShort(t *testing.T) {
	rows([]string{"aq", "xe", " b", " s", ":s"}, 7, func(r split.Row) { splits(t, r, " :", spelt(r, " :")...) })
	rows([]string{"as", " q", " e", ":b", ":l", "\ts", "\ns", "-s", ":s"}, 4, func(r split.Row) {
		for _, ifs := range []string{"", " ", ":", " \t\n", ":-", "\n:-a", "\t-"} {
			splits(t, r, ifs, spelt(r, ifs)...)
		}
	})
}

func TestSplitByChance(t *testing.T) {
	r := rand.New(rand.NewSource(13))
	letters := []string{"s", "ssssssb", "sssse", "ssssssssbeqlz", all()}
	for range 60000 {
		row := split.Row{Text: byChance(r, "aab:: \t\n-\x00\xff", 24), Mask: byChance(r, letters[r.Intn(len(letters))], 24)}
		ifs := byChance(r, "::  \t\n-\x00\xffa", 4)
		splits(t, row, ifs, spelt(row, ifs)...)
	}
	for range 2000 {
		row := split.Row{Text: byChance(r, all(), 300), Mask: byChance(r, "ssssssssbeql", 300)}
		ifs := byChance(r, all(), 80)
		splits(t, row, ifs, spelt(row, ifs)...)
	}
}
