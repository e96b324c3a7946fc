package tape_test

import (
	"bytes"
	"math"
	"reflect"
	"slices"
	"strings"
	"testing"

	"kinetoscope/api"
	"kinetoscope/event"
	"kinetoscope/frame"
	"kinetoscope/tape"
)

// head is the frame of a script's head by the chapter's words.
func head(script string) []byte {
	return frame.Put([]byte("kinetoscope 1\n" + script))
}

// spelt is a tape's bytes by the chapter's words, without the package.
func spelt(script string, answers ...api.Answer) []byte {
	b := head(script)
	for _, a := range answers {
		b = append(b, frame.Put(event.Tell(a))...)
	}
	return b
}

// scripts are such as may be: short ones, odd ones, one like a head, the edges of a number of two bytes and of MaxText.
func scripts() []string {
	l := []string{"", "ls", "echo a\nexit 3\n", "\n", "\x00", "\xff\x80\x00", "kinetoscope 1\n", " "}
	for _, n := range []int{113, 114, 4095, 4096} {
		l = append(l, strings.Repeat("s", n))
	}
	return l
}

// few are answers as they may come: small ones, each field's edges, the longest one that may be.
func few() []api.Answer {
	return []api.Answer{
		{Kind: api.Spawn, N: 7},
		{Kind: api.Wait},
		{Kind: api.Read, Err: 4, Text: "a", Sig: 2},
		{Kind: api.Wait},
		{Kind: api.Chdir, Err: 255, N: math.MinInt64, M: math.MaxInt64, Sig: 64},
		{Kind: api.List, List: []string{"", "two words\n", "\xff\x00"}},
		{Kind: api.Read, Text: string(spelt("in", api.Answer{Kind: api.Clock}))},
		{Kind: api.List, List: make([]string, 4096)},
		long(65536),
		{Kind: api.Clock, N: -1},
	}
}

// long is an answer of n bytes, from 16384 up to where its text's number has three bytes.
func long(n int) api.Answer {
	return api.Answer{Kind: api.Read, Text: strings.Repeat("x", n-9)}
}

// unfit are answers that may not be written.
func unfit() map[string]api.Answer {
	return map[string]api.Answer{
		"no kind":              {},
		"kind 12":              {Kind: 12},
		"a kind below 0":       {Kind: -1},
		"a kind far above":     {Kind: 1<<32 + 8},
		"err 256":              {Kind: api.Read, Err: 256},
		"an err below 0":       {Kind: api.Read, Err: -1},
		"sig 65":               {Kind: api.Read, Sig: 65},
		"a sig below 0":        {Kind: api.Read, Sig: -1},
		"4097 texts":           {Kind: api.List, List: make([]string, 4097)},
		"65537 bytes":          long(65537),
		"far more bytes":       long(1 << 20),
		"65537 bytes of texts": {Kind: api.List, List: []string{strings.Repeat("x", 32768), strings.Repeat("y", 65537-7-3-32768-3)}},
	}
}

// alike tells whether two lists have the same answers, with an empty list as none.
func alike(a, b []api.Answer) bool {
	return slices.EqualFunc(a, b, func(x, y api.Answer) bool {
		listed := slices.Equal(x.List, y.List)
		x.List, y.List = nil, nil
		return listed && reflect.DeepEqual(x, y)
	})
}

// reads holds what Read of b tells.
func reads(t *testing.T, name string, b []byte, script string, answers []api.Answer, n int, e api.Errno) {
	t.Helper()
	x, gotN, gotE := tape.Read(b)
	if x.Script != script || !alike(x.Answers, answers) || gotN != n || gotE != e {
		t.Errorf("Read of %s: a script of %d bytes, %d answers (as they should be: %t), %d, error %d; not %d, %d, %d, %d",
			name, len(x.Script), len(x.Answers), alike(x.Answers, answers), gotN, gotE, len(script), len(answers), n, e)
	}
}

// fails holds that Read of b tells an error, and nothing else.
func fails(t *testing.T, name string, b []byte, e api.Errno) {
	t.Helper()
	reads(t, name, b, "", nil, 0, e)
}

// writer is a new one of a script that may be.
func writer(t *testing.T, script string) *tape.Writer {
	t.Helper()
	w := tape.New(script)
	if w == nil {
		t.Fatalf("no writer of a script of %d bytes", len(script))
	}
	return w
}

// holds that a writer has written b.
func holds(t *testing.T, name string, w *tape.Writer, b []byte) {
	t.Helper()
	if got := w.Bytes(); !bytes.Equal(got, b) {
		t.Errorf("%s: %d bytes that aren't the %d that they should be", name, len(got), len(b))
	}
}

// P5.1

func TestNew(t *testing.T) {
	rows := []struct{ script, want string }{
		{"", "\x0ekinetoscope 1\n\x2d\xa3\x77\x66"},
		{"ls", "\x10kinetoscope 1\nls\xf3\xb9\x1d\x78"},
		{"a\n", "\x10kinetoscope 1\na\n\x26\x0e\x6a\xe4"},
		{"\x00\xff", "\x10kinetoscope 1\n\x00\xff\x53\x52\x5b\x55"},
	}
	for _, r := range rows {
		if got := writer(t, r.script).Bytes(); string(got) != r.want {
			t.Errorf("New(%q): %q, not %q", r.script, got, r.want)
		}
	}
	for _, s := range scripts() {
		holds(t, "a script alone", writer(t, s), head(s))
	}
}

func TestNewOfAScriptThatIsTooLong(t *testing.T) {
	for _, n := range []int{4097, 4098, 8192, 65536, 1 << 20} {
		if tape.New(strings.Repeat("s", n)) != nil {
			t.Errorf("a writer of a script of %d bytes", n)
		}
	}
}

func TestAdd(t *testing.T) {
	w := writer(t, "ls")
	want := "\x10kinetoscope 1\nls\xf3\xb9\x1d\x78"
	if !w.Add(api.Answer{Kind: api.Clock}, api.Answer{Kind: api.Spawn, N: 7}) {
		t.Error("two answers aren't written")
	}
	want += "\x07\x08\x00\x00\x00\x00\x00\x00\x17\x98\x08\x5c" + "\x07\x06\x00\x0e\x00\x00\x00\x00\x2b\x5d\x07\xb3"
	holds(t, "two answers", w, []byte(want))
	if !w.Add(api.Answer{Kind: api.Read, Err: 4, Text: "a", Sig: 2}) {
		t.Error("a third one isn't written")
	}
	want += "\x08\x01\x04\x00\x00\x01\x61\x00\x02\x65\x35\x93\x7a"
	holds(t, "a third one", w, []byte(want))
}

func TestAddOneByOneOrAtOnce(t *testing.T) {
	l := few()
	want := spelt("echo a", l...)
	one, all := writer(t, "echo a"), writer(t, "echo a")
	for i, a := range l {
		if !one.Add(a) {
			t.Errorf("answer %d isn't written", i)
		}
		holds(t, "one by one", one, spelt("echo a", l[:i+1]...))
	}
	if !all.Add(l...) {
		t.Error("some answer isn't written")
	}
	holds(t, "all at once", all, want)
	slices.Reverse(l)
	back := writer(t, "echo a")
	if !back.Add(l...) || bytes.Equal(back.Bytes(), want) {
		t.Error("the answers' order doesn't count")
	}
}

func TestAddOfNoAnswers(t *testing.T) {
	w := writer(t, "ls")
	if !w.Add() || !w.Add([]api.Answer{}...) {
		t.Error("none of them isn't all of them")
	}
	holds(t, "no answers", w, head("ls"))
}

func TestAddStopsAtTheFirstThatMayNotBe(t *testing.T) {
	some := []api.Answer{{Kind: api.Spawn, N: 7}, {Kind: api.Wait, Text: "t"}, {Kind: api.Clock}}
	for name, a := range unfit() {
		for i := range len(some) + 1 {
			w := writer(t, "ls")
			if w.Add(slices.Concat(some[:i], []api.Answer{a}, some[i:])...) {
				t.Errorf("%s is written behind %d", name, i)
			}
			holds(t, name, w, spelt("ls", some[:i]...))
		}
	}
}

func TestAddGoesOnBehindOneThatMayNotBe(t *testing.T) {
	for name, a := range unfit() {
		w := writer(t, "ls")
		if w.Add(a) || !w.Add(api.Answer{Kind: api.Wait}) || w.Add(api.Answer{Kind: api.Clock}, a) || !w.Add() {
			t.Error(name)
		}
		holds(t, name, w, spelt("ls", api.Answer{Kind: api.Wait}, api.Answer{Kind: api.Clock}))
	}
}

func TestAddOfTheMostBytes(t *testing.T) {
	for _, n := range []int{65535, 65536, 65537, 65538} {
		w, a := writer(t, ""), long(n)
		if len(event.Tell(a)) != n {
			t.Fatalf("%d bytes, not %d", len(event.Tell(a)), n)
		}
		if w.Add(a) != (n <= 65536) {
			t.Errorf("an answer of %d bytes", n)
		}
		if n <= 65536 {
			holds(t, "a long answer", w, spelt("", a))
		} else {
			holds(t, "a longer answer", w, head(""))
		}
	}
	w := writer(t, "")
	if !w.Add(long(65536), long(65536), long(65536)) {
		t.Error("each answer may have 65536 bytes, not all of them")
	}
}

func TestNoWriter(t *testing.T) {
	var none *tape.Writer
	for _, w := range []*tape.Writer{none, tape.New(strings.Repeat("s", 4097))} {
		if w.Add() || w.Add(api.Answer{Kind: api.Wait}) || w.Add(api.Answer{}) || len(w.Bytes()) != 0 {
			t.Errorf("Add is true, or there are %d bytes", len(w.Bytes()))
		}
	}
	var zero tape.Writer // one that New hasn't made: some answer, but no panic
	zero.Add(api.Answer{Kind: api.Wait}, api.Answer{})
	zero.Bytes()
}

func TestBytesAreNewMemory(t *testing.T) {
	w := writer(t, "ls")
	one, two := w.Bytes(), w.Bytes()
	clear(one)
	_ = append(one, "zzzzzzzzzzzzzzzzzzzz"...)
	if !bytes.Equal(two, head("ls")) {
		t.Errorf("%q", two)
	}
	w.Add(api.Answer{Kind: api.Wait})
	w.Add(api.Answer{Kind: api.Clock})
	if !bytes.Equal(two, head("ls")) {
		t.Errorf("Add changed what was told: %q", two)
	}
	clear(w.Bytes())
	holds(t, "what was told is changed", w, spelt("ls", api.Answer{Kind: api.Wait}, api.Answer{Kind: api.Clock}))
}

func TestWritersAreApart(t *testing.T) {
	one, two := writer(t, "one"), writer(t, "two")
	one.Add(api.Answer{Kind: api.Wait})
	two.Add(api.Answer{Kind: api.Clock})
	one.Add(api.Answer{Kind: api.Spawn})
	holds(t, "one", one, spelt("one", api.Answer{Kind: api.Wait}, api.Answer{Kind: api.Spawn}))
	holds(t, "two", two, spelt("two", api.Answer{Kind: api.Clock}))
}

func TestAnswersAreLeftAndNotKept(t *testing.T) {
	texts := []string{"a", "b", "beyond"}[:2]
	l := []api.Answer{{Kind: api.List, List: texts}, {Kind: api.Wait, N: 3}}
	w := writer(t, "ls")
	w.Add(l...)
	want := spelt("ls", api.Answer{Kind: api.List, List: []string{"a", "b"}}, api.Answer{Kind: api.Wait, N: 3})
	if !slices.Equal(texts[:3], []string{"a", "b", "beyond"}) || l[1].N != 3 {
		t.Errorf("%q %v", texts[:3], l)
	}
	texts[0], l[1].N = "z", 4
	holds(t, "answers that are changed behind it", w, want)
}

// P5.2

func TestReadOfNothing(t *testing.T) {
	fails(t, "nil", nil, api.ErrShort)
	fails(t, "nothing", []byte{}, api.ErrShort)
}

func TestRead(t *testing.T) {
	b := "\x10kinetoscope 1\nls\xf3\xb9\x1d\x78" + "\x07\x06\x00\x0e\x00\x00\x00\x00\x2b\x5d\x07\xb3" + "\x08\x01\x04\x00\x00\x01\x61\x00\x02\x65\x35\x93\x7a"
	reads(t, "two answers", []byte(b), "ls", []api.Answer{{Kind: 6, N: 7}, {Kind: 1, Err: 4, Text: "a", Sig: 2}}, 46, api.OK)
	for _, s := range scripts() {
		reads(t, "a script alone", head(s), s, nil, len(head(s)), api.OK)
		l := few()
		for i := range len(l) + 1 {
			whole := spelt(s, l[:i]...)
			reads(t, "some answers", whole, s, l[:i], len(whole), api.OK)
		}
	}
}

// faults are bytes that are no frame, with frame.Take's error.
func faults() map[string]api.Errno {
	wrong := frame.Put([]byte("kinetoscope 1\nwrong"))
	wrong[len(wrong)-1] ^= 1
	return map[string]api.Errno{
		"\x80":                        api.ErrShort,
		"\x0ekinetoscope 1\n\x2d\xa3": api.ErrShort,
		"\x07\x08\x00\x00":            api.ErrShort,
		"\x80\x00":                    api.ErrForm,
		strings.Repeat("\xff", 12):    api.ErrForm,
		"\x81\x80\x04":                api.ErrBig,
		"kinetoscope 1\n":             api.ErrShort,
		string(wrong):                 api.ErrSum,
		strings.Repeat("\x00", 40):    api.ErrSum,
	}
}

func TestReadOfNoFrame(t *testing.T) {
	for fault, e := range faults() {
		fails(t, "a fault", []byte(fault), e)
		if e != api.ErrShort {
			fails(t, "a fault ahead of a tape", append([]byte(fault), spelt("ls", few()...)...), e)
		}
	}
}

// noHeads are rows that are frames, but no heads.
func noHeads() []string {
	return []string{
		"", "k", "kinetoscope 1", "kinetoscope 1\r\n", "kinetoscope 1 \n", "kinetoscope 2\n", "kinetoscope 10\nls", "kinetoscope 1\x00",
		"Kinetoscope 1\nls", " kinetoscope 1\nls", "\nkinetoscope 1\nls", "kinetoscope  1\nls", "kinetoscope\n1\nls", "kinetoscope1\nls", "ls",
		"kinetoscope 1\n" + strings.Repeat("s", 4097), "kinetoscope 1\n" + strings.Repeat("s", 65536-14),
		string(event.Tell(api.Answer{Kind: api.Wait})), string(head("ls")),
	}
}

func TestReadOfNoHead(t *testing.T) {
	for _, row := range noHeads() {
		b := frame.Put([]byte(row))
		fails(t, "no head", b, api.ErrForm)
		fails(t, "no head, ahead of answers", append(bytes.Clone(b), spelt("ls", few()...)[len(head("ls")):]...), api.ErrForm)
		fails(t, "no head, ahead of one", append(bytes.Clone(b), spelt("ls", few()...)...), api.ErrForm)
		for fault := range faults() {
			fails(t, "no head, ahead of a fault", append(bytes.Clone(b), fault...), api.ErrForm)
		}
	}
}

// noAnswers are rows that event.Told takes not, with its error.
func noAnswers() map[string]api.Errno {
	return map[string]api.Errno{
		"":                                   api.ErrShort,
		"\x08\x00\x00\x00\x00\x00":           api.ErrShort,
		"\x08\x00\x00\x00\x05ab":             api.ErrShort,
		"kinetoscope 1\n":                    api.ErrShort,
		"\x00\x00\x00\x00\x00\x00\x00":       api.ErrForm,
		"\x0c\x00\x00\x00\x00\x00\x00":       api.ErrForm,
		"\x08\x80\x02\x00\x00\x00\x00\x00":   api.ErrForm,
		"\x08\x00\x00\x00\x00\x00\x41":       api.ErrForm,
		"\x88\x00\x00\x00\x00\x00\x00\x00":   api.ErrForm,
		"\x08\x00\x00\x00\x00\x81\x20":       api.ErrForm,
		"\x08\x00\x00\x00\x00\x00\x00\x00":   api.ErrLeft,
		"\x08\x00\x00\x00\x00\x00\x00kineto": api.ErrLeft,
	}
}

func TestReadOfNoAnswer(t *testing.T) {
	l := few()
	for row, e := range noAnswers() {
		wrong := frame.Put([]byte(row))
		for i := range len(l) + 1 {
			ahead := spelt("ls", l[:i]...)
			b := slices.Concat(ahead, wrong)
			reads(t, "no answer at the end", b, "ls", l[:i], len(ahead), e)
			b = append(b, spelt("ls", l[i:]...)[len(head("ls")):]...)
			reads(t, "no answer ahead of some", b, "ls", l[:i], len(ahead), e)
		}
	}
}

func TestReadOfAFaultBehind(t *testing.T) {
	l := few()
	for fault, e := range faults() {
		for i := range len(l) + 1 {
			ahead := spelt("ls", l[:i]...)
			b := append(bytes.Clone(ahead), fault...)
			reads(t, "a fault at the end", b, "ls", l[:i], len(ahead), e)
			if e != api.ErrShort {
				b = append(b, spelt("ls", l[i:]...)...)
				reads(t, "a fault ahead of answers", b, "ls", l[:i], len(ahead), e)
			}
		}
	}
}

// The order of the promise: what Told takes not, then why Scan ended; and the first of two that Told takes not.
func TestTheFirstErrorIsTold(t *testing.T) {
	some := []api.Answer{{Kind: api.Spawn, N: 7}, {Kind: api.Wait}}
	ahead := spelt("ls", some...)
	for row, e := range noAnswers() {
		wrong := frame.Put([]byte(row))
		for fault := range faults() {
			b := slices.Concat(ahead, wrong, frame.Put(event.Tell(some[0])), []byte(fault))
			reads(t, "no answer, ahead of a fault", b, "ls", some, len(ahead), e)
		}
		for other := range noAnswers() {
			b := slices.Concat(ahead, wrong, frame.Put([]byte(other)))
			reads(t, "no answer, ahead of another", b, "ls", some, len(ahead), e)
		}
	}
}

func TestASecondHeadIsNoAnswer(t *testing.T) {
	b := spelt("ls", api.Answer{Kind: api.Wait})
	reads(t, "two tapes", slices.Concat(b, b), "ls", []api.Answer{{Kind: api.Wait}}, len(b), api.ErrShort)
}

func TestReadLeavesBytesAndIsNewMemory(t *testing.T) {
	l := []api.Answer{{Kind: api.List, Text: "t", List: []string{"a", "b"}}, {Kind: api.Wait}}
	b := spelt("ls", l...)
	whole := bytes.Clone(b)
	one, _, _ := tape.Read(b)
	two, _, _ := tape.Read(b)
	if !bytes.Equal(b, whole) {
		t.Errorf("Read changed %x", b)
	}
	if len(one.Answers) != 2 || len(one.Answers[0].List) != 2 {
		t.Fatal(one)
	}
	one.Answers[0].List[0], one.Answers[1].Kind = "z", 9
	clear(b)
	if two.Script != "ls" || !alike(two.Answers, l) {
		t.Error(two)
	}
}

// P5.3

func TestWhatIsWrittenIsRead(t *testing.T) {
	many := make([]api.Answer, 3000)
	for i := range many {
		many[i] = api.Answer{Kind: 1 + i%11, Err: i % 256, N: int64(-i), M: int64(i) << 40, Text: strings.Repeat("t", i%9), List: make([]string, i%4), Sig: i % 65}
	}
	for _, s := range scripts() {
		for _, l := range [][]api.Answer{nil, few(), many} {
			w := writer(t, s)
			if !w.Add(l...) {
				t.Errorf("some of %d answers isn't written", len(l))
			}
			b := w.Bytes()
			reads(t, "what was written", b, s, l, len(b), api.OK)
		}
	}
}

func TestWhatIsWrittenAheadOfOneThatMayNotBeIsRead(t *testing.T) {
	for name, a := range unfit() {
		w := writer(t, "ls")
		w.Add(api.Answer{Kind: api.Wait, N: 3}, a, api.Answer{Kind: api.Clock})
		b := w.Bytes()
		reads(t, name, b, "ls", []api.Answer{{Kind: api.Wait, N: 3}}, len(b), api.OK)
	}
}

// short are answers of few bytes, so that a tape of them may be cut everywhere.
func short() []api.Answer {
	return []api.Answer{{Kind: api.Spawn, N: 7}, {Kind: api.Read, Text: strings.Repeat("x", 130)}, {Kind: api.Wait}, {Kind: api.List, List: []string{"a", "", "bc"}}, {Kind: api.Clock, N: math.MinInt64}}
}

func TestCutAnywhere(t *testing.T) {
	l := short()
	for _, s := range []string{"", "echo a\n", strings.Repeat("s", 200)} {
		w := writer(t, s)
		var ends []int // the places behind the head, and behind each answer
		for _, a := range l {
			ends = append(ends, len(w.Bytes()))
			w.Add(a)
		}
		b := w.Bytes()
		ends = append(ends, len(b))
		for n := range ends[0] {
			fails(t, "a head that is cut", b[:n], api.ErrShort)
		}
		for n := ends[0]; n <= len(b); n++ {
			i, between := slices.BinarySearch(ends, n)
			if between {
				reads(t, "a tape cut between two", b[:n], s, l[:i], n, api.OK)
			} else {
				reads(t, "a tape that is cut", b[:n], s, l[:i-1], ends[i-1], api.ErrShort)
			}
		}
	}
}

func TestSpoiltBits(t *testing.T) {
	l := short()
	var ends []int
	for i := range len(l) + 1 {
		ends = append(ends, len(spelt("ls", l[:i]...)))
	}
	b := spelt("ls", l...)
	for i := range 8 * len(b) {
		spoilt := bytes.Clone(b)
		spoilt[i/8] ^= 1 << (i % 8)
		script, answers, n := "", []api.Answer(nil), 0
		if k, _ := slices.BinarySearch(ends, i/8+1); k > 0 { // as many frames are whole ahead of it
			script, answers, n = "ls", l[:k-1], ends[k-1]
		}
		x, gotN, e := tape.Read(spoilt)
		if x.Script != script || !alike(x.Answers, answers) || gotN != n || e == api.OK {
			t.Errorf("bit %d: %q, %d answers, %d, error %d; not %q, %d, %d", i, x.Script, len(x.Answers), gotN, e, script, len(answers), n)
		}
	}
}
