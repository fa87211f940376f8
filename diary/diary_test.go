package diary

import (
	"fmt"
	"math/rand"
	"slices"
	"strings"
	"testing"

	"inquest/api"
)

// wrongLine is a line that is no event, with the error that chapter 3 gives it.
type wrongLine struct {
	text string
	err  api.Errno
}

// wrongLines are wrong in each of the ways that layer 3 knows.
func wrongLines() []wrongLine {
	return []wrongLine{
		// No words.
		{"", api.ErrForm}, {" ", api.ErrForm}, {" begin 1", api.ErrForm}, {"begin 1 ", api.ErrForm}, {"begin  1", api.ErrForm}, {"begin\t1", api.ErrForm}, {"begin 1\r", api.ErrForm}, {"begin 1\x00", api.ErrForm}, {"begin \u0661", api.ErrForm}, {"read 1 2 0 0 0 0 0 0", api.ErrForm},
		// None of the five kinds.
		{"x", api.ErrForm}, {"start 1", api.ErrForm}, {"Begin 1", api.ErrForm}, {"begins 1", api.ErrForm}, {"1 begin", api.ErrForm}, {"start 9", api.ErrForm}, {"start 99999999999", api.ErrForm},
		// Too few words, or too many.
		{"begin", api.ErrForm}, {"begin 1 1", api.ErrForm}, {"commit", api.ErrForm}, {"commit 1 1 1", api.ErrForm}, {"abort 1 1", api.ErrForm}, {"read 1 1", api.ErrForm}, {"read 1 1 1 1", api.ErrForm}, {"write 1", api.ErrForm}, {"write 1 1 1 1", api.ErrForm},
		// A word that is no number.
		{"begin x", api.ErrForm}, {"begin -1", api.ErrForm}, {"commit +1", api.ErrForm}, {"abort 01", api.ErrForm}, {"read x 1 1", api.ErrForm}, {"read 1 1. 1", api.ErrForm}, {"write 1 1 00", api.ErrForm}, {"write x 99999999999 16", api.ErrForm},
		// A number that is too great.
		{"begin 2147483648", api.ErrNum}, {"commit 99999999999", api.ErrNum}, {"abort 18446744073709551617", api.ErrNum}, {"read 99999999999 x 1", api.ErrNum}, {"read 1 2147483648 1", api.ErrNum}, {"write 1 1 2147483648", api.ErrNum}, {"write 8 16 99999999999", api.ErrNum},
		// A session or a key that is too great.
		{"begin 8", api.ErrMany}, {"begin 9", api.ErrMany}, {"commit 8", api.ErrMany}, {"abort 2147483647", api.ErrMany}, {"read 8 1 1", api.ErrMany}, {"read 1 16 1", api.ErrMany}, {"write 1 2147483647 1", api.ErrMany}, {"write 8 16 0", api.ErrMany},
	}
}

// variedEvents are n events of all kinds, no two that stand side by side alike.
func variedEvents(n int) []api.Event {
	l := make([]api.Event, n)
	for i := range l {
		l[i] = api.Event{Kind: i % 5, Session: i * 3 % api.MaxSessions}
		if l[i].Kind == api.Read || l[i].Kind == api.Write {
			l[i].Key, l[i].Value = i*7%api.MaxKeys, i*5368709%(api.MaxNum+1)
		}
	}
	return l
}

// wantText is the text of valid events, by the words of the chapters.
func wantText(l []api.Event) string {
	text := ""
	for _, e := range l {
		word := []string{"begin", "read", "write", "commit", "abort"}[e.Kind]
		if e.Kind == api.Read || e.Kind == api.Write {
			text += fmt.Sprintf("%s %d %d %d\n", word, e.Session, e.Key, e.Value)
		} else {
			text += fmt.Sprintf("%s %d\n", word, e.Session)
		}
	}
	return text
}

// textOf is a text of lines, right or wrong.
func textOf(lines ...string) string {
	return strings.Join(append(slices.Clone(lines), ""), "\n")
}

func checkParse(t *testing.T, s string, want []api.Event, at int, err api.Errno) {
	t.Helper()
	if l, gotAt, got := Parse(s); !slices.Equal(l, want) || gotAt != at || got != err {
		t.Errorf("Parse(%.200q) = %.200v, %v, %v, want %.200v, %v, %v", s, l, gotAt, got, want, at, err)
	}
}

// P4.1: no line, one line, a few lines, and the greatest numbers.
func TestParseEvents(t *testing.T) {
	checkParse(t, "", nil, 0, api.OK)
	checkParse(t, "begin 0\n", []api.Event{{}}, 0, api.OK)
	checkParse(t, "begin 7\n", []api.Event{{Kind: api.Begin, Session: 7}}, 0, api.OK)
	checkParse(t, "read 7 15 2147483647\n", []api.Event{{Kind: api.Read, Session: 7, Key: 15, Value: 2147483647}}, 0, api.OK)
	checkParse(t, "write 0 0 0\n", []api.Event{{Kind: api.Write}}, 0, api.OK)
	checkParse(t, "commit 2\n", []api.Event{{Kind: api.Commit, Session: 2}}, 0, api.OK)
	checkParse(t, "abort 3\n", []api.Event{{Kind: api.Abort, Session: 3}}, 0, api.OK)
	checkParse(t, "begin 1\ncommit 1\n", []api.Event{{Kind: api.Begin, Session: 1}, {Kind: api.Commit, Session: 1}}, 0, api.OK)
	checkParse(t, "commit 1\nbegin 1\n", []api.Event{{Kind: api.Commit, Session: 1}, {Kind: api.Begin, Session: 1}}, 0, api.OK)
	checkParse(t, "begin 1\nwrite 1 2 3\nread 1 2 3\nread 1 2 3\nabort 1\n", []api.Event{
		{Kind: api.Begin, Session: 1}, {Kind: api.Write, Session: 1, Key: 2, Value: 3}, {Kind: api.Read, Session: 1, Key: 2, Value: 3}, {Kind: api.Read, Session: 1, Key: 2, Value: 3}, {Kind: api.Abort, Session: 1},
	}, 0, api.OK)
}

// P4.1: each number of lines up to MaxEvents, and more.
func TestParseMany(t *testing.T) {
	for n := range api.MaxEvents + 1 {
		l := variedEvents(n)
		checkParse(t, wantText(l), l, 0, api.OK)
	}
	for _, n := range []int{api.MaxEvents + 1, api.MaxEvents + 2, 5000} {
		checkParse(t, wantText(variedEvents(n)), nil, 0, api.ErrMany)
	}
}

// P4.1: the text is refused as a whole, ahead of its lines, however early one of them is wrong.
func TestParseNoLines(t *testing.T) {
	for _, s := range []string{"x", " ", "\r", "begin 1", "begin 9", "begin 99999999999", "begin 1\ncommit 1", "begin 1\ncommit 1\n ", "begin 9\ncommit 1", "\n\nbegin 1", "begin 99999999999\nbegin 1", "\nx", "begin 1\n\x00"} {
		checkParse(t, s, nil, 0, api.ErrForm)
	}
	for _, w := range wrongLines() {
		for _, n := range []int{api.MaxEvents, api.MaxEvents + 1, 5000} {
			good := strings.Repeat("begin 1\n", n)
			checkParse(t, w.text+"\n"+good, nil, 0, api.ErrMany)
			checkParse(t, good+w.text+"\n", nil, 0, api.ErrMany)
			checkParse(t, w.text+"\n"+good+"begin 1", nil, 0, api.ErrForm)
			checkParse(t, strings.Repeat(w.text+"\n", n+1), nil, 0, api.ErrMany)
		}
	}
}

// P4.1: a wrong line alone, the first one, the last one, and one between others.
func TestParseWrongLine(t *testing.T) {
	for _, w := range wrongLines() {
		checkParse(t, textOf(w.text), nil, 1, w.err)
		checkParse(t, textOf(w.text, "begin 1"), nil, 1, w.err)
		checkParse(t, textOf(w.text, "begin 1", "commit 1"), nil, 1, w.err)
		checkParse(t, textOf("begin 1", w.text), nil, 2, w.err)
		checkParse(t, textOf("begin 1", w.text, "commit 1"), nil, 2, w.err)
		checkParse(t, textOf("begin 1", "commit 1", w.text), nil, 3, w.err)
	}
}

// P4.1: a wrong line at each place of the longest text.
func TestParseWrongLineOfMany(t *testing.T) {
	wrong := wrongLines()
	for i := range api.MaxEvents {
		lines := slices.Repeat([]string{"write 1 2 3"}, api.MaxEvents)
		w := wrong[i%len(wrong)]
		lines[i] = w.text
		checkParse(t, textOf(lines...), nil, i+1, w.err)
	}
}

// P4.1: of two wrong lines, the first one's number and error.
func TestParseFirstWrongLine(t *testing.T) {
	for _, v := range wrongLines() {
		for _, w := range wrongLines() {
			checkParse(t, textOf(v.text, w.text), nil, 1, v.err)
			checkParse(t, textOf("begin 1", v.text, "commit 1", w.text), nil, 2, v.err)
			checkParse(t, textOf("begin 1", "commit 1", v.text, w.text, "begin 1"), nil, 3, v.err)
		}
	}
}

// P4.3: what follows the first wrong line is irrelevant, as long as the text has lines.
func TestParseBehindWrongLine(t *testing.T) {
	tails := []string{"", "\n", "begin 1\n", "begin 9\n", "x\ny\n", "begin 99999999999\nx\n", "\x00\n\xff\n", strings.Repeat("x", 100_000) + "\n", strings.Repeat("begin 9\n", api.MaxEvents-3), wantText(variedEvents(api.MaxEvents - 3))}
	for _, w := range wrongLines() {
		for _, tail := range tails {
			checkParse(t, "begin 1\ncommit 1\n"+w.text+"\n"+tail, nil, 3, w.err)
		}
	}
}

// P4.1: an answer hangs on no earlier one, and shares no memory with it.
func TestParseAgain(t *testing.T) {
	want := []api.Event{{Kind: api.Begin, Session: 1}, {Kind: api.Commit, Session: 1}}
	for range 3 {
		checkParse(t, "begin 1\nbegin 9\n", nil, 2, api.ErrMany)
		l, _, _ := Parse("begin 1\ncommit 1\n")
		if !slices.Equal(l, want) {
			t.Fatalf("events %v", l)
		}
		clear(l)
		checkParse(t, "begin 1\ncommit 1\n", want, 0, api.OK)
	}
}

func checkShow(t *testing.T, l []api.Event, want string, err api.Errno) {
	t.Helper()
	if s, got := Show(l); s != want || got != err {
		t.Errorf("Show(%.200v) = %.200q, %v, want %.200q, %v", l, s, got, want, err)
	}
}

// P4.2: no event, one event, a few events.
func TestShowLines(t *testing.T) {
	checkShow(t, nil, "", api.OK)
	checkShow(t, []api.Event{}, "", api.OK)
	checkShow(t, []api.Event{{}}, "begin 0\n", api.OK)
	checkShow(t, []api.Event{{Kind: api.Read, Session: 7, Key: 15, Value: 2147483647}}, "read 7 15 2147483647\n", api.OK)
	checkShow(t, []api.Event{{Kind: api.Begin, Session: 1}, {Kind: api.Commit, Session: 1}}, "begin 1\ncommit 1\n", api.OK)
	checkShow(t, []api.Event{{Kind: api.Commit, Session: 1}, {Kind: api.Begin, Session: 1}}, "commit 1\nbegin 1\n", api.OK)
	checkShow(t, []api.Event{{Kind: api.Read, Session: 2, Key: 3, Value: 4}, {Kind: api.Write, Session: 2, Key: 3}, {Kind: api.Write, Session: 2, Key: 3}, {Kind: api.Abort, Session: 2}}, "read 2 3 4\nwrite 2 3 0\nwrite 2 3 0\nabort 2\n", api.OK)
}

// P4.2: each number of events up to MaxEvents, and more.
func TestShowMany(t *testing.T) {
	for n := range api.MaxEvents + 1 {
		l := variedEvents(n)
		checkShow(t, l, wantText(l), api.OK)
	}
	for _, n := range []int{api.MaxEvents + 1, api.MaxEvents + 2, 5000} {
		checkShow(t, variedEvents(n), "", api.ErrMany)
		checkShow(t, make([]api.Event, n), "", api.ErrMany)
	}
}

// wrongEvents are events that are not valid.
func wrongEvents() []api.Event {
	return []api.Event{
		{Kind: -1}, {Kind: 5}, {Kind: 7}, {Kind: 1 << 32}, {Kind: -1 << 63},
		{Session: -1}, {Session: 8}, {Kind: api.Read, Session: 8}, {Kind: api.Commit, Session: 1 << 32},
		{Key: 1}, {Value: 1}, {Kind: api.Commit, Key: -1}, {Kind: api.Abort, Value: 1}, {Kind: api.Abort, Session: 1, Key: 2, Value: 3},
		{Kind: api.Read, Key: -1}, {Kind: api.Read, Key: 16}, {Kind: api.Write, Key: 16}, {Kind: api.Write, Key: 1 << 32},
		{Kind: api.Read, Value: -1}, {Kind: api.Read, Value: 2147483648}, {Kind: api.Write, Value: 1<<63 - 1}, {Kind: api.Write, Value: -1 << 63},
	}
}

// P4.2: an event that is not valid, wherever it stands; too many events come first.
func TestShowWrongEvent(t *testing.T) {
	good := api.Event{Kind: api.Write, Session: 1, Key: 2, Value: 3}
	for _, w := range wrongEvents() {
		checkShow(t, []api.Event{w}, "", api.ErrArg)
		checkShow(t, []api.Event{w, good}, "", api.ErrArg)
		checkShow(t, []api.Event{good, w}, "", api.ErrArg)
		checkShow(t, []api.Event{good, w, good}, "", api.ErrArg)
		checkShow(t, []api.Event{w, w}, "", api.ErrArg)
		for _, i := range []int{0, 1, 200, 398, 399} {
			l := variedEvents(api.MaxEvents)
			l[i] = w
			checkShow(t, l, "", api.ErrArg)
			checkShow(t, append(l, good), "", api.ErrMany)
		}
		checkShow(t, append(variedEvents(api.MaxEvents), w), "", api.ErrMany)
		checkShow(t, slices.Repeat([]api.Event{w}, api.MaxEvents+1), "", api.ErrMany)
	}
}

// P4.2: the events are left as they are, with what stands behind them, right or wrong.
func TestShowLeavesEvents(t *testing.T) {
	for _, last := range []api.Event{{Kind: api.Abort, Session: 2}, {Kind: 7}} {
		l := append(variedEvents(3), last)
		all := slices.Clone(l)
		Show(l[:2])
		Show(l)
		if !slices.Equal(l, all) {
			t.Errorf("events %v, were %v", l, all)
		}
	}
	checkShow(t, append(variedEvents(2), api.Event{Kind: 7})[:2], wantText(variedEvents(2)), api.OK)
}

// chanceEvents are n valid events by chance.
func chanceEvents(r *rand.Rand, n int) []api.Event {
	l := make([]api.Event, n)
	for i := range l {
		l[i] = api.Event{Kind: r.Intn(5), Session: r.Intn(api.MaxSessions)}
		if l[i].Kind == api.Read || l[i].Kind == api.Write {
			l[i].Key, l[i].Value = r.Intn(api.MaxKeys), r.Intn(api.MaxNum)>>r.Intn(31)
		}
	}
	return l
}

// P4.3: Parse finds again what Show printed, and Show prints again what Parse read.
func TestThereAndBack(t *testing.T) {
	r := rand.New(rand.NewSource(4))
	for range 300 {
		l := chanceEvents(r, r.Intn(api.MaxEvents+1))
		s, err := Show(l)
		if err != api.OK {
			t.Fatalf("Show(%v): %v", l, err)
		}
		checkParse(t, s, l, 0, api.OK)
		text := wantText(l)
		parsed, at, err := Parse(text)
		if at != 0 || err != api.OK {
			t.Fatalf("Parse(%q): %v, %v", text, at, err)
		}
		checkShow(t, parsed, text, api.OK)
	}
}
