package event

import (
	"fmt"
	"regexp"
	"slices"
	"strings"
	"testing"

	"inquest/api"
)

// The samples hold both ends of what may be, with their neighbours, and numbers that only wrap round into it.
var (
	sampleKinds    = []int{-1 << 63, -5, -1, 0, 1, 2, 3, 4, 5, 6, 1 << 32, 1<<63 - 1}
	sampleSessions = []int{-1 << 63, -8, -1, 0, 1, 6, 7, 8, 9, 15, 1 << 32, 1<<63 - 1}
	sampleKeys     = []int{-1 << 63, -16, -1, 0, 1, 7, 8, 14, 15, 16, 17, 1 << 32, 1<<63 - 1}
	sampleValues   = []int{-1 << 63, -api.MaxNum, -1, 0, 1, 9, 10, 16, 70, 2147483646, 2147483647, 2147483648, 1 << 32, 1<<63 - 1}
)

// eachSample calls f with each event of the samples.
func eachSample(f func(api.Event)) {
	for _, kind := range sampleKinds {
		for _, session := range sampleSessions {
			for _, key := range sampleKeys {
				for _, value := range sampleValues {
					f(api.Event{Kind: kind, Session: session, Key: key, Value: value})
				}
			}
		}
	}
}

// wantLine is the line of an event by the chapter's words, or "" if the event is not valid.
func wantLine(e api.Event) string {
	if e.Session < 0 || e.Session > 7 {
		return ""
	}
	short := e.Key == 0 && e.Value == 0
	long := e.Key >= 0 && e.Key <= 15 && e.Value >= 0 && e.Value <= 2147483647
	switch {
	case e.Kind == 0 && short:
		return fmt.Sprintf("begin %d", e.Session)
	case e.Kind == 1 && long:
		return fmt.Sprintf("read %d %d %d", e.Session, e.Key, e.Value)
	case e.Kind == 2 && long:
		return fmt.Sprintf("write %d %d %d", e.Session, e.Key, e.Value)
	case e.Kind == 3 && short:
		return fmt.Sprintf("commit %d", e.Session)
	case e.Kind == 4 && short:
		return fmt.Sprintf("abort %d", e.Session)
	}
	return ""
}

// checkShow holds Right and Show of an event against its line, "" if it is not valid.
func checkShow(t *testing.T, e api.Event, want string) {
	t.Helper()
	if Right(e) != (want != "") {
		t.Errorf("Right(%+v) = %v", e, Right(e))
	}
	err := api.OK
	if want == "" {
		err = api.ErrArg
	}
	if s, got := Show(e); s != want || got != err {
		t.Errorf("Show(%+v) = %q, %v, want %q, %v", e, s, got, want, err)
	}
}

// P3.1: each of the five kinds at the ends of its numbers.
func TestShowLines(t *testing.T) {
	for _, c := range []struct {
		e    api.Event
		want string
	}{
		{api.Event{}, "begin 0"},
		{api.Event{Kind: api.Begin, Session: 7}, "begin 7"},
		{api.Event{Kind: api.Read}, "read 0 0 0"},
		{api.Event{Kind: api.Read, Session: 1, Key: 2, Value: 0}, "read 1 2 0"},
		{api.Event{Kind: api.Read, Session: 7, Key: 15, Value: 2147483647}, "read 7 15 2147483647"},
		{api.Event{Kind: api.Write}, "write 0 0 0"},
		{api.Event{Kind: api.Write, Session: 3, Key: 10, Value: 70}, "write 3 10 70"},
		{api.Event{Kind: api.Write, Session: 7, Key: 15, Value: 2147483647}, "write 7 15 2147483647"},
		{api.Event{Kind: api.Commit}, "commit 0"},
		{api.Event{Kind: api.Commit, Session: 7}, "commit 7"},
		{api.Event{Kind: api.Abort}, "abort 0"},
		{api.Event{Kind: api.Abort, Session: 7}, "abort 7"},
	} {
		checkShow(t, c.e, c.want)
	}
}

// P3.1: what is no kind, whatever stands beside it.
func TestShowNoKind(t *testing.T) {
	for _, kind := range []int{-1 << 63, -2, -1, 5, 6, 256, 1 << 32, 1<<63 - 1} {
		checkShow(t, api.Event{Kind: kind}, "")
		checkShow(t, api.Event{Kind: kind, Session: 7, Key: 15, Value: 1}, "")
		checkShow(t, api.Event{Kind: kind, Session: 8, Key: 16, Value: -1}, "")
	}
}

// P3.1: sessions, of each kind.
func TestShowNoSession(t *testing.T) {
	for kind := range 5 {
		for _, session := range []int{-1 << 63, -1, 8, 9, 1 << 32, 1<<63 - 1} {
			checkShow(t, api.Event{Kind: kind, Session: session}, "")
		}
	}
}

// P3.1: keys and values of a read and of a write.
func TestShowNoKeyOrValue(t *testing.T) {
	for _, kind := range []int{api.Read, api.Write} {
		for _, key := range []int{-1 << 63, -1, 16, 17, 1 << 32, 1<<63 - 1} {
			checkShow(t, api.Event{Kind: kind, Key: key}, "")
		}
		for _, value := range []int{-1 << 63, -1, 2147483648, 1 << 32, 1<<63 - 1} {
			checkShow(t, api.Event{Kind: kind, Value: value}, "")
		}
	}
}

// P3.1: a key or a value where there is none.
func TestShowKeyOrValueTooMuch(t *testing.T) {
	for _, kind := range []int{api.Begin, api.Commit, api.Abort} {
		for _, n := range []int{-1, 1, 15, 16, 2147483647, 2147483648} {
			checkShow(t, api.Event{Kind: kind, Key: n}, "")
			checkShow(t, api.Event{Kind: kind, Value: n}, "")
			checkShow(t, api.Event{Kind: kind, Key: n, Value: n}, "")
			checkShow(t, api.Event{Kind: kind, Key: n, Value: -n}, "")
		}
	}
}

// P3.1: all samples, held against the chapter's words.
func TestShowSamples(t *testing.T) {
	eachSample(func(e api.Event) { checkShow(t, e, wantLine(e)) })
}

func checkParse(t *testing.T, s string, want api.Event, err api.Errno) {
	t.Helper()
	if e, got := Parse(s); e != want || got != err {
		t.Errorf("Parse(%q) = %+v, %v, want %+v, %v", s, e, got, want, err)
	}
}

// checkRefused holds one error against what Parse makes of some lines.
func checkRefused(t *testing.T, err api.Errno, lines ...string) {
	t.Helper()
	for _, s := range lines {
		checkParse(t, s, api.Event{}, err)
	}
}

// P3.2: the events of lines.
func TestParseEvents(t *testing.T) {
	checkParse(t, "begin 0", api.Event{}, api.OK)
	checkParse(t, "begin 7", api.Event{Kind: api.Begin, Session: 7}, api.OK)
	checkParse(t, "read 0 0 0", api.Event{Kind: api.Read}, api.OK)
	checkParse(t, "read 1 2 0", api.Event{Kind: api.Read, Session: 1, Key: 2}, api.OK)
	checkParse(t, "read 7 15 2147483647", api.Event{Kind: api.Read, Session: 7, Key: 15, Value: 2147483647}, api.OK)
	checkParse(t, "write 0 0 0", api.Event{Kind: api.Write}, api.OK)
	checkParse(t, "write 3 10 70", api.Event{Kind: api.Write, Session: 3, Key: 10, Value: 70}, api.OK)
	checkParse(t, "write 7 15 2147483647", api.Event{Kind: api.Write, Session: 7, Key: 15, Value: 2147483647}, api.OK)
	checkParse(t, "commit 0", api.Event{Kind: api.Commit}, api.OK)
	checkParse(t, "commit 7", api.Event{Kind: api.Commit, Session: 7}, api.OK)
	checkParse(t, "abort 0", api.Event{Kind: api.Abort}, api.OK)
	checkParse(t, "abort 7", api.Event{Kind: api.Abort, Session: 7}, api.OK)
}

// P3.2: texts that have no words.
func TestParseNoWords(t *testing.T) {
	checkRefused(t, api.ErrForm, "", " ", "\n", " begin 0", "begin 0 ", "begin  0", "begin 0\n", "begin 0\r", "begin\t0", "read 1  2 0", "read 1 2 0 ", "begin 0\x00", "begin \u0660", "begin 0\u00a0",
		"read 1 2 0 0 0 0 0 0", strings.Repeat("a ", 1000), strings.Repeat("begin 0\n", 3))
}

// P3.2: a first word that is none of the five.
func TestParseNoKind(t *testing.T) {
	for _, word := range []string{"start", "beg", "begins", "Begin", "BEGIN", "reads", "rea", "Read", "writ", "writes", "commits", "comit", "aborted", "a", "0", "1", "-", "begin,", "begin0", "initial", strings.Repeat("begin", 1000)} {
		checkRefused(t, api.ErrForm, word, word+" 0", word+" 0 0", word+" 0 0 0", word+" 0 0 0 0", word+" 8", word+" 99999999999")
	}
	checkRefused(t, api.ErrForm, "0 begin", "1 read 2 0")
}

// P3.2: one word too few and one too many, of each kind.
func TestParseCountOfWords(t *testing.T) {
	for kind, word := range []string{"begin", "read", "write", "commit", "abort"} {
		for count := range 9 {
			s := word + strings.Repeat(" 0", count)
			if isLong := kind == api.Read || kind == api.Write; count == 3 && isLong || count == 1 && !isLong {
				checkParse(t, s, api.Event{Kind: kind}, api.OK)
			} else {
				checkRefused(t, api.ErrForm, s)
			}
		}
	}
}

// P3.2: each word after the first must be a whole number.
func TestParseNumbers(t *testing.T) {
	for _, c := range []struct {
		word string
		err  api.Errno
	}{
		{"x", api.ErrForm}, {"-1", api.ErrForm}, {"+1", api.ErrForm}, {"-0", api.ErrForm}, {"00", api.ErrForm}, {"01", api.ErrForm}, {"007", api.ErrForm}, {"0x1", api.ErrForm}, {"1.", api.ErrForm}, {"1,2", api.ErrForm}, {"2147483647x", api.ErrForm},
		{"099999999999", api.ErrForm}, {"2147483648", api.ErrNum}, {"2147483648x", api.ErrNum}, {"4294967296", api.ErrNum}, {"18446744073709551617", api.ErrNum}, {strings.Repeat("9", 1000), api.ErrNum},
	} {
		checkRefused(t, c.err, "begin "+c.word, "commit "+c.word, "abort "+c.word)
		for _, kind := range []string{"read ", "write "} {
			checkRefused(t, c.err, kind+c.word+" 1 1", kind+"1 "+c.word+" 1", kind+"1 1 "+c.word)
		}
	}
}

// P3.2: a session or a key that is too great, while a value may be as great as a number.
func TestParseMany(t *testing.T) {
	for _, session := range []string{"8", "9", "10", "15", "16", "70", "2147483647"} {
		checkRefused(t, api.ErrMany, "begin "+session, "commit "+session, "abort "+session, "read "+session+" 0 0", "write "+session+" 15 1")
	}
	for _, key := range []string{"16", "17", "20", "160", "2147483647"} {
		checkRefused(t, api.ErrMany, "read 0 "+key+" 0", "write 7 "+key+" 2147483647", "read 8 "+key+" 0")
	}
	checkParse(t, "read 0 8 16", api.Event{Kind: api.Read, Key: 8, Value: 16}, api.OK)
}

// P3.2: of two errors the one that the chapter names first.
func TestParseFirstError(t *testing.T) {
	// The form of the line, ahead of what its numbers are.
	checkRefused(t, api.ErrForm, "begin 99999999999 ", "begin  8", "start 99999999999", "start 8", "begin", "begin 8 8", "begin 99999999999 1", "read 99999999999 1", "read 8 16", "read 8 16 0 0", "write 1 99999999999 1 1", "start 8 99999999999 x")
	// The numbers in the order of their words.
	checkRefused(t, api.ErrNum, "write 99999999999 x 1", "write 99999999999 1 x", "write 1 99999999999 x", "read 99999999999 01 01", "read 1 2147483648 01")
	checkRefused(t, api.ErrForm, "write x 99999999999 1", "write x 1 99999999999", "write 1 x 99999999999", "read 01 99999999999 99999999999", "read 1 01 2147483648")
	// All numbers, ahead of how great a session or a key may be.
	checkRefused(t, api.ErrNum, "write 9 9 99999999999", "write 8 99999999999 1", "read 8 16 2147483648", "read 1 16 2147483648")
	checkRefused(t, api.ErrForm, "write 9 x 1", "read 8 1 x", "read 1 16 01", "read 8 16 -1")
}

var (
	countedForm = regexp.MustCompile(`^((begin|commit|abort) [!-~]+|(read|write) [!-~]+ [!-~]+ [!-~]+)$`)
	numberForm  = regexp.MustCompile(`^(0|[1-9][0-9]*)$`)
	boundedForm = regexp.MustCompile(`^[a-z]+ [0-7]( ([0-9]|1[0-5]) [0-9]+)?$`)
)

// errorOf is what Parse must return for a line, by patterns.
func errorOf(s string) api.Errno {
	if !countedForm.MatchString(s) {
		return api.ErrForm
	}
	for _, w := range strings.Split(s, " ")[1:] {
		if !numberForm.MatchString(w) {
			return api.ErrForm
		}
		if len(w) > 10 || len(w) == 10 && w > "2147483647" {
			return api.ErrNum
		}
	}
	if !boundedForm.MatchString(s) {
		return api.ErrMany
	}
	return api.OK
}

// sampleLines are all lines of at most five words, out of kinds, of what is none, and of numbers good and bad.
func sampleLines() []string {
	kinds := []string{"begin", "read", "write", "commit", "abort", "start", "0", ""}
	numbers := []string{"0", "7", "8", "15", "16", "2147483647", "2147483648", "01", "x", ""}
	lines := slices.Clone(kinds)
	last := lines
	for range 4 {
		var next []string
		for _, s := range last {
			for _, n := range numbers {
				next = append(next, s+" "+n)
			}
		}
		lines = append(lines, next...)
		last = next
	}
	return lines
}

// P3.2 and P3.3: all sample lines, held against patterns; the line of a parsed one is the line itself.
func TestParseSampleLines(t *testing.T) {
	counts := map[api.Errno]int{}
	for _, s := range sampleLines() {
		e, got := Parse(s)
		if want := errorOf(s); got != want || got != api.OK && e != (api.Event{}) {
			t.Errorf("Parse(%q) = %+v, %v, want %v", s, e, got, want)
		}
		if got == api.OK {
			checkShow(t, e, s)
		}
		counts[got]++
	}
	for _, err := range []api.Errno{api.OK, api.ErrForm, api.ErrNum, api.ErrMany} {
		if counts[err] == 0 {
			t.Errorf("no sample line with %v", err)
		}
	}
}

// validEvents are all sessions and keys of each kind, with values from 0 to the greatest.
func validEvents() []api.Event {
	var l []api.Event
	for session := range api.MaxSessions {
		for _, kind := range []int{api.Begin, api.Commit, api.Abort} {
			l = append(l, api.Event{Kind: kind, Session: session})
		}
		for key := range api.MaxKeys {
			for _, value := range []int{0, 1, 9, 10, 16, 70, 1000, 2147483646, 2147483647} {
				l = append(l, api.Event{Kind: api.Read, Session: session, Key: key, Value: value}, api.Event{Kind: api.Write, Session: session, Key: key, Value: value})
			}
		}
	}
	return l
}

// P3.3: Parse finds again what Show printed.
func TestParseFindsShow(t *testing.T) {
	for _, e := range validEvents() {
		s, err := Show(e)
		if err != api.OK {
			t.Errorf("Show(%+v): %v", e, err)
		}
		checkParse(t, s, e, api.OK)
	}
}
