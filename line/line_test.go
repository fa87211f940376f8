package line

import (
	"regexp"
	"slices"
	"strings"
	"testing"

	"inquest/api"
)

// textsOf are all texts of at most so many pieces of the given ones.
func textsOf(pieces []string, most int) []string {
	all := []string{""}
	last := all
	for range most {
		var next []string
		for _, s := range last {
			for _, p := range pieces {
				next = append(next, s+p)
			}
		}
		all = append(all, next...)
		last = next
	}
	return all
}

// sampleTexts are short texts of newlines, spaces and bytes of many kinds.
func sampleTexts() []string {
	return textsOf([]string{"\n", " ", "a", "~", "\r", "\x00", "\xff", "\u00e9"}, 4)
}

func checkSplit(t *testing.T, s string, want []string, e api.Errno) {
	t.Helper()
	if l, got := Split(s); !slices.Equal(l, want) || got != e {
		t.Errorf("Split(%q) = %q, %v, want %q, %v", s, l, got, want, e)
	}
}

// P2.1: the lines of texts, empty ones among them.
func TestSplitLines(t *testing.T) {
	for _, c := range []struct {
		s    string
		want []string
	}{
		{"", nil},
		{"\n", []string{""}},
		{"\n\n", []string{"", ""}},
		{"a\n", []string{"a"}},
		{"a\n\n", []string{"a", ""}},
		{"\na\n", []string{"", "a"}},
		{"a\nb\n", []string{"a", "b"}},
		{"b\na\nb\n", []string{"b", "a", "b"}},
		{"begin 0\ncommit 0\n", []string{"begin 0", "commit 0"}},
		{" a  b \n", []string{" a  b "}},
		{"a\r\nb\rc\n", []string{"a\r", "b\rc"}},
		{"\x00\n\xff\n\u00e9\n", []string{"\x00", "\xff", "\u00e9"}},
		{"\u2028\n\u0085\v\f\n", []string{"\u2028", "\u0085\v\f"}},
	} {
		checkSplit(t, c.s, c.want, api.OK)
	}
}

// P2.1: a text that does not end with a newline, ahead of too many of them.
func TestSplitNoNewlineAtEnd(t *testing.T) {
	for _, s := range []string{"a", " ", "\r", "\x00", "\na", "a\nb", "a\n ", "a\n\r", "\n\n\n\v", "\u010a", "\n\u2028", "\n\x85"} {
		checkSplit(t, s, nil, api.ErrForm)
	}
	for _, n := range []int{api.MaxEvents, api.MaxEvents + 1, 5000} {
		checkSplit(t, strings.Repeat("a\n", n)+"a", nil, api.ErrForm)
	}
}

// P2.1: MaxEvents lines, and more.
func TestSplitMany(t *testing.T) {
	for _, x := range []string{"", "a", "read 1 2 0"} {
		for _, n := range []int{1, 2, api.MaxEvents - 1, api.MaxEvents} {
			checkSplit(t, strings.Repeat(x+"\n", n), slices.Repeat([]string{x}, n), api.OK)
		}
		for _, n := range []int{api.MaxEvents + 1, api.MaxEvents + 2, 5000} {
			checkSplit(t, strings.Repeat(x+"\n", n), nil, api.ErrMany)
		}
	}
	long := strings.Repeat("x", 100_000)
	checkSplit(t, long+"\n", []string{long}, api.OK)
}

func checkJoin(t *testing.T, l []string, want string, e api.Errno) {
	t.Helper()
	if s, got := Join(l); s != want || got != e {
		t.Errorf("Join(%q) = %q, %v, want %q, %v", l, s, got, want, e)
	}
}

// P2.2: texts of lines.
func TestJoinLines(t *testing.T) {
	for _, c := range []struct {
		l    []string
		want string
	}{
		{nil, ""},
		{[]string{}, ""},
		{[]string{""}, "\n"},
		{[]string{"", ""}, "\n\n"},
		{[]string{"a"}, "a\n"},
		{[]string{"a", ""}, "a\n\n"},
		{[]string{"", "a"}, "\na\n"},
		{[]string{"b", "a", "b"}, "b\na\nb\n"},
		{[]string{" a  b "}, " a  b \n"},
		{[]string{"\r", "\x00", "\xff", "\u2028"}, "\r\n\x00\n\xff\n\u2028\n"},
	} {
		checkJoin(t, c.l, c.want, api.OK)
	}
}

// P2.2: a newline in an element, wherever it stands.
func TestJoinNewlineInside(t *testing.T) {
	for _, x := range []string{"\n", "a\n", "\na", "a\nb", "\r\n", "\n\n", strings.Repeat("x", 10_000) + "\n"} {
		checkJoin(t, []string{x}, "", api.ErrArg)
		checkJoin(t, []string{x, "a", "b"}, "", api.ErrArg)
		checkJoin(t, []string{"a", x, "b"}, "", api.ErrArg)
		checkJoin(t, []string{"a", "b", x}, "", api.ErrArg)
		checkJoin(t, append(make([]string, api.MaxEvents-1), x), "", api.ErrArg)
	}
}

// P2.2: MaxEvents elements, and more, ahead of a newline in one of them.
func TestJoinMany(t *testing.T) {
	for _, x := range []string{"", "a", "read 1 2 0"} {
		for _, n := range []int{1, 2, api.MaxEvents - 1, api.MaxEvents} {
			checkJoin(t, slices.Repeat([]string{x}, n), strings.Repeat(x+"\n", n), api.OK)
		}
	}
	for _, x := range []string{"", "a", "a\n"} {
		for _, n := range []int{api.MaxEvents + 1, api.MaxEvents + 2, 5000} {
			checkJoin(t, slices.Repeat([]string{x}, n), "", api.ErrMany)
		}
	}
}

func checkWords(t *testing.T, s string, want []string, e api.Errno) {
	t.Helper()
	if l, got := Words(s); !slices.Equal(l, want) || got != e {
		t.Errorf("Words(%q) = %q, %v, want %q, %v", s, l, got, want, e)
	}
}

// P2.3: the words of lines.
func TestWordsOfLines(t *testing.T) {
	checkWords(t, "read 1 2 0", []string{"read", "1", "2", "0"}, api.OK)
	checkWords(t, "commit 0", []string{"commit", "0"}, api.OK)
	checkWords(t, "x", []string{"x"}, api.OK)
	checkWords(t, "b a b", []string{"b", "a", "b"}, api.OK)
	checkWords(t, "! ~ !~ ~!", []string{"!", "~", "!~", "~!"}, api.OK)
	long := strings.Repeat("w", 100_000)
	checkWords(t, long, []string{long}, api.OK)
	checkWords(t, long+" "+long, []string{long, long}, api.OK)
}

// P2.3: no word, 1 to 8 words, and more.
func TestWordsMany(t *testing.T) {
	checkWords(t, "", nil, api.ErrForm)
	for _, x := range []string{"a", "word", "~"} {
		for n := 1; n <= 40; n++ {
			words := slices.Repeat([]string{x}, n)
			s := strings.Join(words, " ")
			if n <= 8 {
				checkWords(t, s, words, api.OK)
			} else {
				checkWords(t, s, nil, api.ErrForm)
			}
		}
	}
	checkWords(t, "1 2 3 4 5 6 7 8", []string{"1", "2", "3", "4", "5", "6", "7", "8"}, api.OK)
	checkWords(t, "1 2 3 4 5 6 7 8 ", nil, api.ErrForm)
	checkWords(t, "1 2 3 4 5 6 7 8  ", nil, api.ErrForm)
	checkWords(t, " 1 2 3 4 5 6 7 8", nil, api.ErrForm)
	checkWords(t, "1 2 3 4 5 6 7 8\n", nil, api.ErrForm)
}

// P2.3: a space at the start, at the end, or beside another one.
func TestWordsSpaces(t *testing.T) {
	for _, s := range []string{" ", "  ", " a", "a ", " a ", "  a", "a  ", "a  b", "a b  c", "a  b c", "a   b", " a b", "a b ", strings.Repeat(" ", 8), strings.Repeat(" ", 500)} {
		checkWords(t, s, nil, api.ErrForm)
	}
}

// P2.3: each byte at each place of a line: 33 to 126 are parts of words, 32 is between them.
func TestWordsEachByte(t *testing.T) {
	for b := range 256 {
		x := string([]byte{byte(b)})
		switch {
		case b >= 33 && b <= 126:
			checkWords(t, x, []string{x}, api.OK)
			checkWords(t, "a"+x+"b", []string{"a" + x + "b"}, api.OK)
			checkWords(t, "a "+x+" b", []string{"a", x, "b"}, api.OK)
			checkWords(t, x+"a b"+x, []string{x + "a", "b" + x}, api.OK)
		case b == 32:
			checkWords(t, "a"+x+"b", []string{"a", "b"}, api.OK)
			checkWords(t, x, nil, api.ErrForm)
		default:
			for _, s := range []string{x, "a" + x, x + "a", "a" + x + "b", "a " + x, x + " a", "a " + x + " b", "a b" + x, "a b " + x} {
				checkWords(t, s, nil, api.ErrForm)
			}
		}
	}
}

// P2.3: all short texts, held against the form of a line as a pattern.
func TestWordsPattern(t *testing.T) {
	form := regexp.MustCompile(`^[!-~]+( [!-~]+){0,7}$`)
	for _, s := range slices.Concat(sampleTexts(), textsOf([]string{" ", "a"}, 12)) {
		// A pattern's $ without flags is the text's very end.
		if form.MatchString(s) {
			checkWords(t, s, strings.Split(s, " "), api.OK)
		} else {
			checkWords(t, s, nil, api.ErrForm)
		}
	}
}

// P2.4: Split finds again what Join joined.
func TestSplitFindsJoin(t *testing.T) {
	elements := []string{"", "a", "b c", " ", "\r", "\x00", "\xff"}
	for _, a := range elements {
		for _, b := range elements {
			for _, c := range elements {
				for _, l := range [][]string{{}, {a}, {a, b}, {a, b, c}} {
					s, e := Join(l)
					if e != api.OK {
						t.Fatalf("Join(%q): %v", l, e)
					}
					checkSplit(t, s, l, api.OK)
				}
			}
		}
	}
	full := slices.Repeat([]string{"a", ""}, api.MaxEvents/2)
	s, _ := Join(full)
	checkSplit(t, s, full, api.OK)
}

// P2.4: Join makes again what Split has split.
func TestJoinMakesSplit(t *testing.T) {
	for _, s := range sampleTexts() {
		l, e := Split(s)
		if ends := s == "" || strings.HasSuffix(s, "\n"); ends != (e == api.OK) {
			t.Errorf("Split(%q): %v", s, e)
		}
		if e == api.OK {
			checkJoin(t, l, s, api.OK)
		}
	}
}

// P2.4: the lines of two texts together are those of both.
func TestSplitTogether(t *testing.T) {
	texts := textsOf([]string{"\n", "a\n", "b c\n", "\r\n"}, 3)
	for _, a := range texts {
		for _, b := range texts {
			first, e := Split(a)
			if e != api.OK {
				t.Fatalf("Split(%q): %v", a, e)
			}
			second, e := Split(b)
			if e != api.OK {
				t.Fatalf("Split(%q): %v", b, e)
			}
			checkSplit(t, a+b, slices.Concat(first, second), api.OK)
		}
	}
	half := strings.Repeat("a\n", api.MaxEvents/2)
	checkSplit(t, half+half, slices.Repeat([]string{"a"}, api.MaxEvents), api.OK)
	checkSplit(t, half+half+"\n", nil, api.ErrMany)
}

// P2.4: words with single spaces between them are the line.
func TestWordsAreTheLine(t *testing.T) {
	for _, s := range textsOf([]string{" ", "a", "!", "~7"}, 6) {
		if l, e := Words(s); e == api.OK && strings.Join(l, " ") != s {
			t.Errorf("Words(%q) = %q", s, l)
		}
	}
	pieces := []string{"a", "!", "~", "read", "12"}
	for n := 1; n <= 8; n++ {
		var words []string
		for i := range n {
			words = append(words, pieces[i*i%len(pieces)])
		}
		checkWords(t, strings.Join(words, " "), words, api.OK)
	}
}

// Rule 3: what Join is given stays as it is, with the room behind it.
func TestJoinLeavesItsArgument(t *testing.T) {
	room := []string{"a", "b", "c", "d"}
	before := slices.Clone(room)
	for n := range len(room) + 1 {
		if _, e := Join(room[:n]); e != api.OK || !slices.Equal(room, before) {
			t.Errorf("Join of %d: %v, %q", n, e, room)
		}
	}
}

// Rule 3: each answer is a list of its own.
func TestAnswersAreNew(t *testing.T) {
	for _, f := range []func() ([]string, api.Errno){
		func() ([]string, api.Errno) { return Split("a\nb\n") },
		func() ([]string, api.Errno) { return Words("a b") },
	} {
		first, _ := f()
		for i := range first {
			first[i] = "x"
		}
		if second, e := f(); !slices.Equal(second, []string{"a", "b"}) || e != api.OK {
			t.Errorf("a second answer is %q, %v", second, e)
		}
	}
}
