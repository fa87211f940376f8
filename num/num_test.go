package num

import (
	"cmp"
	"strconv"
	"strings"
	"testing"

	"inquest/api"
)

// sampleNumbers are the ends, each power of ten and of two with its neighbours, and numbers spread over the whole.
func sampleNumbers() []int {
	l := []int{}
	add := func(n int) {
		for i := n - 1; i <= n+1; i++ {
			if i >= 0 && i <= api.MaxNum {
				l = append(l, i)
			}
		}
	}
	for n := 1; n <= api.MaxNum; n *= 10 {
		add(n)
		add(7 * n)
	}
	for n := 1; n <= api.MaxNum; n *= 2 {
		add(n)
	}
	for n := 0; n <= api.MaxNum; n += 9_999_991 {
		add(n)
	}
	for n := range 2000 {
		l = append(l, n)
	}
	add(api.MaxNum)
	return l
}

// P1.1: the digits of a number.
func TestShowDigits(t *testing.T) {
	for _, n := range sampleNumbers() {
		s, e := Show(n)
		if want := strconv.Itoa(n); s != want || e != api.OK {
			t.Errorf("Show(%d) = %q, %v, want %q", n, s, e, want)
		}
	}
}

// P1.1: what is no number.
func TestShowNoNumber(t *testing.T) {
	for _, n := range []int{-1, -7, -10, -api.MaxNum, -api.MaxNum - 1, -1 << 63, api.MaxNum + 1, api.MaxNum + 2, 1 << 32, 1<<32 + 5, 1<<63 - 1} {
		if s, e := Show(n); s != "" || e != api.ErrArg {
			t.Errorf("Show(%d) = %q, %v, want ErrArg", n, s, e)
		}
	}
}

type takeCase struct {
	s         string
	at, n, to int
	e         api.Errno
}

func checkTake(t *testing.T, cases []takeCase) {
	t.Helper()
	for _, c := range cases {
		if n, to, e := Take(c.s, c.at); n != c.n || to != c.to || e != c.e {
			t.Errorf("Take(%q, %d) = %d, %d, %v, want %d, %d, %v", c.s, c.at, n, to, e, c.n, c.to, c.e)
		}
	}
}

// P1.2: numbers at each place of a text.
func TestTakeNumber(t *testing.T) {
	checkTake(t, []takeCase{
		{s: "a70b", at: 1, n: 70, to: 3},
		{s: "a70b", at: 2, n: 0, to: 3},
		{s: "0", at: 0, n: 0, to: 1},
		{s: "0 ", at: 0, n: 0, to: 1},
		{s: "0x1", at: 0, n: 0, to: 1},
		{s: "9", at: 0, n: 9, to: 1},
		{s: "007", at: 2, n: 7, to: 3},
		{s: "100", at: 0, n: 100, to: 3},
		{s: "100", at: 2, n: 0, to: 3},
		{s: "12 34", at: 3, n: 34, to: 5},
		{s: "12-34", at: 0, n: 12, to: 2},
		{s: "1.5", at: 0, n: 1, to: 1},
		{s: "1_000", at: 0, n: 1, to: 1},
		{s: "2147483646", at: 0, n: api.MaxNum - 1, to: 10},
		{s: "2147483647", at: 0, n: api.MaxNum, to: 10},
		{s: "x2147483647\n", at: 1, n: api.MaxNum, to: 11},
		{s: "92147483647", at: 1, n: api.MaxNum, to: 11},
		{s: "1999999999", at: 0, n: 1999999999, to: 10},
	})
}

// P1.2: an offset outside of the text, ahead of all other errors.
func TestTakeOutside(t *testing.T) {
	checkTake(t, []takeCase{
		{s: "", at: -1, e: api.ErrArg},
		{s: "", at: 1, e: api.ErrArg},
		{s: "5", at: -1, e: api.ErrArg},
		{s: "5", at: 2, e: api.ErrArg},
		{s: "x", at: 2, e: api.ErrArg},
		{s: "00", at: 3, e: api.ErrArg},
		{s: "5", at: 1<<63 - 1, e: api.ErrArg},
		{s: "5", at: -1 << 63, e: api.ErrArg},
		{s: "9999999999", at: -1, e: api.ErrArg},
	})
}

// P1.2: no digit, or a 0 ahead of another digit, however many follow.
func TestTakeForm(t *testing.T) {
	checkTake(t, []takeCase{
		{s: "", at: 0, e: api.ErrForm},
		{s: "5", at: 1, e: api.ErrForm},
		{s: "x", at: 0, e: api.ErrForm},
		{s: " 5", at: 0, e: api.ErrForm},
		{s: "+5", at: 0, e: api.ErrForm},
		{s: "-5", at: 0, e: api.ErrForm},
		{s: "-0", at: 0, e: api.ErrForm},
		{s: "007", at: 0, e: api.ErrForm},
		{s: "007", at: 1, e: api.ErrForm},
		{s: "00", at: 0, e: api.ErrForm},
		{s: "01 ", at: 0, e: api.ErrForm},
		{s: "100", at: 1, e: api.ErrForm},
		{s: "09999999999", at: 0, e: api.ErrForm},
		{s: "0" + strings.Repeat("9", 1000), at: 0, e: api.ErrForm},
		{s: "\u0665", at: 0, e: api.ErrForm},
		{s: "\uff15", at: 0, e: api.ErrForm},
	})
}

// P1.2: values above MaxNum, of digits of any length.
func TestTakeTooGreat(t *testing.T) {
	checkTake(t, []takeCase{
		{s: "2147483648", at: 0, e: api.ErrNum},
		{s: "2147483649", at: 0, e: api.ErrNum},
		{s: "2147483650", at: 0, e: api.ErrNum},
		{s: "2147483648x", at: 0, e: api.ErrNum},
		{s: "x2147483648", at: 1, e: api.ErrNum},
		{s: "3000000000", at: 0, e: api.ErrNum},
		{s: "4294967296", at: 0, e: api.ErrNum},
		{s: "4294967297", at: 0, e: api.ErrNum},
		{s: "10000000000", at: 0, e: api.ErrNum},
		{s: "9223372036854775808", at: 0, e: api.ErrNum},
		{s: "18446744073709551616", at: 0, e: api.ErrNum},
		{s: "18446744073709551617", at: 0, e: api.ErrNum},
		{s: "340282366920938463463374607431768211456", at: 0, e: api.ErrNum},
	})
	for length := 11; length <= 2000; length++ {
		for _, s := range []string{strings.Repeat("9", length), "1" + strings.Repeat("0", length-1)} {
			checkTake(t, []takeCase{{s: s, e: api.ErrNum}, {s: s + " 1", e: api.ErrNum}})
		}
	}
}

// P1.2: each byte is a digit just if it is one of 0 to 9.
func TestTakeEachByte(t *testing.T) {
	for b := range 256 {
		text := string([]byte{byte(b)})
		if d := strings.Index("0123456789", text); d >= 0 {
			checkTake(t, []takeCase{{s: text, n: d, to: 1}, {s: "4" + text, n: 40 + d, to: 2}, {s: "0" + text, e: api.ErrForm}})
		} else {
			checkTake(t, []takeCase{{s: text, e: api.ErrForm}, {s: "4" + text, n: 4, to: 1}, {s: "0" + text, n: 0, to: 1}})
		}
	}
}

// P1.3: whole texts.
func TestWhole(t *testing.T) {
	for _, c := range []struct {
		s string
		n int
		e api.Errno
	}{
		{"0", 0, api.OK}, {"7", 7, api.OK}, {"12", 12, api.OK}, {"2147483647", api.MaxNum, api.OK},
		{"", 0, api.ErrForm}, {"01", 0, api.ErrForm}, {"00", 0, api.ErrForm}, {"x", 0, api.ErrForm}, {" 1", 0, api.ErrForm}, {"-1", 0, api.ErrForm},
		{"12 ", 0, api.ErrForm}, {"12\n", 0, api.ErrForm}, {"0x", 0, api.ErrForm}, {"1 2", 0, api.ErrForm}, {"1\x00", 0, api.ErrForm},
		{"2147483647 ", 0, api.ErrForm}, {"2147483648", 0, api.ErrNum}, {"2147483648 ", 0, api.ErrNum}, {"4294967296", 0, api.ErrNum},
		{strings.Repeat("1", 500), 0, api.ErrNum}, {strings.Repeat("1", 500) + "x", 0, api.ErrNum}, {"0" + strings.Repeat("1", 500), 0, api.ErrForm},
	} {
		if n, e := Whole(c.s); n != c.n || e != c.e {
			t.Errorf("Whole(%q) = %d, %v, want %d, %v", c.s, n, e, c.n, c.e)
		}
	}
}

// P1.4: Take and Whole find again what Show printed, whatever surrounds it.
func TestTakeFindsShow(t *testing.T) {
	heads := []string{"", "0", "9", "12", "a", " ", "\n", "-", "\xff", "00"}
	tails := []string{"", "a", " ", "\n", "/9", ":9", "-1", "\x00", "\xff", " 0"}
	for _, n := range sampleNumbers() {
		s, e := Show(n)
		if e != api.OK {
			t.Fatalf("Show(%d): %v", n, e)
		}
		if got, e := Whole(s); got != n || e != api.OK {
			t.Errorf("Whole(%q) = %d, %v, want %d", s, got, e, n)
		}
		for _, head := range heads {
			for _, tail := range tails {
				checkTake(t, []takeCase{{s: head + s + tail, at: len(head), n: n, to: len(head) + len(s)}})
			}
		}
	}
}

// P1.4: numbers are in the order of their digits: first by how many there are, then byte by byte.
func TestOrderOfDigits(t *testing.T) {
	numbers := sampleNumbers()
	texts := make([]string, len(numbers))
	for i, n := range numbers {
		s, e := Show(n)
		if e != api.OK {
			t.Fatalf("Show(%d): %v", n, e)
		}
		texts[i] = s
	}
	for i, a := range texts {
		for j, b := range texts {
			want := cmp.Or(cmp.Compare(len(a), len(b)), cmp.Compare(a, b))
			if got := cmp.Compare(numbers[i], numbers[j]); got != want {
				t.Fatalf("%d against %d is %d, but %q against %q is %d", numbers[i], numbers[j], got, a, b, want)
			}
		}
	}
}
