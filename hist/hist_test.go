package hist

import (
	"fmt"
	"math/rand"
	"slices"
	"strconv"
	"strings"
	"testing"

	"inquest/api"
	"inquest/diary"
	"inquest/group"
	"inquest/source"
)

const (
	least = -1 << 63
	most  = 1<<63 - 1
)

func hist(l ...api.Txn) api.Hist { return api.Hist{Txns: l} }

func keys(l ...int) []int { return l }

func take(k, from int) api.Take { return api.Take{Key: k, From: from} }

func takes(l ...api.Take) []api.Take { return l }

// initials are Reads of the initial values of keys.
func initials(l ...int) []api.Take {
	var reads []api.Take
	for _, k := range l {
		reads = append(reads, take(k, -1))
	}
	return reads
}

// allKeys are the keys, rising.
func allKeys() []int {
	var l []int
	for k := range api.MaxKeys {
		l = append(l, k)
	}
	return l
}

// text is lines, each with its newline.
func text(lines ...string) string {
	var s strings.Builder
	for _, one := range lines {
		s.WriteString(one + "\n")
	}
	return s.String()
}

// brief is how a value is printed where a test fails; long ones are cut off.
func brief(v any) string { return fmt.Sprintf("%.600s", fmt.Sprint(v)) }

// sameTxn says whether two transactions are the same; no keys and no reads are the same, nil or empty.
func sameTxn(a, b api.Txn) bool {
	return a.Session == b.Session && slices.Equal(a.Writes, b.Writes) && slices.Equal(a.Reads, b.Reads)
}

func sameHist(a, b api.Hist) bool { return slices.EqualFunc(a.Txns, b.Txns, sameTxn) }

// cloned is a history with lists of its own.
func cloned(h api.Hist) api.Hist {
	h.Txns = slices.Clone(h.Txns)
	for i, txn := range h.Txns {
		h.Txns[i].Writes, h.Txns[i].Reads = slices.Clone(txn.Writes), slices.Clone(txn.Reads)
	}
	return h
}

func checkParse(t *testing.T, s string, want api.Hist) {
	t.Helper()
	if got, at, err := Parse(s); !sameHist(got, want) || at != 0 || err != api.OK {
		t.Fatalf("Parse(%q) = %s, %v, %v, want %s", brief(s), brief(got), at, err, brief(want))
	}
}

func checkWrong(t *testing.T, s string, at int, err api.Errno) {
	t.Helper()
	if got, gotAt, gotErr := Parse(s); len(got.Txns) != 0 || gotAt != at || gotErr != err {
		t.Fatalf("Parse(%q) = %s, %v, %v, want %v, %v", brief(s), brief(got), gotAt, gotErr, at, err)
	}
}

func checkShow(t *testing.T, h api.Hist, want string) {
	t.Helper()
	if got, err := Show(h); got != want || err != api.OK {
		t.Fatalf("Show(%s) = %q, %v, want %q", brief(h), brief(got), err, brief(want))
	}
}

func checkNoText(t *testing.T, h api.Hist, want api.Errno) {
	t.Helper()
	if got, err := Show(h); got != "" || err != want {
		t.Fatalf("Show(%s) = %q, %v, want %v", brief(h), brief(got), err, want)
	}
}

// checkRight holds Right against what is wanted, and Show, which refuses what is not valid.
func checkRight(t *testing.T, h api.Hist, want bool) {
	t.Helper()
	if got := Right(h); got != want {
		t.Fatalf("Right(%s) = %v, want %v", brief(h), got, want)
	}
	if !want {
		checkNoText(t, h, api.ErrArg)
	}
}

// mustShow is the text of a history that has one.
func mustShow(t *testing.T, h api.Hist) string {
	t.Helper()
	s, err := Show(h)
	if err != api.OK {
		t.Fatalf("Show(%s): %v", brief(h), err)
	}
	return s
}

// mustParse is the history of a text that has one.
func mustParse(t *testing.T, s string) api.Hist {
	t.Helper()
	h, at, err := Parse(s)
	if at != 0 || err != api.OK {
		t.Fatalf("Parse(%q): %v, %v", brief(s), at, err)
	}
	return h
}

// around are histories in which a transaction stands alone, and with right ones ahead of it, behind it, and both.
func around(txn api.Txn) []api.Hist {
	all := api.Txn{Session: 2, Writes: allKeys()}
	some := api.Txn{Session: 5, Writes: keys(3), Reads: initials(0, 3, 9)}
	return []api.Hist{hist(txn), hist(txn, some, some, all), hist(all, txn), hist(all, txn, some, all), hist(all, some, txn), hist(all, some, txn, all)}
}

// checkAround holds Right of a transaction alone, and among others, against what is wanted.
func checkAround(t *testing.T, txn api.Txn, want bool) {
	t.Helper()
	for _, h := range around(txn) {
		checkRight(t, h, want)
	}
}

// P8.1: no transaction, and transactions without anything.
func TestRightNothing(t *testing.T) {
	checkRight(t, api.Hist{}, true)
	checkRight(t, api.Hist{Txns: []api.Txn{}}, true)
	checkAround(t, api.Txn{}, true)
	checkAround(t, api.Txn{Session: 3, Writes: keys(), Reads: takes()}, true)
}

// P8.1: each number of transactions up to MaxTxns, and more.
func TestRightMany(t *testing.T) {
	for n := range 70 {
		checkRight(t, api.Hist{Txns: make([]api.Txn, n)}, n <= 32)
		var h api.Hist
		for i := range n {
			h.Txns = append(h.Txns, api.Txn{Session: i * 3 % 8, Writes: keys(4), Reads: takes(take(4, i-1))})
		}
		checkRight(t, h, n <= 32)
	}
	checkRight(t, api.Hist{Txns: make([]api.Txn, 1<<16+1)}, false)
}

// P8.1: each session, and what is none.
func TestRightSession(t *testing.T) {
	for s := range 8 {
		checkAround(t, api.Txn{Session: s, Writes: keys(1), Reads: initials(2)}, true)
	}
	for _, s := range []int{least, -8, -1, 8, 9, 1 << 32, 1<<32 + 1, most} {
		checkAround(t, api.Txn{Session: s}, false)
		checkAround(t, api.Txn{Session: s, Writes: keys(1), Reads: initials(2)}, false)
	}
}

// rightKeys and wrongKeys are lists of keys that may be, and that may not.
func rightKeys() [][]int {
	l := [][]int{nil, keys(), allKeys(), keys(0, 15), keys(3, 9, 14), keys(0, 1), keys(14, 15)}
	for k := range api.MaxKeys {
		l = append(l, keys(k), allKeys()[:k], allKeys()[k:])
	}
	return l
}

func wrongKeys() [][]int {
	l := [][]int{
		// No keys: alone, behind others, ahead of others.
		keys(least), keys(-2), keys(-1), keys(16), keys(17), keys(1 << 32), keys(1<<32 + 1), keys(most),
		keys(-1, 0), keys(-1, 5), keys(least, 3, 4), keys(3, 16), keys(0, 15, 16), keys(15, most), keys(16, 3), keys(3, -1), keys(3, least), keys(0, -1),
		append(allKeys(), 16), append(keys(-1), allKeys()...),
		// The same twice.
		keys(0, 0), keys(1, 1), keys(15, 15), keys(1, 2, 2), keys(1, 1, 2), keys(1, 2, 1), append(allKeys(), 15), append(allKeys(), 0),
		// Decreasing.
		keys(1, 0), keys(15, 14), keys(15, 0), keys(0, 2, 1), keys(2, 3, 1), keys(2, 0, 1), keys(0, 5, 9, 8), append(allKeys()[2:], 1),
	}
	long := make([]int, 5000)
	for i := range long {
		long[i] = i
	}
	return append(l, long)
}

// P8.1: Writes, right and wrong ones.
func TestRightWrites(t *testing.T) {
	for _, l := range rightKeys() {
		checkAround(t, api.Txn{Writes: l}, true)
		checkAround(t, api.Txn{Session: 7, Writes: l, Reads: initials(1, 2)}, true)
	}
	for _, l := range wrongKeys() {
		checkAround(t, api.Txn{Writes: l}, false)
		checkAround(t, api.Txn{Session: 7, Writes: l, Reads: initials(1, 2)}, false)
	}
}

// P8.1: the keys of Reads, right and wrong ones, whoever wrote what is read.
func TestRightReadKeys(t *testing.T) {
	all := api.Txn{Session: 2, Writes: allKeys()}
	check := func(l []int, want bool) {
		t.Helper()
		checkAround(t, api.Txn{Reads: initials(l...)}, want)
		checkAround(t, api.Txn{Session: 7, Writes: keys(0, 3), Reads: initials(l...)}, want)
		var reads []api.Take
		for _, k := range l {
			reads = append(reads, take(k, 0))
		}
		checkRight(t, hist(all, api.Txn{Reads: reads}), want)
		checkRight(t, hist(all, all, api.Txn{Writes: keys(0, 3), Reads: reads}), want)
		// Others between that are from nobody.
		for i := range reads {
			reads[i].From = i%2 - 1
		}
		checkRight(t, hist(all, all, api.Txn{Reads: reads}), want)
	}
	for _, l := range rightKeys() {
		check(l, true)
	}
	for _, l := range wrongKeys() {
		check(l, false)
	}
}

// P8.1: a key that is none is no key either where a transaction that is wrong itself has it among its Writes.
func TestRightReadOfWrongKey(t *testing.T) {
	for _, k := range []int{least, -1, 16, 17, most} {
		checkRight(t, hist(api.Txn{Writes: keys(k)}, api.Txn{Reads: takes(take(k, 0))}), false)
		checkRight(t, hist(api.Txn{Reads: takes(take(k, 1))}, api.Txn{Writes: keys(k)}), false)
	}
}

// P8.1: a Read is from nobody, with and without a writer of its key, or from another transaction that writes the key, ahead of it or behind it.
func TestRightFrom(t *testing.T) {
	writer, reader := func(l ...int) api.Txn { return api.Txn{Session: 4, Writes: l} }, func(l ...api.Take) api.Txn { return api.Txn{Session: 6, Reads: l} }
	for _, k := range []int{0, 1, 7, 15} {
		checkRight(t, hist(reader(take(k, -1))), true)
		checkRight(t, hist(writer(k), reader(take(k, -1))), true)
		checkRight(t, hist(reader(take(k, -1)), writer(k)), true)
		checkRight(t, hist(writer(k), reader(take(k, 0))), true)
		checkRight(t, hist(reader(take(k, 1)), writer(k)), true)
		checkRight(t, hist(writer(k), api.Txn{}, reader(take(k, 0))), true)
		checkRight(t, hist(reader(take(k, 2)), api.Txn{}, writer(k)), true)
		checkRight(t, hist(writer(k), writer(k), reader(take(k, 0)), writer(k)), true)
		checkRight(t, hist(writer(k), writer(k), reader(take(k, 1)), writer(k)), true)
		checkRight(t, hist(writer(k), writer(k), reader(take(k, 3)), writer(k)), true)
		// The reader may write the key itself, and two may read from each other.
		checkRight(t, hist(writer(k), api.Txn{Writes: keys(k), Reads: takes(take(k, 0))}), true)
		checkRight(t, hist(api.Txn{Writes: keys(k), Reads: takes(take(k, 1))}, api.Txn{Writes: keys(k), Reads: takes(take(k, 0))}), true)
		checkRight(t, hist(api.Txn{Writes: keys(k), Reads: initials(k)}), true)
		// The writer writes other keys, too, ahead of it and behind it.
		checkRight(t, hist(writer(allKeys()...), reader(take(k, 0))), true)
	}
}

// P8.1: a Read from what is no number of a transaction, from its own transaction, and from one that does not write the key, as the only one, the first and the last one.
func TestRightWrongFrom(t *testing.T) {
	all := api.Txn{Writes: allKeys()}
	wrong := func(number int, from ...int) {
		t.Helper()
		for _, f := range from {
			for _, reads := range [][]api.Take{takes(take(5, f)), takes(take(5, f), take(9, -1)), takes(take(1, -1), take(5, f)), takes(take(1, 0), take(2, -1), take(5, f))} {
				for _, writes := range [][]int{nil, keys(5), allKeys()} {
					h := hist(all, all, all, all)
					h.Txns[number] = api.Txn{Writes: writes, Reads: reads}
					checkRight(t, h, false)
				}
			}
		}
	}
	for number := range 4 {
		// Its own number, with the key among its Writes and without; no transaction's.
		wrong(number, number, least, -3, -2, 4, 5, 31, 32, 1<<32, 1<<32+1, 1<<32-1, most)
	}
	// Another one's that does not write the key, but others.
	for _, writes := range [][]int{nil, keys(4), keys(6), keys(0, 1, 2, 3, 4, 6, 7, 8, 9, 10, 11, 12, 13, 14, 15)} {
		checkRight(t, hist(api.Txn{Writes: writes}, api.Txn{Reads: takes(take(5, 0))}), false)
		checkRight(t, hist(api.Txn{Reads: takes(take(5, 1))}, api.Txn{Writes: writes}), false)
		checkRight(t, hist(all, api.Txn{Writes: writes}, all, api.Txn{Reads: takes(take(2, 0), take(5, 1))}), false)
		checkRight(t, hist(all, api.Txn{Writes: writes, Reads: initials(5)}, api.Txn{Reads: takes(take(5, 1))}), false)
		checkRight(t, hist(all, api.Txn{Writes: writes}, api.Txn{Writes: keys(5), Reads: takes(take(5, 1))}), false)
	}
	// In the last of 32.
	var h api.Hist
	for range 32 {
		h.Txns = append(h.Txns, all)
	}
	for from := -3; from < 40; from++ {
		h.Txns[31].Reads = takes(take(0, -1), take(15, from))
		checkRight(t, h, from >= -1 && from <= 30)
	}
}

// rightByWords is whether a history is valid, by the chapter's words.
func rightByWords(h api.Hist) bool {
	right := len(h.Txns) <= 32
	// The keys are 0 to 15, and none is as great as the one behind it.
	rise := func(key func(i int) int, n int) {
		for i := range n {
			right = right && 0 <= key(i) && key(i) <= 15 && (i == n-1 || key(i) < key(i+1))
		}
	}
	for number, txn := range h.Txns {
		right = right && 0 <= txn.Session && txn.Session <= 7
		rise(func(i int) int { return txn.Writes[i] }, len(txn.Writes))
		rise(func(i int) int { return txn.Reads[i].Key }, len(txn.Reads))
		for _, read := range txn.Reads {
			may := read.From == -1
			for other, writer := range h.Txns {
				for _, key := range writer.Writes {
					may = may || other != number && read.From == other && read.Key == key
				}
			}
			right = right && may
		}
	}
	return right
}

// shortLists are all lists of up to n of these.
func shortLists[T any](each []T, n int) [][]T {
	all := [][]T{nil}
	last := all
	for range n {
		var next [][]T
		for _, l := range last {
			for _, v := range each {
				next = append(next, append(slices.Clone(l), v))
			}
		}
		all, last = append(all, next...), next
	}
	return all
}

// P8.1, P8.2, P8.3: all histories of up to two transactions with up to two Writes and one Read each, or one Write and two Reads, of few keys, held against the chapter's words; those that are valid come back from their texts.
func TestAllShort(t *testing.T) {
	var reads []api.Take
	for k := range 2 {
		for from := -2; from <= 2; from++ {
			reads = append(reads, take(k, from))
		}
	}
	var txns []api.Txn
	add := func(writes [][]int, reads [][]api.Take) {
		for _, w := range writes {
			for _, r := range reads {
				txns = append(txns, api.Txn{Session: len(txns) % 2, Writes: w, Reads: r})
			}
		}
	}
	add(shortLists(keys(0, 1), 2), shortLists(reads, 1))
	add(shortLists(keys(0, 1), 1), shortLists(reads, 2))
	counts := [2]int{}
	check := func(h api.Hist) {
		want := rightByWords(h)
		checkRight(t, h, want)
		if !want {
			counts[0]++
			return
		}
		counts[1]++
		checkParse(t, mustShow(t, h), h)
	}
	for _, a := range txns {
		check(hist(a))
		for _, b := range txns {
			check(hist(a, b))
		}
	}
	if counts[0] < 1000 || counts[1] < 1000 {
		t.Error(counts)
	}
}

// chanceKeys are keys by chance, rising.
func chanceKeys(r *rand.Rand, keyCount int) []int {
	l := r.Perm(keyCount)[:r.Intn(keyCount+1)]
	slices.Sort(l)
	return l
}

// chanceHist is a valid history by chance.
func chanceHist(r *rand.Rand, n, keyCount int) api.Hist {
	var h api.Hist
	for range n {
		h.Txns = append(h.Txns, api.Txn{Session: r.Intn(8), Writes: chanceKeys(r, keyCount)})
	}
	for i := range h.Txns {
		for _, k := range chanceKeys(r, keyCount) {
			from := r.Intn(n)
			if from == i || !slices.Contains(h.Txns[from].Writes, k) {
				from = -1
			}
			h.Txns[i].Reads = append(h.Txns[i].Reads, take(k, from))
		}
	}
	return h
}

// spoil changes one thing of a history by chance.
func spoil(r *rand.Rand, h api.Hist) {
	txn := &h.Txns[r.Intn(len(h.Txns))]
	switch r.Intn(7) {
	case 0:
		txn.Session = r.Intn(10) - 1
	case 1:
		txn.Writes = slices.Insert(txn.Writes, r.Intn(len(txn.Writes)+1), r.Intn(18)-1)
	case 2:
		txn.Reads = slices.Insert(txn.Reads, r.Intn(len(txn.Reads)+1), take(r.Intn(18)-1, -1))
	case 3, 4:
		if len(txn.Reads) > 0 {
			txn.Reads[r.Intn(len(txn.Reads))].From = r.Intn(len(h.Txns)+3) - 2
		}
	default:
		if len(txn.Writes) > 0 {
			i := r.Intn(len(txn.Writes))
			txn.Writes = slices.Delete(txn.Writes, i, i+1)
		}
	}
}

// P8.1: histories by chance, right ones and such that were spoilt, held against the chapter's words.
func TestRightByChance(t *testing.T) {
	r := rand.New(rand.NewSource(81))
	counts := map[bool]int{}
	for range 3000 {
		h := chanceHist(r, 1+r.Intn(32), 1+r.Intn(16))
		checkRight(t, h, true)
		for range 3 {
			spoil(r, h)
			want := rightByWords(h)
			counts[want]++
			checkRight(t, h, want)
		}
	}
	if counts[true] < 500 || counts[false] < 500 {
		t.Error(counts)
	}
}

// P8.1: the chapter's example, and DOC.md's.
func TestParseExamples(t *testing.T) {
	checkParse(t, text("begin 0", "write 0 1 1", "commit 0", "begin 1", "read 1 1 1", "commit 1"), hist(api.Txn{Writes: keys(1)}, api.Txn{Session: 1, Reads: takes(take(1, 0))}))
	checkParse(t, text("begin 0", "begin 1", "read 0 1 0", "read 0 2 0", "read 1 1 0", "read 1 2 0", "write 0 1 5", "write 1 2 6", "commit 0", "commit 1"),
		hist(api.Txn{Writes: keys(1), Reads: initials(1, 2)}, api.Txn{Session: 1, Writes: keys(2), Reads: initials(1, 2)}))
}

// P8.1: the empty text, and texts in which no transaction was committed.
func TestParseNothing(t *testing.T) {
	checkParse(t, "", api.Hist{})
	checkParse(t, text("begin 0"), api.Hist{})
	checkParse(t, text("begin 0", "abort 0"), api.Hist{})
	checkParse(t, text("begin 0", "write 0 1 5", "begin 7", "read 7 1 6", "abort 7", "read 0 3 9"), api.Hist{})
	checkParse(t, text("begin 3", "commit 3"), hist(api.Txn{Session: 3}))
}

// P8.1: aborted and open transactions, and mixed events of several sessions.
func TestParseMixed(t *testing.T) {
	checkParse(t, text("begin 5", "begin 2", "write 5 3 9", "begin 0", "write 2 3 8", "read 0 3 8", "abort 5", "write 0 4 1", "commit 0", "begin 5", "read 5 4 1", "begin 1", "commit 2", "read 5 3 0", "write 5 0 7", "write 5 0 8", "read 5 0 8", "commit 5", "write 1 3 1"),
		hist(api.Txn{Session: 2, Writes: keys(3)}, api.Txn{Writes: keys(4), Reads: takes(take(3, 0))}, api.Txn{Session: 5, Writes: keys(0), Reads: takes(take(3, -1), take(4, 1))}))
	// What is read was written behind it.
	checkParse(t, text("begin 1", "read 1 1 5", "commit 1", "begin 2", "write 2 1 5", "commit 2"), hist(api.Txn{Session: 1, Reads: takes(take(1, 1))}, api.Txn{Session: 2, Writes: keys(1)}))
}

// rightLines are lines that are right in each layer.
func rightLines() []string {
	return []string{"begin 6", "write 6 13 1", "begin 7", "write 6 13 2", "write 7 12 1", "write 6 14 1", "commit 6", "abort 7", "begin 6", "read 6 14 1"}
}

// P8.1: a text that is no lines: the error of layer 2, of no line.
func TestParseNoLines(t *testing.T) {
	checkWrong(t, "begin 0", 0, api.ErrForm)
	checkWrong(t, text(rightLines()...)+"begin 0", 0, api.ErrForm)
	checkWrong(t, text(rightLines()...)+"x", 0, api.ErrForm)
	long := strings.Repeat("begin 1\ncommit 1\n", 16)
	checkParse(t, long, api.Hist{Txns: slices.Repeat([]api.Txn{{Session: 1}}, 16)})
	reads := "begin 1\n" + strings.Repeat("read 1 1 0\n", 398)
	checkParse(t, reads+"commit 1\n", hist(api.Txn{Session: 1, Reads: initials(1)}))
	checkWrong(t, reads+"read 1 1 0\ncommit 1\n", 0, api.ErrMany)
	checkWrong(t, reads+"x\ncommit 1\n", 0, api.ErrMany)
}

// P8.1: a line that layer 3 refuses: its error, with the number that layer 4 gives it.
func TestParseWrongLine(t *testing.T) {
	for _, c := range []struct {
		line string
		err  api.Errno
	}{
		{"", api.ErrForm}, {"x", api.ErrForm}, {"begin", api.ErrForm}, {"begin 0 0", api.ErrForm}, {"Begin 0", api.ErrForm}, {"read 0 1", api.ErrForm}, {"write 0 1 2 3", api.ErrForm}, {"commit  0", api.ErrForm}, {" abort 0", api.ErrForm}, {"begin 00", api.ErrForm}, {"begin -1", api.ErrForm},
		{"begin 8", api.ErrMany}, {"read 0 16 0", api.ErrMany}, {"write 9 1 1", api.ErrMany}, {"write 0 1 2147483648", api.ErrNum},
	} {
		_, at, err := diary.Parse(text(c.line))
		if at != 1 || err != c.err {
			t.Fatalf("diary.Parse(%q): %v, %v", c.line, at, err)
		}
		for i := range len(rightLines()) + 1 {
			checkWrong(t, text(slices.Insert(rightLines(), i, c.line)...), i+1, c.err)
		}
		checkWrong(t, text(c.line, "x"), 1, c.err)
	}
}

// P8.1: an event that layer 5 refuses: its error, with the line of the event, also with other sessions' events ahead of it and between.
func TestParseWrongEvent(t *testing.T) {
	for _, c := range []struct {
		lines []string
		at    int // the line of the event
		err   api.Errno
	}{
		{[]string{"commit 1"}, 1, api.ErrShut}, {[]string{"abort 1"}, 1, api.ErrShut}, {[]string{"read 1 1 0"}, 1, api.ErrShut}, {[]string{"write 1 1 1"}, 1, api.ErrShut},
		{[]string{"begin 1", "commit 1", "commit 1"}, 3, api.ErrShut}, {[]string{"begin 1", "abort 1", "read 1 1 0"}, 3, api.ErrShut}, {[]string{"begin 1", "begin 2", "commit 1", "read 2 1 0", "write 1 1 1", "commit 2"}, 5, api.ErrShut},
		{[]string{"begin 1", "begin 1"}, 2, api.ErrOpen}, {[]string{"begin 1", "read 1 1 0", "begin 2", "write 2 1 5", "begin 1"}, 5, api.ErrOpen}, {[]string{"begin 1", "commit 1", "begin 1", "begin 1"}, 4, api.ErrOpen},
		// Of two, the first one's.
		{[]string{"begin 1", "begin 1", "commit 2"}, 2, api.ErrOpen}, {[]string{"begin 1", "commit 2", "begin 1"}, 2, api.ErrShut},
	} {
		checkWrong(t, text(c.lines...), c.at, c.err)
		checkWrong(t, text(append(rightLines(), c.lines...)...), len(rightLines())+c.at, c.err)
	}
}

// P8.1: more than MaxTxns transactions, committed or not: the line of the Begin that is too many.
func TestParseManyTxns(t *testing.T) {
	for _, last := range []string{"commit", "abort"} {
		var lines []string
		for i := range 32 {
			s := strconv.Itoa(i % 8)
			lines = append(lines, "begin "+s, "write "+s+" 1 "+strconv.Itoa(i+1), last+" "+s)
		}
		h := mustParse(t, text(lines...))
		if last == "commit" && len(h.Txns) != 32 || last == "abort" && len(h.Txns) != 0 {
			t.Fatalf("%v transactions", len(h.Txns))
		}
		for _, s := range []string{"0", "3", "7"} {
			checkWrong(t, text(append(lines, "begin "+s)...), 97, api.ErrMany)
			checkWrong(t, text(append(lines, "begin "+s, "commit "+s, "begin 5", "commit 5")...), 97, api.ErrMany)
		}
		// One of them is still open.
		checkWrong(t, text(append(slices.Clone(lines[:95]), "begin 2")...), 96, api.ErrMany)
		checkWrong(t, text(append(slices.Clone(lines[:95]), "begin 7")...), 96, api.ErrOpen)
	}
}

// mistake is lines of sessions 1 and 2 that are wrong for layer 7 behind rightLines: the transaction whose Begin is the line at is.
type mistake struct {
	lines []string
	at    int
	kind  int // of P7.1
	err   api.Errno
}

// mistakes have keys of their own each, so that any two of them are wrong in their own ways.
func mistakes() []mistake {
	return []mistake{
		{[]string{"begin 1", "write 1 1 0", "commit 1"}, 1, 3, api.ErrZero},
		{[]string{"begin 2", "begin 1", "read 2 2 0", "write 1 2 0", "commit 2"}, 2, 3, api.ErrZero},
		{[]string{"begin 1", "write 1 3 1", "begin 2", "write 1 3 1", "commit 1", "abort 2"}, 1, 3, api.ErrTwice},
		{[]string{"begin 1", "begin 2", "write 2 14 1", "commit 1"}, 2, 3, api.ErrTwice},
		{[]string{"begin 2", "begin 1", "write 1 4 1", "abort 2", "read 1 4 2", "commit 1"}, 2, 4, api.ErrOwn},
		{[]string{"begin 1", "read 1 5 0", "begin 2", "read 1 5 1", "commit 2", "commit 1"}, 1, 4, api.ErrOther},
		{[]string{"begin 1", "read 1 6 1", "write 1 6 1", "commit 1"}, 1, 4, api.ErrFuture},
		{[]string{"begin 1", "abort 1", "begin 2", "begin 1", "read 1 7 1", "commit 2", "commit 1"}, 4, 5, api.ErrThin},
		{[]string{"begin 1", "read 1 12 1", "commit 1"}, 1, 5, api.ErrAborted},
		{[]string{"begin 2", "write 2 8 1", "begin 1", "read 1 8 1", "commit 1"}, 3, 5, api.ErrAborted},
		{[]string{"begin 2", "read 2 0 0", "begin 1", "commit 2", "read 1 13 1", "commit 1"}, 3, 5, api.ErrMiddle},
	}
}

// closing are lines that end the transactions of sessions 1 and 2 that lines leave open: by an Abort, so that they stay what they are.
func closing(lines []string) []string {
	var l []string
	for _, s := range []string{"1", "2"} {
		open := false
		for _, one := range lines {
			open = one == "begin "+s || open && one != "commit "+s && one != "abort "+s
		}
		if open {
			l = append(l, "abort "+s)
		}
	}
	return l
}

// P8.1: transactions that layer 7 refuses: its error, with the line of the Begin, also behind aborted, open and committed ones, with mixed events.
func TestParseWrongTransaction(t *testing.T) {
	right := rightLines()
	for i, m := range mistakes() {
		checkWrong(t, text(append(rightLines(), m.lines...)...), len(right)+m.at, m.err)
		checkWrong(t, text(append(append(rightLines(), m.lines...), closing(m.lines)...)...), len(right)+m.at, m.err)
		checkWrong(t, text(slices.Concat([]string{"begin 3", "begin 4", "commit 3"}, right, []string{"commit 6", "abort 4", "begin 5"}, m.lines, []string{"read 5 9 0", "commit 5"})...), len(right)+m.at+6, m.err)
		// Of two the first kind's, whichever is first; of one kind the first one's.
		for j, n := range mistakes() {
			if i == j {
				continue
			}
			first := append(slices.Clone(m.lines), closing(m.lines)...)
			all := text(slices.Concat(right, first, n.lines)...)
			if m.kind <= n.kind {
				checkWrong(t, all, len(right)+m.at, m.err)
			} else {
				checkWrong(t, all, len(right)+len(first)+n.at, n.err)
			}
		}
	}
	// The first transaction's Begin, on line 1.
	checkWrong(t, text("begin 1", "read 1 1 1", "commit 1"), 1, api.ErrThin)
	checkWrong(t, text("begin 1", "begin 2", "read 1 1 1", "commit 2", "commit 1"), 1, api.ErrThin)
}

// P8.1: of the errors of two layers that of layer 4 is held first, then that of layer 5, then that of layer 7, whichever line stands first.
func TestParseFirstLayer(t *testing.T) {
	right := rightLines()
	for _, m := range mistakes() {
		ended := append(slices.Clone(m.lines), closing(m.lines)...)
		n := len(right)
		// Layers 7 and 5.
		checkWrong(t, text(slices.Concat(right, ended, []string{"commit 2"})...), n+len(ended)+1, api.ErrShut)
		checkWrong(t, text(slices.Concat(right, ended, []string{"begin 6"})...), n+len(ended)+1, api.ErrOpen)
		checkWrong(t, text(slices.Concat([]string{"read 2 1 0"}, right, ended)...), 1, api.ErrShut)
		checkWrong(t, text(slices.Concat(right, []string{"begin 6"}, ended)...), n+1, api.ErrOpen)
		// Layers 7 and 4.
		checkWrong(t, text(slices.Concat(right, ended, []string{"x"})...), n+len(ended)+1, api.ErrForm)
		checkWrong(t, text(slices.Concat([]string{"begin 8"}, right, ended)...), 1, api.ErrMany)
		checkWrong(t, text(slices.Concat(right, ended)...)+"begin 1", 0, api.ErrForm)
		// All three.
		checkWrong(t, text(slices.Concat(right, ended, []string{"begin 6", "read 0 1"})...), n+len(ended)+2, api.ErrForm)
		checkWrong(t, text(slices.Concat([]string{"commit 0", "write 0 16 1"}, right, ended)...), 2, api.ErrMany)
	}
	// Layers 5 and 4.
	checkWrong(t, text("commit 0", "x"), 2, api.ErrForm)
	checkWrong(t, text("x", "commit 0"), 1, api.ErrForm)
	checkWrong(t, text("begin 1", "begin 1", "read 1 1 2147483648"), 3, api.ErrNum)
	checkWrong(t, text("commit 0")+"x", 0, api.ErrForm)
	checkWrong(t, "commit 0\n"+strings.Repeat("begin 0\n", 400), 0, api.ErrMany)
}

// parseByWords is what Parse returns, by the chapter's words.
func parseByWords(s string) (api.Hist, int, api.Errno) {
	events, at, err := diary.Parse(s)
	if err != api.OK {
		return api.Hist{}, at, err
	}
	txs, index, err := group.Group(events)
	if err != api.OK {
		return api.Hist{}, index + 1, err
	}
	h, index, err := source.Hist(txs)
	if err == api.OK {
		return h, 0, api.OK
	}
	// The Begin is the one of this index among all lines that begin.
	for i, e := range events {
		if e.Kind == api.Begin {
			index--
		}
		if index < 0 {
			return api.Hist{}, i + 1, err
		}
	}
	panic("no such Begin")
}

// chanceLines are lines of a history by chance with the events of its sessions mixed, some of them aborted or left open.
func chanceLines(r *rand.Rand) []string {
	h := chanceHist(r, 1+r.Intn(12), 1+r.Intn(4))
	s, err := Show(h)
	if err != api.OK {
		panic(err)
	}
	var bySession [8][]string
	for _, one := range strings.Split(strings.TrimSuffix(s, "\n"), "\n") {
		number := int(strings.Fields(one)[1][0] - '0')
		if strings.HasPrefix(one, "commit") && r.Intn(25) == 0 {
			one = "abort" + one[6:]
		}
		bySession[number] = append(bySession[number], one)
	}
	var lines []string
	for {
		left := []int{}
		for number, l := range bySession {
			if len(l) > 0 {
				left = append(left, number)
			}
		}
		if len(left) == 0 {
			return lines
		}
		number := left[r.Intn(len(left))]
		n := 1 + r.Intn(len(bySession[number]))
		lines = append(lines, bySession[number][:n]...)
		bySession[number] = bySession[number][n:]
	}
}

// spoilLines drops a line, puts a wrong one or one of the same lines again between them, or changes a value.
func spoilLines(r *rand.Rand, lines []string) []string {
	at := r.Intn(len(lines))
	wrong := []string{"", "begin", "begin 8", "commit 1 1", "read 0 16 1", "write 7 1 2147483648", "abort 3", "begin 4"}
	switch r.Intn(5) {
	case 0:
		if len(lines) > 1 {
			return slices.Delete(lines, at, at+1)
		}
	case 1:
		return slices.Insert(lines, at, lines[r.Intn(len(lines))])
	case 2:
		if r.Intn(3) == 0 {
			return slices.Insert(lines, at, wrong[r.Intn(len(wrong))])
		}
		words := strings.Fields(lines[at])
		if len(words) == 4 {
			// Behind a Write, another one of its key: who reads the first one reads what was written over.
			return slices.Insert(lines, at+r.Intn(2), strings.Join(append(words[:3], strconv.Itoa(r.Intn(40))), " "))
		}
	case 3:
		words := strings.Fields(lines[at])
		if len(words) == 4 {
			lines[at] = strings.Join(append(words[:3], strconv.Itoa(r.Intn(13))), " ")
		}
	}
	return lines
}

// P8.1, P8.3: texts by chance, right ones and such that were spoilt, held against the chapter's words; what Parse returns is valid, beside an error too.
func TestParseByChance(t *testing.T) {
	r := rand.New(rand.NewSource(82))
	counts := map[api.Errno]int{}
	for range 6000 {
		lines := chanceLines(r)
		for range 4 {
			s := text(lines...)
			got, at, err := Parse(s)
			want, wantAt, wantErr := parseByWords(s)
			if !sameHist(got, want) || at != wantAt || err != wantErr || !Right(got) {
				t.Fatalf("Parse(%q) = %s, %v, %v, want %s, %v, %v", s, brief(got), at, err, brief(want), wantAt, wantErr)
			}
			counts[err]++
			lines = spoilLines(r, lines)
		}
	}
	for _, err := range []api.Errno{api.OK, api.ErrForm, api.ErrNum, api.ErrMany, api.ErrOpen, api.ErrShut, api.ErrZero, api.ErrTwice, api.ErrFuture, api.ErrOwn, api.ErrOther, api.ErrThin, api.ErrAborted, api.ErrMiddle} {
		if counts[err] < 5 {
			t.Errorf("%v came %v times", err, counts[err])
		}
	}
}

// P8.2: the chapter's example.
func TestShowExample(t *testing.T) {
	checkShow(t, hist(api.Txn{Writes: keys(1)}, api.Txn{Session: 1, Reads: takes(take(1, 0))}), text("begin 0", "write 0 1 1", "commit 0", "begin 1", "read 1 1 1", "commit 1"))
}

// P8.2: no transaction, and one without Writes and Reads.
func TestShowNothing(t *testing.T) {
	checkShow(t, api.Hist{}, "")
	checkShow(t, api.Hist{Txns: []api.Txn{}}, "")
	checkShow(t, hist(api.Txn{}), text("begin 0", "commit 0"))
	checkShow(t, hist(api.Txn{Session: 7, Writes: keys(), Reads: takes()}, api.Txn{}, api.Txn{Session: 7}), text("begin 7", "commit 7", "begin 0", "commit 0", "begin 7", "commit 7"))
}

// P8.2: each transaction's Reads stand ahead of its Writes, each with rising keys; a Read's value tells who wrote it, and 0 that nobody did.
func TestShowEvents(t *testing.T) {
	checkShow(t, hist(api.Txn{Session: 4, Reads: initials(9)}), text("begin 4", "read 4 9 0", "commit 4"))
	checkShow(t, hist(api.Txn{Session: 2, Writes: keys(0, 3, 15), Reads: takes(take(3, -1), take(5, 2), take(15, 1))}, api.Txn{Session: 2, Writes: keys(15)}, api.Txn{Session: 6, Writes: keys(5, 15), Reads: takes(take(0, 0), take(1, -1))}),
		text("begin 2", "read 2 3 0", "read 2 5 3", "read 2 15 2", "write 2 0 1", "write 2 3 1", "write 2 15 1", "commit 2", "begin 2", "write 2 15 2", "commit 2", "begin 6", "read 6 0 1", "read 6 1 0", "write 6 5 3", "write 6 15 3", "commit 6"))
	// 32 transactions, each with a value of its own.
	var h api.Hist
	var lines []string
	for i := range 32 {
		s := strconv.Itoa(i * 5 % 8)
		h.Txns = append(h.Txns, api.Txn{Session: i * 5 % 8, Writes: keys(4), Reads: takes(take(4, (i+2)%33-1))})
		if i == 31 {
			h.Txns[i].Reads[0].From = -1
		}
		lines = append(lines, "begin "+s, "read "+s+" 4 "+strconv.Itoa(h.Txns[i].Reads[0].From+1), "write "+s+" 4 "+strconv.Itoa(i+1), "commit "+s)
	}
	checkShow(t, h, text(lines...))
}

// ofLines is a valid history whose text has n lines, at most 32 transactions with up to 34 lines each.
func ofLines(n int) api.Hist {
	var h api.Hist
	for n > 0 {
		some := min(n, 34)
		if n-some == 1 {
			some--
		}
		txn := api.Txn{Session: len(h.Txns) % 8, Writes: allKeys()[:min(some-2, 16)]}
		if some > 18 {
			txn.Reads = initials(allKeys()[:some-18]...)
		}
		h.Txns = append(h.Txns, txn)
		n -= some
	}
	return h
}

// P8.2, P8.3: texts of up to MaxEvents lines, which come back, and of more.
func TestShowMany(t *testing.T) {
	for _, n := range []int{2, 3, 4, 33, 34, 36, 37, 100, 398, 399, 400} {
		h := ofLines(n)
		s := mustShow(t, h)
		if strings.Count(s, "\n") != n {
			t.Fatalf("%v lines, want %v", strings.Count(s, "\n"), n)
		}
		checkParse(t, s, h)
	}
	for _, n := range []int{401, 402, 403, 500, 800, 1000, 1088} {
		h := ofLines(n)
		checkRight(t, h, true)
		checkNoText(t, h, api.ErrMany)
	}
	// Each kind of line counts: 32 transactions, then Reads or Writes.
	for _, isOfReads := range []bool{true, false} {
		h := api.Hist{Txns: make([]api.Txn, 32)}
		for i := range 21 {
			if isOfReads {
				h.Txns[i].Reads = initials(allKeys()...)
			} else {
				h.Txns[i].Writes = allKeys()
			}
		}
		s := mustShow(t, h)
		if strings.Count(s, "\n") != 400 {
			t.Fatalf("%v lines", strings.Count(s, "\n"))
		}
		checkParse(t, s, h)
		more := cloned(h)
		more.Txns[31].Writes = keys(3)
		checkNoText(t, more, api.ErrMany)
		more = cloned(h)
		more.Txns[31].Reads = initials(3)
		checkNoText(t, more, api.ErrMany)
		if h.Txns = h.Txns[:31]; len(mustShow(t, h)) >= len(s) {
			t.Error("no Begin and no Commit of the last one")
		}
	}
}

// P8.2: that a history is not valid comes ahead of the number of its lines.
func TestShowArgFirst(t *testing.T) {
	h := api.Hist{Txns: slices.Repeat([]api.Txn{{Writes: allKeys(), Reads: initials(allKeys()...)}}, 32)}
	checkNoText(t, h, api.ErrMany)
	for i := range h.Txns {
		for _, wrong := range []api.Txn{{Session: 8}, {Session: -1}, {Writes: keys(16)}, {Writes: keys(1, 1)}, {Reads: initials(2, 1)}, {Reads: takes(take(1, i))}, {Reads: takes(take(1, 32))}, {Reads: takes(take(1, -2))}} {
			l := cloned(h)
			l.Txns[i] = wrong
			checkNoText(t, l, api.ErrArg)
		}
	}
	h.Txns = append(h.Txns, api.Txn{})
	checkNoText(t, h, api.ErrArg)
	checkNoText(t, api.Hist{Txns: make([]api.Txn, 33)}, api.ErrArg)
	checkNoText(t, api.Hist{Txns: make([]api.Txn, 201)}, api.ErrArg)
}

// showByWords is what Show returns of a valid history, by the chapter's words.
func showByWords(h api.Hist) (string, api.Errno) {
	var lines []string
	for number, txn := range h.Txns {
		lines = append(lines, fmt.Sprint("begin ", txn.Session))
		for _, read := range txn.Reads {
			lines = append(lines, fmt.Sprintf("read %d %d %d", txn.Session, read.Key, read.From+1))
		}
		for _, key := range txn.Writes {
			lines = append(lines, fmt.Sprintf("write %d %d %d", txn.Session, key, number+1))
		}
		lines = append(lines, fmt.Sprint("commit ", txn.Session))
	}
	if len(lines) > 400 {
		return "", api.ErrMany
	}
	return text(lines...), api.OK
}

// P8.2, P8.3: texts of histories by chance, held against the chapter's words; Parse returns the history that was printed.
func TestShowByChance(t *testing.T) {
	r := rand.New(rand.NewSource(83))
	counts := map[api.Errno]int{}
	for range 3000 {
		h := chanceHist(r, 1+r.Intn(32), 1+r.Intn(16))
		want, wantErr := showByWords(h)
		counts[wantErr]++
		if wantErr != api.OK {
			checkNoText(t, h, wantErr)
			continue
		}
		checkShow(t, h, want)
		checkParse(t, want, h)
	}
	if counts[api.OK] < 500 || counts[api.ErrMany] < 100 {
		t.Error(counts)
	}
}

// P8.3: what Parse returns is valid, and comes back from its text, if that is not too long.
func TestParseShowParse(t *testing.T) {
	r := rand.New(rand.NewSource(84))
	count := 0
	for range 3000 {
		h, _, err := Parse(text(chanceLines(r)...))
		if err != api.OK {
			continue
		}
		count++
		checkRight(t, h, true)
		checkParse(t, mustShow(t, h), h)
	}
	if count < 1000 {
		t.Error(count)
	}
}

// behind is a list with others behind it in its capacity.
func behind[T any](list []T, others ...T) []T {
	n := len(list)
	return append(slices.Clone(list), others...)[:n]
}

// full is a history with all that stands in the capacities of its lists, in memory of its own.
func full(h api.Hist) api.Hist {
	h.Txns = slices.Clone(h.Txns[:cap(h.Txns)])
	for i, txn := range h.Txns {
		h.Txns[i].Writes, h.Txns[i].Reads = slices.Clone(txn.Writes[:cap(txn.Writes)]), slices.Clone(txn.Reads[:cap(txn.Reads)])
	}
	return h
}

// P8.1, P8.2: Right and Show leave a history as it is, with what stands behind it in the capacities of its lists, which they do not read either.
func TestLeavesHist(t *testing.T) {
	r := rand.New(rand.NewSource(85))
	counts := map[api.Errno]int{}
	for range 600 {
		h := chanceHist(r, 1+r.Intn(32), 1+r.Intn(16))
		if r.Intn(2) == 0 {
			spoil(r, h)
		}
		// What stands behind is wrong in each way; no capacity is a round number.
		for i, txn := range h.Txns {
			h.Txns[i].Writes, h.Txns[i].Reads = behind(txn.Writes, 3, -1, 16), behind(txn.Reads, take(3, -1), take(-1, 99), take(16, -2))
		}
		h.Txns = behind(h.Txns, api.Txn{Session: 8}, api.Txn{Writes: keys(5, 5)}, api.Txn{Session: 1})
		all := full(h)
		want := rightByWords(cloned(h))
		if got := Right(h); got != want {
			t.Fatalf("Right(%s) = %v, want %v", brief(h), got, want)
		}
		if !sameHist(full(h), all) {
			t.Fatalf("after Right: %v, was %v", full(h), all)
		}
		s, err := Show(h)
		if again, againErr := Show(cloned(h)); s != again || err != againErr {
			t.Fatalf("Show(%s) = %q, %v; of a copy %q, %v", brief(h), brief(s), err, brief(again), againErr)
		}
		counts[err]++
		if !sameHist(full(h), all) {
			t.Fatalf("after Show: %v, was %v", full(h), all)
		}
	}
	if counts[api.OK] < 50 || counts[api.ErrArg] < 50 || counts[api.ErrMany] < 10 {
		t.Error(counts)
	}
}

// fill puts v into a whole list, and behind it up to its capacity.
func fill[T any](list []T, v T) {
	list = list[:cap(list)]
	for i := range list {
		list[i] = v
	}
}

// P8.1: the lists of a history that Parse returns share no memory with each other, up to their capacities.
func TestParseListsApart(t *testing.T) {
	r := rand.New(rand.NewSource(86))
	for range 200 {
		s, err := Show(chanceHist(r, 1+r.Intn(20), 1+r.Intn(6)))
		if err != api.OK {
			continue
		}
		want := mustParse(t, s)
		for i := range want.Txns {
			for _, isOfWrites := range []bool{true, false} {
				got := mustParse(t, s)
				if isOfWrites {
					fill(got.Txns[i].Writes, -9)
					got.Txns[i].Writes = want.Txns[i].Writes
				} else {
					fill(got.Txns[i].Reads, take(-9, -9))
					got.Txns[i].Reads = want.Txns[i].Reads
				}
				if !sameHist(got, want) {
					t.Fatalf("with a list of %v filled: %v, was %v", i, got, want)
				}
			}
		}
	}
}

// P8.1: a history that Parse returns shares no memory with one that it returned earlier, nor with a history that was printed.
func TestParseNewMemory(t *testing.T) {
	r := rand.New(rand.NewSource(87))
	for range 200 {
		h := chanceHist(r, 1+r.Intn(20), 1+r.Intn(6))
		s, err := Show(h)
		if err != api.OK {
			continue
		}
		want := cloned(h)
		early, late := mustParse(t, s), mustParse(t, s)
		for _, txn := range late.Txns {
			fill(txn.Writes, -9)
			fill(txn.Reads, take(-9, -9))
		}
		fill(late.Txns, api.Txn{Session: -9})
		if !sameHist(early, want) || !sameHist(h, want) {
			t.Fatalf("histories %v and %v, were %v", early, h, want)
		}
		checkParse(t, s, want)
		checkShow(t, h, s)
	}
}

// P8.1, P8.2: an answer hangs on no earlier one.
func TestTwiceAsked(t *testing.T) {
	h := hist(api.Txn{Writes: keys(1)}, api.Txn{Session: 1, Reads: takes(take(1, 0))})
	s := text("begin 0", "write 0 1 1", "commit 0", "begin 1", "read 1 1 1", "commit 1")
	for range 3 {
		checkParse(t, s, h)
		checkWrong(t, text("begin 1", "read 1 1 1", "commit 1"), 1, api.ErrThin)
		checkShow(t, h, s)
		checkNoText(t, hist(h.Txns[1]), api.ErrArg)
		checkParse(t, "", api.Hist{})
		checkWrong(t, text("begin 0", "write 0 1 1", "commit 0", "begin 1", "read 1 1 2", "commit 1"), 4, api.ErrThin)
		checkRight(t, h, true)
		checkRight(t, hist(h.Txns[1], h.Txns[0]), false)
	}
}
