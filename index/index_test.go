package index

import (
	"fmt"
	"math/rand"
	"slices"
	"testing"

	"inquest/api"
	"inquest/hist"
)

const (
	least = -1 << 63
	most  = 1<<63 - 1
)

func history(l ...api.Txn) api.Hist { return api.Hist{Txns: l} }

func ints(l ...int) []int { return l }

func take(k, from int) api.Take { return api.Take{Key: k, From: from} }

func takes(l ...api.Take) []api.Take { return l }

func writer(l ...int) api.Txn { return api.Txn{Session: 4, Writes: l} }

func reader(l ...api.Take) api.Txn { return api.Txn{Session: 6, Reads: l} }

func choice(k, a, b int) api.Choice { return api.Choice{Key: k, A: a, B: b} }

// upTo are the numbers from 0 on that are less than n.
func upTo(n int) []int {
	var l []int
	for i := range n {
		l = append(l, i)
	}
	return l
}

// initials are Reads of the initial values of keys.
func initials(l ...int) []api.Take {
	var reads []api.Take
	for _, k := range l {
		reads = append(reads, take(k, -1))
	}
	return reads
}

// noKeys are numbers that are no keys; the last ones are keys where only their last bits are looked at.
func noKeys() []int {
	return ints(least, least+1, -16, -2, -1, 16, 17, 31, 32, 1<<32, 1<<32+4, 1<<32-1, most-1, most)
}

// noNumbers are numbers that no transaction of a history of n has; -1 is among them.
func noNumbers(n int) []int {
	return ints(least, least+1, -3, -2, -1, n, n+1, n+2, 99, 1<<32, 1<<32+1, 1<<32-1, most-1, most)
}

// brief is how a value is printed where a test fails; long ones are cut off.
func brief(v any) string { return fmt.Sprintf("%.600s", fmt.Sprint(v)) }

func sameTxn(a, b api.Txn) bool {
	return a.Session == b.Session && slices.Equal(a.Writes, b.Writes) && slices.Equal(a.Reads, b.Reads)
}

func sameHist(a, b api.Hist) bool { return slices.EqualFunc(a.Txns, b.Txns, sameTxn) }

// cloned is a history with lists of its own.
func cloned(h api.Hist) api.Hist {
	h.Txns = slices.Clone(h.Txns)
	for i, txn := range h.Txns {
		h.Txns[i].Writes, h.Txns[i].Reads = slices.Clone(txn.Writes), slices.Clone(txn.Reads)
	}
	return h
}

// mustBeRight ends a test whose history is valid, or not, otherwise than the test means it to be.
func mustBeRight(t *testing.T, h api.Hist, want bool) {
	t.Helper()
	if hist.Right(h) != want {
		t.Fatalf("Right(%s) is not %v", brief(h), want)
	}
}

func checkWriters(t *testing.T, h api.Hist, key int, want ...int) {
	t.Helper()
	if got := Writers(h, key); !slices.Equal(got, want) {
		t.Fatalf("Writers(%s, %v) = %v, want %v", brief(h), key, got, want)
	}
}

func checkReaders(t *testing.T, h api.Hist, key, from int, want ...int) {
	t.Helper()
	if got := Readers(h, key, from); !slices.Equal(got, want) {
		t.Fatalf("Readers(%s, %v, %v) = %v, want %v", brief(h), key, from, got, want)
	}
}

func checkKeys(t *testing.T, h api.Hist, want ...int) {
	t.Helper()
	if got := Keys(h); !slices.Equal(got, want) {
		t.Fatalf("Keys(%s) = %v, want %v", brief(h), got, want)
	}
}

func checkFrom(t *testing.T, h api.Hist, number, key, want int, wantIs bool) {
	t.Helper()
	if got, is := From(h, number, key); got != want || is != wantIs {
		t.Fatalf("From(%s, %v, %v) = %v, %v, want %v, %v", brief(h), number, key, got, is, want, wantIs)
	}
}

func checkNoFrom(t *testing.T, h api.Hist, number, key int) {
	t.Helper()
	checkFrom(t, h, number, key, 0, false)
}

func checkPairs(t *testing.T, h api.Hist, want ...api.Choice) {
	t.Helper()
	if got := Pairs(h); !slices.Equal(got, want) {
		t.Fatalf("Pairs(%s) = %s, want %s", brief(h), brief(got), brief(want))
	}
}

// writersByWords, readersByWords, keysByWords, fromByWords and pairsByWords are what the functions return of a valid history, by the chapter's words.
func writersByWords(h api.Hist, key int) []int {
	var l []int
	for number := 0; number < len(h.Txns); number++ {
		for _, k := range h.Txns[number].Writes {
			if k == key {
				l = append(l, number)
			}
		}
	}
	return l
}

func readersByWords(h api.Hist, key, from int) []int {
	var l []int
	for number := 0; number < len(h.Txns); number++ {
		for _, read := range h.Txns[number].Reads {
			if read == take(key, from) {
				l = append(l, number)
			}
		}
	}
	return l
}

func keysByWords(h api.Hist) []int {
	var l []int
	for _, txn := range h.Txns {
		l = append(l, txn.Writes...)
	}
	slices.Sort(l)
	return slices.Compact(l)
}

func fromByWords(h api.Hist, number, key int) (int, bool) {
	if number < 0 || number >= len(h.Txns) {
		return 0, false
	}
	at := slices.IndexFunc(h.Txns[number].Reads, func(read api.Take) bool { return read.Key == key })
	if at < 0 {
		return 0, false
	}
	return h.Txns[number].Reads[at].From, true
}

func pairsByWords(h api.Hist) []api.Choice {
	var l []api.Choice
	for k := 0; k <= 15; k++ {
		for b := range h.Txns {
			for a := range b {
				if slices.Contains(h.Txns[a].Writes, k) && slices.Contains(h.Txns[b].Writes, k) {
					l = append(l, choice(k, a, b))
				}
			}
		}
	}
	slices.SortFunc(l, func(x, y api.Choice) int {
		if x.Key != y.Key {
			return x.Key - y.Key
		}
		if x.A != y.A {
			return x.A - y.A
		}
		return x.B - y.B
	})
	return l
}

// checkByWords holds all five functions against the chapter's words, for all keys, numbers and Froms, and for some that are none.
func checkByWords(t *testing.T, h api.Hist) {
	t.Helper()
	mustBeRight(t, h, true)
	checkKeys(t, h, keysByWords(h)...)
	checkPairs(t, h, pairsByWords(h)...)
	numbers := append(upTo(len(h.Txns)), noNumbers(len(h.Txns))...)
	for _, k := range append(upTo(16), noKeys()...) {
		checkWriters(t, h, k, writersByWords(h, k)...)
		for _, n := range numbers {
			checkReaders(t, h, k, n, readersByWords(h, k, n)...)
			from, is := fromByWords(h, n, k)
			checkFrom(t, h, n, k, from, is)
		}
	}
}

// checkNothing holds that all five functions return zero values of a history that is not valid, whatever they are asked.
func checkNothing(t *testing.T, h api.Hist) {
	t.Helper()
	mustBeRight(t, h, false)
	checkKeys(t, h)
	checkPairs(t, h)
	for _, k := range append(upTo(16), -2, -1, 16, 17, least, most) {
		checkWriters(t, h, k)
		for n := -3; n < len(h.Txns)+3; n++ {
			checkReaders(t, h, k, n)
			checkNoFrom(t, h, n, k)
		}
		for _, n := range ints(least, most) {
			checkReaders(t, h, k, n)
			checkNoFrom(t, h, n, k)
		}
	}
}

// rich is a valid history of which each function has something to tell: n transactions, each of which writes all keys and reads each of them from the one ahead of it, the first one from nobody.
func rich(n int) api.Hist {
	var h api.Hist
	for number := range n {
		txn := api.Txn{Session: number % 8, Writes: upTo(16)}
		for k := range 16 {
			txn.Reads = append(txn.Reads, take(k, number-1))
		}
		h.Txns = append(h.Txns, txn)
	}
	return h
}

// checkWrongAnywhere holds that nothing is told of a history in which any one transaction is wrong as told, among others that are right.
func checkWrongAnywhere(t *testing.T, name string, wrong func(txn *api.Txn, number, count int)) {
	t.Helper()
	for _, n := range ints(2, 3, 5) {
		for number := range n {
			h := rich(n)
			mustBeRight(t, h, true)
			wrong(&h.Txns[number], number, n)
			if hist.Right(h) {
				t.Fatalf("%s, %v of %v: valid", name, number, n)
			}
			checkNothing(t, h)
		}
	}
}

// P9.1, P9.2: nothing is told of more than MaxTxns transactions.
func TestWrongMany(t *testing.T) {
	for _, n := range ints(33, 34, 64) {
		checkNothing(t, rich(n))
		checkNothing(t, api.Hist{Txns: make([]api.Txn, n)})
	}
	checkNothing(t, history(append(rich(32).Txns, api.Txn{})...))
	checkByWords(t, rich(32))
}

// P9.1, P9.2: nothing is told if a Session is none.
func TestWrongSession(t *testing.T) {
	for _, s := range ints(least, -2, -1, 8, 9, 1<<32, most) {
		checkWrongAnywhere(t, fmt.Sprint("session ", s), func(txn *api.Txn, _, _ int) { txn.Session = s })
	}
}

// wrongKeys are lists of keys that may not be: with numbers that are no keys, with the same twice, with decreasing ones.
func wrongKeys() [][]int {
	return [][]int{
		append(ints(-1), upTo(16)...), append(upTo(16), 16), append(upTo(16), most), append(ints(least), upTo(16)...), append(upTo(16), 17),
		append(ints(0), upTo(16)...), append(upTo(16), 15), append(upTo(16), 0), slices.Insert(upTo(16), 8, 8), slices.Insert(upTo(16), 8, 7),
		append(ints(1, 0), upTo(16)[2:]...), append(upTo(14), 15, 14), append(upTo(16)[1:], 0), append(ints(15), upTo(15)...),
		append(append(upTo(7), 8, 7), upTo(16)[9:]...),
	}
}

// P9.1, P9.2: nothing is told if Writes are no keys, or not in increasing order.
func TestWrongWrites(t *testing.T) {
	for _, l := range wrongKeys() {
		checkWrongAnywhere(t, fmt.Sprint("writes ", l), func(txn *api.Txn, _, _ int) { txn.Writes = l })
	}
	for _, l := range [][]int{{-1}, {16}, {least}, {most}, {4, 4}, {4, 3}, {15, 0}} {
		// Alone, and beside others that have nothing to do with it.
		checkNothing(t, history(writer(l...)))
		checkNothing(t, history(writer(l...), writer(4), writer(4), reader(take(4, 1))))
		checkNothing(t, history(writer(4), writer(4), reader(take(4, 1)), writer(l...)))
	}
}

// P9.1, P9.2: nothing is told if the keys of Reads are none, or not in increasing order.
func TestWrongReads(t *testing.T) {
	for _, l := range wrongKeys() {
		checkWrongAnywhere(t, fmt.Sprint("reads ", l), func(txn *api.Txn, number, _ int) {
			txn.Reads = nil
			for _, k := range l {
				txn.Reads = append(txn.Reads, take(k, number-1))
			}
		})
		checkWrongAnywhere(t, fmt.Sprint("reads of nobody's ", l), func(txn *api.Txn, _, _ int) { txn.Reads = initials(l...) })
	}
	for _, l := range [][]int{{-1}, {16}, {least}, {most}, {4, 4}, {4, 3}, {15, 0}} {
		checkNothing(t, history(reader(initials(l...)...)))
		checkNothing(t, history(reader(initials(l...)...), writer(4), writer(4), reader(take(4, 1))))
		checkNothing(t, history(writer(4), writer(4), reader(take(4, 1)), reader(initials(l...)...)))
	}
}

// P9.1, P9.2: nothing is told if a Read is from what is no number of a transaction, or from its own one.
func TestWrongFrom(t *testing.T) {
	for _, k := range ints(0, 4, 15) {
		for _, from := range ints(least, -3, -2, 32, 33, 1<<32, most) {
			checkWrongAnywhere(t, fmt.Sprint("from ", from), func(txn *api.Txn, _, _ int) { txn.Reads[k].From = from })
		}
		for beyond := range 4 {
			checkWrongAnywhere(t, fmt.Sprint("from the count and ", beyond), func(txn *api.Txn, _, count int) { txn.Reads[k].From = count + beyond })
		}
		checkWrongAnywhere(t, "from itself", func(txn *api.Txn, number, _ int) { txn.Reads[k].From = number })
		checkWrongAnywhere(t, "from itself, which does not write it", func(txn *api.Txn, number, _ int) {
			// Those that read from it would be wrong, too: it is not the only fault then.
			txn.Reads[k].From = number
			txn.Writes = slices.Delete(txn.Writes, k, k+1)
		})
	}
}

// P9.1, P9.2: nothing is told if a Read is from a transaction that does not have the key among its Writes.
func TestWrongFromNoWriter(t *testing.T) {
	for _, k := range ints(0, 4, 15) {
		for number := range 4 {
			h := rich(5)
			h.Txns[number].Writes = slices.Delete(h.Txns[number].Writes, k, k+1)
			checkNothing(t, h)
		}
		for _, writes := range [][]int{nil, {(k + 1) % 16}, slices.Delete(upTo(16), k, k+1)} {
			checkNothing(t, history(writer(writes...), reader(take(k, 0)), writer(k), writer(k)))
			checkNothing(t, history(writer(k), reader(take(k, 0)), reader(take(k, 3)), writer(writes...), writer(k)))
		}
	}
}

// P9.1, P9.2: of no transaction, and of transactions without anything, nothing is told.
func TestNothing(t *testing.T) {
	for _, h := range []api.Hist{{}, {Txns: []api.Txn{}}, history(api.Txn{}), history(api.Txn{Session: 7, Writes: ints(), Reads: takes()}), {Txns: make([]api.Txn, 32)}} {
		checkByWords(t, h)
		checkKeys(t, h)
		checkPairs(t, h)
		for k := -2; k < 18; k++ {
			checkWriters(t, h, k)
			for n := -2; n < 34; n++ {
				checkReaders(t, h, k, n)
				checkNoFrom(t, h, n, k)
			}
		}
	}
}

// P9.1: a key without a writer, with one, with two, with 32; the least and the greatest key.
func TestWriters(t *testing.T) {
	for _, k := range ints(0, 1, 7, 14, 15) {
		other := (k + 3) % 16
		checkWriters(t, history(writer(other), reader(take(k, -1))), k)
		checkWriters(t, history(reader(take(k, -1)), reader(take(k, -1))), k)
		checkWriters(t, history(writer(k)), k, 0)
		checkWriters(t, history(writer(other), writer(k)), k, 1)
		checkWriters(t, history(writer(k), writer(other), writer(k)), k, 0, 2)
		checkWriters(t, history(writer(), writer(k), writer(k)), k, 1, 2)
		var h api.Hist
		for range 32 {
			h.Txns = append(h.Txns, writer(k))
		}
		checkWriters(t, h, k, upTo(32)...)
		checkWriters(t, h, other)
		h.Txns[17].Writes = ints(other)
		checkWriters(t, h, k, slices.Delete(upTo(32), 17, 18)...)
		checkWriters(t, h, other, 17)
	}
	// Each of many keys of one transaction, first and last ones.
	many := history(writer(upTo(16)...), writer(0, 15), writer(upTo(16)...))
	for k := 1; k < 15; k++ {
		checkWriters(t, many, k, 0, 2)
	}
	checkWriters(t, many, 0, 0, 1, 2)
	checkWriters(t, many, 15, 0, 1, 2)
	// A key that is read from its writer only.
	checkWriters(t, history(writer(4), reader(take(4, 0)), reader(take(4, 0))), 4, 0)
	checkWriters(t, history(writer(4), api.Txn{Writes: ints(4), Reads: takes(take(4, 0))}), 4, 0, 1)
}

// P9.1: what is no key has no writers.
func TestWritersOfNoKey(t *testing.T) {
	for _, h := range []api.Hist{{}, rich(1), rich(2), rich(32), history(writer(0)), history(writer(15)), history(writer(0, 15), reader(take(0, 0), take(15, -1)))} {
		for _, k := range noKeys() {
			checkWriters(t, h, k)
		}
	}
}

// P9.1: readers of the initial value, with and without a writer of the key.
func TestReadersOfInitial(t *testing.T) {
	for _, k := range ints(0, 1, 7, 14, 15) {
		other := (k + 3) % 16
		checkReaders(t, history(reader(take(k, -1))), k, -1, 0)
		checkReaders(t, history(writer(), reader(take(k, -1))), k, -1, 1)
		checkReaders(t, history(writer(k), reader(take(k, -1)), reader(take(k, -1))), k, -1, 1, 2)
		checkReaders(t, history(reader(take(k, -1)), writer(k), reader(take(k, 1)), reader(take(k, -1))), k, -1, 0, 3)
		checkReaders(t, history(reader(take(k, -1)), writer(k), reader(take(k, 1)), reader(take(k, -1))), k, 1, 2)
		checkReaders(t, history(writer(k), reader(take(k, 0))), k, -1)
		checkReaders(t, history(writer(k), reader(take(other, -1))), k, -1)
		// One that writes the key itself, too.
		checkReaders(t, history(api.Txn{Writes: ints(k), Reads: initials(k)}), k, -1, 0)
		checkReaders(t, history(api.Txn{Writes: ints(k), Reads: initials(k)}), k, 0)
		h := api.Hist{Txns: slices.Repeat([]api.Txn{reader(take(k, -1))}, 32)}
		checkReaders(t, h, k, -1, upTo(32)...)
		checkReaders(t, h, other, -1)
	}
}

// P9.1: readers from a transaction that has none, one and many, ahead of it and behind it.
func TestReaders(t *testing.T) {
	for _, k := range ints(0, 1, 7, 14, 15) {
		other := (k + 3) % 16
		checkReaders(t, history(writer(k)), k, 0)
		checkReaders(t, history(writer(k), reader(take(k, 0))), k, 0, 1)
		checkReaders(t, history(reader(take(k, 1)), writer(k)), k, 1, 0)
		checkReaders(t, history(reader(take(k, 1)), writer(k), writer(k), reader(take(k, 2)), reader(take(k, 1))), k, 1, 0, 4)
		checkReaders(t, history(reader(take(k, 1)), writer(k), writer(k), reader(take(k, 2)), reader(take(k, 1))), k, 2, 3)
		// Two that read from each other.
		two := history(api.Txn{Writes: ints(k), Reads: takes(take(k, 1))}, api.Txn{Writes: ints(k), Reads: takes(take(k, 0))})
		checkReaders(t, two, k, 0, 1)
		checkReaders(t, two, k, 1, 0)
		// The same two, of another key.
		both := ints(min(k, other), max(k, other))
		apart := history(writer(both...), reader(take(k, 0)), reader(take(other, 0)), reader(take(both[0], 0), take(both[1], 0)))
		checkReaders(t, apart, k, 0, 1, 3)
		checkReaders(t, apart, other, 0, 2, 3)
		checkReaders(t, apart, (k+5)%16, 0)
		// All others.
		for from := range 32 {
			h := api.Hist{Txns: slices.Repeat([]api.Txn{reader(take(k, from))}, 32)}
			h.Txns[from] = writer(k)
			checkReaders(t, h, k, from, slices.Delete(upTo(32), from, from+1)...)
			checkReaders(t, h, k, (from+1)%32)
			checkReaders(t, h, k, -1)
		}
	}
}

// P9.1: nobody reads from what is no number of a transaction, nor what is no key.
func TestReadersOfNone(t *testing.T) {
	for _, n := range ints(0, 1, 2, 3, 31, 32) {
		h := rich(n)
		for k := range 16 {
			for _, from := range noNumbers(n) {
				if from != -1 {
					checkReaders(t, h, k, from)
				}
			}
			// Nobody reads from the last one either.
			checkReaders(t, h, k, n-1)
		}
		for _, k := range noKeys() {
			for from := -2; from <= n; from++ {
				checkReaders(t, h, k, from)
			}
		}
	}
}

// P9.1: the keys that are written: none, one, all; each once, rising, whoever writes them first.
func TestKeys(t *testing.T) {
	checkKeys(t, api.Hist{})
	checkKeys(t, history(api.Txn{}, reader(initials(upTo(16)...)...)))
	for k := range 16 {
		checkKeys(t, history(writer(k)), k)
		checkKeys(t, history(writer(k), writer(k), writer(k)), k)
		checkKeys(t, history(api.Txn{}, reader(take(k, 2)), writer(k)), k)
		// What is read only is not told.
		checkKeys(t, history(reader(initials(upTo(16)...)...), writer(k)), k)
	}
	checkKeys(t, history(writer(upTo(16)...)), upTo(16)...)
	checkKeys(t, rich(32), upTo(16)...)
	checkKeys(t, history(writer(0, 15)), 0, 15)
	checkKeys(t, history(writer(9), writer(4), writer(12)), 4, 9, 12)
	checkKeys(t, history(writer(9, 12), writer(4, 12), writer(9)), 4, 9, 12)
	// The first writer is the last transaction.
	var h api.Hist
	for k := range 16 {
		h.Txns = append(h.Txns, writer(15-k))
	}
	checkKeys(t, h, upTo(16)...)
	checkKeys(t, history(writer(15), writer(15), writer(0)), 0, 15)
	last := api.Hist{Txns: make([]api.Txn, 32)}
	last.Txns[31] = writer(0, 3, 15)
	checkKeys(t, last, 0, 3, 15)
	last.Txns[0] = writer(8)
	checkKeys(t, last, 0, 3, 8, 15)
}

// P9.1: From of each transaction with each key.
func TestFrom(t *testing.T) {
	h := history(
		writer(0, 4),
		api.Txn{Session: 1, Writes: ints(4), Reads: takes(take(0, -1), take(4, 0), take(15, 3))},
		api.Txn{},
		api.Txn{Writes: ints(15), Reads: takes(take(4, 1))},
		reader(take(0, 0), take(1, -1), take(15, -1)))
	mustBeRight(t, h, true)
	want := map[[2]int]int{{1, 0}: -1, {1, 4}: 0, {1, 15}: 3, {3, 4}: 1, {4, 0}: 0, {4, 1}: -1, {4, 15}: -1}
	for number := range 5 {
		for k := range 16 {
			from, is := want[[2]int{number, k}]
			checkFrom(t, h, number, k, from, is)
		}
		for _, k := range noKeys() {
			checkNoFrom(t, h, number, k)
		}
	}
	for _, number := range noNumbers(5) {
		for k := -1; k < 17; k++ {
			checkNoFrom(t, h, number, k)
		}
	}
}

// P9.1: From of a Read of the initial value, of a key that is only written, of a transaction without Reads.
func TestFromEdges(t *testing.T) {
	for k := range 16 {
		checkFrom(t, history(reader(take(k, -1))), 0, k, -1, true)
		checkFrom(t, history(writer(k), api.Txn{Writes: ints(k), Reads: initials(k)}), 1, k, -1, true)
		checkFrom(t, history(writer(k), reader(take(k, 0))), 1, k, 0, true)
		checkFrom(t, history(reader(take(k, 1)), writer(k)), 0, k, 1, true)
		checkNoFrom(t, history(writer(k)), 0, k)
		checkNoFrom(t, history(writer(k), reader(take(k, 0))), 0, k)
		checkNoFrom(t, history(writer(k), api.Txn{Writes: ints(k), Reads: initials((k + 1) % 16)}), 1, k)
		checkNoFrom(t, history(reader(take(k, -1)), api.Txn{}), 1, k)
		checkNoFrom(t, history(reader(take(k, -1))), 1, k)
		checkNoFrom(t, history(reader(take(k, -1))), -1, k)
		checkNoFrom(t, api.Hist{}, 0, k)
		checkNoFrom(t, api.Hist{}, -1, k)
	}
	h := rich(32)
	for number := range 32 {
		for k := range 16 {
			checkFrom(t, h, number, k, number-1, true)
		}
	}
	for _, number := range noNumbers(32) {
		checkNoFrom(t, h, number, 4)
	}
}

// P9.2: the chapter's example, with nothing and with other keys beside it.
func TestPairsExample(t *testing.T) {
	h := api.Hist{Txns: make([]api.Txn, 6)}
	for _, number := range ints(0, 2, 5) {
		h.Txns[number] = writer(4)
	}
	checkPairs(t, h, choice(4, 0, 2), choice(4, 0, 5), choice(4, 2, 5))
	checkWriters(t, h, 4, 0, 2, 5)
	h.Txns[1], h.Txns[3], h.Txns[4] = writer(3), writer(5, 9), reader(take(4, 5), take(9, -1))
	checkPairs(t, h, choice(4, 0, 2), choice(4, 0, 5), choice(4, 2, 5))
}

// P9.2: no pair where no key has two writers.
func TestNoPairs(t *testing.T) {
	checkPairs(t, api.Hist{})
	checkPairs(t, history(api.Txn{}, api.Txn{}))
	checkPairs(t, rich(1))
	checkPairs(t, history(reader(initials(4)...), reader(initials(4)...)))
	checkPairs(t, history(writer(4), reader(take(4, 0)), reader(take(4, 0))))
	checkPairs(t, history(writer(4), api.Txn{Writes: ints(5), Reads: takes(take(4, 0))}))
	var h api.Hist
	for k := range 16 {
		h.Txns = append(h.Txns, writer(k), reader(take(k, 2*k)))
	}
	checkPairs(t, h)
}

// P9.2: pairs stand by key, then by A, then by B; two keys with the same two writers have a pair each.
func TestPairs(t *testing.T) {
	for k := range 16 {
		checkPairs(t, history(writer(k), writer(k)), choice(k, 0, 1))
		checkPairs(t, history(api.Txn{}, writer(k), writer((k+1)%16), writer(k)), choice(k, 1, 3))
	}
	checkPairs(t, history(writer(0, 15), writer(0, 15)), choice(0, 0, 1), choice(15, 0, 1))
	checkPairs(t, history(writer(3, 9), writer(), writer(3, 9)), choice(3, 0, 2), choice(9, 0, 2))
	// The lesser key has the later writers.
	checkPairs(t, history(writer(9), writer(9), writer(3), writer(3)), choice(3, 2, 3), choice(9, 0, 1))
	checkPairs(t, history(writer(9), writer(3, 9), writer(3), writer(0), writer(0, 3)),
		choice(0, 3, 4), choice(3, 1, 2), choice(3, 1, 4), choice(3, 2, 4), choice(9, 0, 1))
	checkPairs(t, history(writer(7), writer(7), writer(7), writer(7)),
		choice(7, 0, 1), choice(7, 0, 2), choice(7, 0, 3), choice(7, 1, 2), choice(7, 1, 3), choice(7, 2, 3))
	// That the sessions or the Reads tell an order changes nothing.
	checkPairs(t, history(api.Txn{Session: 1, Writes: ints(7), Reads: takes(take(7, 1))}, api.Txn{Session: 1, Writes: ints(7)}), choice(7, 0, 1))
}

// P9.2, P9.3: 32 writers of all sixteen keys.
func TestPairsMost(t *testing.T) {
	h := rich(32)
	got := Pairs(h)
	if len(got) != 16*32*31/2 {
		t.Fatalf("%v pairs", len(got))
	}
	at := 0
	for k := range 16 {
		for a := range 32 {
			for b := a + 1; b < 32; b++ {
				if got[at] != choice(k, a, b) {
					t.Fatalf("%v at %v, want %v", got[at], at, choice(k, a, b))
				}
				at++
			}
		}
	}
	checkPairs(t, api.Hist{Txns: slices.Repeat([]api.Txn{writer(upTo(16)...)}, 32)}, got...)
}

// P9.3: a key with m writers has m * (m - 1) / 2 pairs, for each m.
func TestPairsCount(t *testing.T) {
	for m := range 33 {
		for _, k := range ints(0, 4, 15) {
			h := api.Hist{Txns: make([]api.Txn, 32)}
			for i := range m {
				h.Txns[i*5%32].Writes = ints(k)
			}
			if got := Pairs(h); len(got) != m*(m-1)/2 || len(Writers(h, k)) != m {
				t.Fatalf("%v writers of %v: %v pairs, %v writers", m, k, len(got), len(Writers(h, k)))
			}
		}
	}
}

// checkCounts holds P9.3 of a history: how many pairs each key has, and that Readers returns each Read exactly once, with the From that From returns.
func checkCounts(t *testing.T, h api.Hist) {
	t.Helper()
	pairs := map[int]int{}
	for _, p := range Pairs(h) {
		pairs[p.Key]++
	}
	type read struct{ number, key, from int }
	count := map[read]int{}
	for k := range 16 {
		if m := len(Writers(h, k)); pairs[k] != m*(m-1)/2 || slices.Contains(Keys(h), k) != (m > 0) {
			t.Fatalf("%s: key %v has %v writers and %v pairs; keys %v", brief(h), k, m, pairs[k], Keys(h))
		}
		for from := -1; from < len(h.Txns); from++ {
			for _, number := range Readers(h, k, from) {
				count[read{number, k, from}]++
				checkFrom(t, h, number, k, from, true)
			}
		}
	}
	total := 0
	for number, txn := range h.Txns {
		for _, r := range txn.Reads {
			total++
			if n := count[read{number, r.Key, r.From}]; n != 1 {
				t.Fatalf("%s: the Read %v of %v is told %v times", brief(h), r, number, n)
			}
		}
	}
	if len(count) != total {
		t.Fatalf("%s: %v Reads are told, want %v", brief(h), len(count), total)
	}
}

// chanceKeys are keys by chance, rising.
func chanceKeys(r *rand.Rand, keyCount int) []int {
	l := r.Perm(keyCount)[:r.Intn(keyCount+1)]
	for i := range l {
		// Few keys are great ones half the time, so that each end of them is reached.
		l[i] += (16 - keyCount) * (keyCount % 2)
	}
	slices.Sort(l)
	return l
}

// chanceHist is a valid history by chance.
func chanceHist(r *rand.Rand, n, keyCount int) api.Hist {
	var h api.Hist
	for range n {
		h.Txns = append(h.Txns, api.Txn{Session: r.Intn(8), Writes: chanceKeys(r, keyCount)})
	}
	for i := range h.Txns {
		for _, k := range chanceKeys(r, keyCount) {
			from := r.Intn(n)
			if from == i || !slices.Contains(h.Txns[from].Writes, k) {
				from = -1
			}
			h.Txns[i].Reads = append(h.Txns[i].Reads, take(k, from))
		}
	}
	return h
}

// spoil changes one thing of a history by chance.
func spoil(r *rand.Rand, h api.Hist) {
	txn := &h.Txns[r.Intn(len(h.Txns))]
	switch r.Intn(7) {
	case 0:
		txn.Session = r.Intn(10) - 1
	case 1:
		txn.Writes = slices.Insert(txn.Writes, r.Intn(len(txn.Writes)+1), r.Intn(18)-1)
	case 2:
		txn.Reads = slices.Insert(txn.Reads, r.Intn(len(txn.Reads)+1), take(r.Intn(18)-1, -1))
	case 3, 4:
		if len(txn.Reads) > 0 {
			txn.Reads[r.Intn(len(txn.Reads))].From = r.Intn(len(h.Txns)+3) - 2
		}
	default:
		if len(txn.Writes) > 0 {
			i := r.Intn(len(txn.Writes))
			txn.Writes = slices.Delete(txn.Writes, i, i+1)
		}
	}
}

// P9.1, P9.2, P9.3: histories by chance, right ones and such that were spoilt, held against the chapter's words.
func TestByChance(t *testing.T) {
	r := rand.New(rand.NewSource(91))
	counts := map[bool]int{}
	for range 400 {
		h := chanceHist(r, 1+r.Intn(32), 1+r.Intn(16))
		for range 3 {
			right := hist.Right(h)
			counts[right]++
			if right {
				checkByWords(t, h)
				checkCounts(t, h)
			} else {
				checkNothing(t, h)
			}
			spoil(r, h)
		}
	}
	if counts[true] < 400 || counts[false] < 200 {
		t.Error(counts)
	}
}

// shortLists are all lists of up to n of these.
func shortLists[T any](each []T, n int) [][]T {
	all := [][]T{nil}
	last := all
	for range n {
		var next [][]T
		for _, l := range last {
			for _, v := range each {
				next = append(next, append(slices.Clone(l), v))
			}
		}
		all, last = append(all, next...), next
	}
	return all
}

// P9.1, P9.2, P9.3: all histories of two transactions with up to two Writes and one Read each, of two keys, and some of three.
func TestAllShort(t *testing.T) {
	var reads []api.Take
	for k := range 2 {
		for from := -2; from <= 2; from++ {
			reads = append(reads, take(k, from))
		}
	}
	var txns []api.Txn
	for _, w := range shortLists(ints(0, 1), 2) {
		for _, r := range shortLists(reads, 1) {
			txns = append(txns, api.Txn{Session: len(txns) % 2, Writes: w, Reads: r})
		}
	}
	counts := map[bool]int{}
	check := func(h api.Hist) {
		right := hist.Right(h)
		counts[right]++
		if right {
			checkByWords(t, h)
			checkCounts(t, h)
		} else {
			checkNothing(t, h)
		}
	}
	for i, a := range txns {
		check(history(a))
		for j, b := range txns {
			check(history(a, b))
			check(history(a, b, txns[(7*i+11*j)%len(txns)]))
		}
	}
	if counts[true] < 300 || counts[false] < 1000 {
		t.Error(counts)
	}
}

// behind is a list with others behind it in its capacity.
func behind[T any](list []T, others ...T) []T {
	n := len(list)
	return append(slices.Clone(list), others...)[:n]
}

// full is a history with all that stands in the capacities of its lists, in memory of its own.
func full(h api.Hist) api.Hist {
	h.Txns = slices.Clone(h.Txns[:cap(h.Txns)])
	for i, txn := range h.Txns {
		h.Txns[i].Writes, h.Txns[i].Reads = slices.Clone(txn.Writes[:cap(txn.Writes)]), slices.Clone(txn.Reads[:cap(txn.Reads)])
	}
	return h
}

// fill puts v into a whole list, and behind it up to its capacity.
func fill[T any](list []T, v T) {
	list = list[:cap(list)]
	for i := range list {
		list[i] = v
	}
}

// crowded is a history with others behind it in the capacities of its lists, which would be told if they were read.
func crowded(h api.Hist) api.Hist {
	h = cloned(h)
	for i, txn := range h.Txns {
		h.Txns[i].Writes, h.Txns[i].Reads = behind(txn.Writes, 3, 7, 16), behind(txn.Reads, take(3, -1), take(7, 0), take(16, -2))
	}
	h.Txns = behind(h.Txns, writer(upTo(16)...), reader(initials(upTo(16)...)...), api.Txn{Session: 8})
	return h
}

// askAll calls each function, with keys and numbers that are some and that are none, and fills what it returns, behind it too.
func askAll(h api.Hist) {
	fill(Keys(h), -9)
	fill(Pairs(h), choice(-9, -9, -9))
	for k := -1; k < 17; k++ {
		fill(Writers(h, k), -9)
		for n := -2; n < len(h.Txns)+2; n++ {
			fill(Readers(h, k, n), -9)
			From(h, n, k)
		}
	}
}

// P9.1, P9.2: the functions leave a history as it is, with what stands behind it in the capacities of its lists, which they do not read either; what they return shares no memory with it.
func TestLeavesHist(t *testing.T) {
	r := rand.New(rand.NewSource(92))
	counts := map[bool]int{}
	for range 200 {
		h := chanceHist(r, 1+r.Intn(32), 1+r.Intn(16))
		if r.Intn(3) == 0 {
			spoil(r, h)
		}
		h = crowded(h)
		all := full(h)
		askAll(h)
		if !sameHist(full(h), all) {
			t.Fatalf("%s, was %s", brief(full(h)), brief(all))
		}
		right := hist.Right(h)
		counts[right]++
		if right {
			checkByWords(t, h)
		} else {
			checkNothing(t, h)
		}
		if !sameHist(full(h), all) {
			t.Fatalf("%s, was %s", brief(full(h)), brief(all))
		}
	}
	if counts[true] < 100 || counts[false] < 20 {
		t.Error(counts)
	}
}

// P9.1, P9.2: what was returned does not change with the history, nor with what is returned later.
func TestNewMemory(t *testing.T) {
	h := crowded(rich(6))
	keys, pairs, writers, readers := Keys(h), Pairs(h), Writers(h, 3), Readers(h, 3, 2)
	askAll(h)
	for _, txn := range h.Txns {
		fill(txn.Writes, -9)
		fill(txn.Reads, take(-9, -9))
	}
	fill(h.Txns, api.Txn{Session: -9})
	askAll(h)
	if !slices.Equal(keys, upTo(16)) || !slices.Equal(pairs, pairsByWords(rich(6))) || !slices.Equal(writers, upTo(6)) || !slices.Equal(readers, ints(3)) {
		t.Error(keys, pairs, writers, readers)
	}
}

// P9.1, P9.2: an answer hangs on no earlier one.
func TestTwiceAsked(t *testing.T) {
	one, other := history(writer(4), writer(4), reader(take(4, 0))), history(writer(9), reader(take(4, -1), take(9, 0)), writer(9))
	wrong := history(writer(4), writer(4), reader(take(4, 2)))
	for range 3 {
		checkWriters(t, one, 4, 0, 1)
		checkWriters(t, other, 4)
		checkNothing(t, wrong)
		checkReaders(t, one, 4, 0, 2)
		checkReaders(t, other, 4, 0)
		checkReaders(t, other, 4, -1, 1)
		checkKeys(t, one, 4)
		checkKeys(t, other, 9)
		checkFrom(t, one, 2, 4, 0, true)
		checkNoFrom(t, other, 2, 4)
		checkPairs(t, one, choice(4, 0, 1))
		checkPairs(t, other, choice(9, 0, 2))
		checkByWords(t, one)
		checkByWords(t, other)
	}
}
