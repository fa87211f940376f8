package edge

import (
	"fmt"
	"math/rand"
	"slices"
	"testing"

	"inquest/api"
	"inquest/choice"
	"inquest/cycle"
	"inquest/graph"
	"inquest/hist"
)

const (
	least = -1 << 63
	most  = 1<<63 - 1
)

func history(l ...api.Txn) api.Hist { return api.Hist{Txns: l} }

func ints(l ...int) []int { return l }

func take(k, from int) api.Take { return api.Take{Key: k, From: from} }

func takes(l ...api.Take) []api.Take { return l }

func chosenAs(k, a, b int) api.Choice { return api.Choice{Key: k, A: a, B: b} }

func choices(l ...api.Choice) []api.Choice { return l }

// writer, reader and both are transactions of three sessions.
func writer(l ...int) api.Txn { return api.Txn{Session: 4, Writes: l} }

func reader(l ...api.Take) api.Txn { return api.Txn{Session: 6, Reads: l} }

func both(writes []int, l ...api.Take) api.Txn {
	return api.Txn{Session: 5, Writes: writes, Reads: l}
}

// apart is a history of these transactions, of which the first eight are of sessions of their own.
func apart(l ...api.Txn) api.Hist {
	h := api.Hist{Txns: slices.Clone(l)}
	for i := range h.Txns {
		h.Txns[i].Session = i % 8
	}
	return h
}

// upTo are the numbers from 0 on that are less than n.
func upTo(n int) []int {
	var l []int
	for i := range n {
		l = append(l, i)
	}
	return l
}

// backwards are the numbers that are less than n, from the greatest one on.
func backwards(n int) []int {
	l := upTo(n)
	slices.Reverse(l)
	return l
}

// initials are Reads of the initial values of keys.
func initials(l ...int) []api.Take {
	var reads []api.Take
	for _, k := range l {
		reads = append(reads, take(k, -1))
	}
	return reads
}

// brief is how a value is printed where a test fails; long ones are cut off.
func brief(v any) string { return fmt.Sprintf("%.600s", fmt.Sprint(v)) }

func sameTxn(a, b api.Txn) bool {
	return a.Session == b.Session && slices.Equal(a.Writes, b.Writes) && slices.Equal(a.Reads, b.Reads)
}

func sameHist(a, b api.Hist) bool { return slices.EqualFunc(a.Txns, b.Txns, sameTxn) }

// cloned is a history with lists of its own.
func cloned(h api.Hist) api.Hist {
	h.Txns = slices.Clone(h.Txns)
	for i, txn := range h.Txns {
		h.Txns[i].Writes, h.Txns[i].Reads = slices.Clone(txn.Writes), slices.Clone(txn.Reads)
	}
	return h
}

// mustBeRight ends a test whose history is valid, or not, otherwise than the test means it to be.
func mustBeRight(t *testing.T, h api.Hist, want bool) {
	t.Helper()
	if hist.Right(h) != want {
		t.Fatalf("hist.Right(%s) is not %v", brief(h), want)
	}
}

// edges tells of any two transactions whether there is an edge from the one to the other.
type edges [][]bool

// edgesOf are the edges that a function tells.
func edgesOf(n int, has func(a, b int) bool) edges {
	var e edges
	for a := range n {
		e = append(e, make([]bool, n))
		for b := range n {
			e[a][b] = has(a, b)
		}
	}
	return e
}

// has is false for what is no number of a transaction.
func (e edges) has(x, y int) bool {
	return x >= 0 && x < len(e) && y >= 0 && y < len(e) && e[x][y]
}

// only are the choices among these, by chapter 18's words.
func only(h api.Hist, l []api.Choice) []api.Choice {
	var are []api.Choice
	for _, c := range l {
		writers := 0
		for number, txn := range h.Txns {
			if (number == c.A || number == c.B) && slices.Contains(txn.Writes, c.Key) {
				writers++
			}
		}
		// The same one, asked for twice, is counted once.
		if writers == 2 {
			are = append(are, c)
		}
	}
	return are
}

// told is what the chapter's words say of a history and a list: the edges of Direct, of Anti, and of Is at both levels.
type told struct{ direct, anti, ser, si edges }

func toldOf(h api.Hist, l []api.Choice) told {
	if !hist.Right(h) {
		return told{}
	}
	n, l := len(h.Txns), only(h, l)
	slices.SortFunc(l, byNumbers)
	l = slices.Compact(l)
	direct := edgesOf(n, func(x, y int) bool { return directByWords(h, l, x, y) })
	anti := edgesOf(n, func(x, y int) bool { return antiByWords(h, l, x, y) })
	ser := edgesOf(n, func(x, y int) bool { return direct[x][y] || anti[x][y] })
	si := edgesOf(n, func(x, y int) bool {
		return direct[x][y] || slices.ContainsFunc(upTo(n), func(m int) bool { return direct[x][m] && anti[m][y] })
	})
	return told{direct, anti, ser, si}
}

func byNumbers(a, b api.Choice) int {
	return slices.Compare(ints(a.A, a.B, a.Key), ints(b.A, b.B, b.Key))
}

// directByWords and antiByWords tell of the numbers of two transactions, with nothing but choices.
func directByWords(h api.Hist, l []api.Choice, x, y int) bool {
	if h.Txns[x].Session == h.Txns[y].Session && x < y {
		return true
	}
	for _, read := range h.Txns[y].Reads {
		if read.From == x {
			return true
		}
	}
	for _, c := range l {
		if c.A == x && c.B == y {
			return true
		}
	}
	return false
}

func antiByWords(h api.Hist, l []api.Choice, x, y int) bool {
	if x == y {
		return false
	}
	for _, read := range h.Txns[x].Reads {
		if !slices.Contains(h.Txns[y].Writes, read.Key) {
			continue
		}
		if read.From == -1 || slices.Contains(l, chosenAs(read.Key, read.From, y)) {
			return true
		}
	}
	return false
}

// cycleByWords tells whether a row is a cycle of some edges.
func cycleByWords(e edges, row []int) bool {
	for i, number := range row {
		next := row[(i+1)%len(row)]
		if slices.Contains(row[:i], number) || !e.has(number, next) {
			return false
		}
	}
	return len(row) > 0
}

// beyond are numbers that are none of a transaction of a history with n transactions.
func beyond(n int) []int {
	return ints(least, least+1, -1<<32, -32, -2, -1, n, n+1, max(n, 31)+1, max(n, 63)+1, 1<<32, 1<<32+1, most-1, most)
}

// noLevels are numbers that are no levels.
func noLevels() []int {
	return ints(least, least+1, -1<<32, -2, -1, 2, 3, 4, 1<<32, 1<<32+1, most-1, most)
}

// checkPair holds what is told of two numbers.
func checkPair(t *testing.T, h api.Hist, l []api.Choice, x, y int, direct, anti, ser, si bool) {
	t.Helper()
	if got := Direct(h, l, x, y); got != direct {
		t.Fatalf("Direct(%s, %s, %d, %d) = %v", brief(h), brief(l), x, y, got)
	}
	if got := Anti(h, l, x, y); got != anti {
		t.Fatalf("Anti(%s, %s, %d, %d) = %v", brief(h), brief(l), x, y, got)
	}
	for level, want := range []bool{ser, si} {
		if got := Is(h, level, l, x, y); got != want {
			t.Fatalf("Is(%s, %d, %s, %d, %d) = %v", brief(h), level, brief(l), x, y, got)
		}
	}
	for _, level := range ints(-1, 2) {
		if Is(h, level, l, x, y) {
			t.Fatalf("Is(%s, %d, %s, %d, %d) is true", brief(h), level, brief(l), x, y)
		}
	}
}

// checkNone holds that nothing is told of two numbers.
func checkNone(t *testing.T, h api.Hist, l []api.Choice, x, y int) {
	t.Helper()
	checkPair(t, h, l, x, y, false, false, false, false)
}

func checkCycle(t *testing.T, h api.Hist, level int, l []api.Choice, want bool, row ...int) {
	t.Helper()
	if got := Cycle(h, level, l, row); got != want {
		t.Fatalf("Cycle(%s, %d, %s, %s) = %v", brief(h), level, brief(l), brief(row), got)
	}
}

// checkTold holds all pairs of numbers against the edges that there are.
func checkTold(t *testing.T, h api.Hist, l []api.Choice, want told) {
	t.Helper()
	for x := -1; x <= len(h.Txns); x++ {
		for y := -1; y <= len(h.Txns); y++ {
			checkPair(t, h, l, x, y, want.direct.has(x, y), want.anti.has(x, y), want.ser.has(x, y), want.si.has(x, y))
		}
	}
}

// checkByWords holds all pairs of numbers, and some rows, against the chapter's words and against P19.4.
func checkByWords(t *testing.T, h api.Hist, l []api.Choice, rows ...[]int) {
	t.Helper()
	want := toldOf(h, l)
	checkTold(t, h, l, want)
	for _, row := range rows {
		checkCycle(t, h, 0, l, cycleByWords(want.ser, row), row...)
		checkCycle(t, h, 1, l, cycleByWords(want.si, row), row...)
		checkCycle(t, h, -1, l, false, row...)
		checkCycle(t, h, 2, l, false, row...)
	}
	checkFull(t, h, l, rows...)
}

// checkFull holds P19.4: with valid choices the edges and the cycles are those of choice.Full. It returns how many of the rows, and of the cycles that are found in the graphs, are cycles.
func checkFull(t *testing.T, h api.Hist, l []api.Choice, rows ...[]int) int {
	t.Helper()
	if !choice.Right(h, l) {
		return 0
	}
	count := 0
	for level := range 2 {
		g, err := choice.Full(h, level, l)
		if err != api.OK {
			t.Fatalf("choice.Full(%s, %d, %s): error %d", brief(h), level, brief(l), err)
		}
		for x := range h.Txns {
			for y := range h.Txns {
				if Is(h, level, l, x, y) != graph.Has(g, x, y) {
					t.Fatalf("%s, level %d, %s: from %d to %d otherwise than choice.Full", brief(h), level, brief(l), x, y)
				}
			}
		}
		rows := rows
		if found := cycle.Find(g); found != nil {
			rows = append(slices.Clone(rows), rotations(found)...)
		}
		for _, row := range rows {
			checkCycle(t, h, level, l, cycle.Is(g, row), row...)
			if cycle.Is(g, row) {
				count++
			}
		}
	}
	return count
}

// rotations are all rows that begin at another element of a row, and go on as it does.
func rotations(row []int) [][]int {
	var l [][]int
	for i := range row {
		l = append(l, append(slices.Clone(row[i:]), row[:i]...))
	}
	return l
}

// rich is a valid history in which each function has something to tell: n transactions, each of which writes all keys, and reads those that are odd from the one ahead of it, the others from nobody.
func rich(n int) api.Hist {
	var h api.Hist
	for number := range n {
		txn := api.Txn{Session: number % 8, Writes: upTo(16)}
		for k := range 16 {
			txn.Reads = append(txn.Reads, take(k, []int{-1, number - 1}[k%2]))
		}
		h.Txns = append(h.Txns, txn)
	}
	return h
}

// checkNothing holds that all functions are false of a history that is not valid, with no choices and with some.
func checkNothing(t *testing.T, h api.Hist) {
	t.Helper()
	mustBeRight(t, h, false)
	last := max(len(h.Txns)-1, 0)
	for _, l := range [][]api.Choice{nil, {}, {chosenAs(4, 0, 1)}, {chosenAs(3, 1, 0), chosenAs(0, 0, 1), chosenAs(4, last, 0), chosenAs(15, 0, last)}, {chosenAs(4, 0, 0)}} {
		for _, x := range ints(-1, 0, 1, 2, last, last+1) {
			for _, y := range ints(-1, 0, 1, 2, last, last+1) {
				checkNone(t, h, l, x, y)
			}
		}
		for _, row := range [][]int{nil, {0}, {last}, {0, 1}, {1, 0}, {0, last}, {last, 0}, {2, 1, 0}, {0, 1, 2}, upTo(len(h.Txns))} {
			for level := -1; level < 3; level++ {
				checkCycle(t, h, level, l, false, row...)
			}
		}
	}
}

// checkWrongAnywhere holds that nothing is told of a history in which any one transaction is wrong as told, among others that are right.
func checkWrongAnywhere(t *testing.T, name string, wrong func(txn *api.Txn, number, count int)) {
	t.Helper()
	for _, n := range ints(2, 3) {
		for number := range n {
			h := rich(n)
			mustBeRight(t, h, true)
			wrong(&h.Txns[number], number, n)
			if hist.Right(h) {
				t.Fatalf("%s, %v of %v: valid", name, number, n)
			}
			checkNothing(t, h)
		}
	}
}

// P19.1 to P19.3: nothing is told of more than MaxTxns transactions.
func TestWrongMany(t *testing.T) {
	for _, n := range ints(33, 34, 63, 64, 65, 200) {
		checkNothing(t, rich(n))
		checkNothing(t, api.Hist{Txns: make([]api.Txn, n)})
		for _, l := range [][]api.Choice{nil, {chosenAs(4, n-2, n-1), chosenAs(4, n-1, n-2)}} {
			checkNone(t, rich(n), l, n-2, n-1)
			checkNone(t, rich(n), l, n-1, n-2)
			checkCycle(t, rich(n), 0, l, false, n-1, n-2)
			checkCycle(t, rich(n), 1, l, false, n-2, n-1)
		}
	}
	checkNothing(t, history(append(rich(32).Txns, api.Txn{})...))
	checkByWords(t, rich(32), choices(chosenAs(4, 31, 0), chosenAs(4, 0, 31)), ints(0, 31), ints(31, 0), upTo(32))
}

// P19.1 to P19.3: nothing is told if a Session is none.
func TestWrongSession(t *testing.T) {
	for _, s := range ints(least, -2, -1, 8, 9, 1<<32, most) {
		checkWrongAnywhere(t, fmt.Sprint("session ", s), func(txn *api.Txn, _, _ int) { txn.Session = s })
		checkNothing(t, history(api.Txn{Session: s}))
		checkNothing(t, history(writer(4), writer(4), api.Txn{Session: s}))
		checkNothing(t, history(api.Txn{Session: s}, api.Txn{Session: s}))
	}
}

// wrongKeys are lists of keys that may not be: with numbers that are no keys, with the same twice, with decreasing ones.
func wrongKeys() [][]int {
	return [][]int{
		append(ints(-1), upTo(16)...), append(upTo(16), 16), append(upTo(16), most), append(ints(least), upTo(16)...), append(upTo(16), 17),
		append(ints(0), upTo(16)...), append(upTo(16), 15), append(upTo(16), 0), slices.Insert(upTo(16), 8, 8), slices.Insert(upTo(16), 8, 7),
		append(ints(1, 0), upTo(16)[2:]...), append(upTo(14), 15, 14), append(upTo(16)[1:], 0), append(ints(15), upTo(15)...),
	}
}

// P19.1 to P19.3: nothing is told if Writes are no keys, or not in increasing order.
func TestWrongWrites(t *testing.T) {
	for _, l := range wrongKeys() {
		checkWrongAnywhere(t, fmt.Sprint("writes ", l), func(txn *api.Txn, _, _ int) { txn.Writes = l })
	}
	for _, l := range [][]int{{-1}, {16}, {least}, {most}, {4, 4}, {4, 3}, {15, 0}} {
		checkNothing(t, history(writer(l...)))
		checkNothing(t, history(writer(4), writer(4), writer(l...)))
		h := apart(writer(l...), writer(l...), reader(take(l[0], -1)))
		checkNothing(t, h)
		for _, x := range ints(0, 1, 2) {
			checkNone(t, h, choices(chosenAs(l[0], 0, 1)), x, 1)
		}
	}
}

// P19.1 to P19.3: nothing is told if the keys of Reads are none, or not in increasing order.
func TestWrongReads(t *testing.T) {
	for _, l := range wrongKeys() {
		checkWrongAnywhere(t, fmt.Sprint("reads ", l), func(txn *api.Txn, number, _ int) {
			txn.Reads = nil
			for _, k := range l {
				txn.Reads = append(txn.Reads, take(k, number-1))
			}
		})
		checkWrongAnywhere(t, fmt.Sprint("reads of nobody's ", l), func(txn *api.Txn, _, _ int) { txn.Reads = initials(l...) })
	}
	for _, l := range [][]int{{-1}, {16}, {least}, {most}, {4, 4}, {4, 3}, {15, 0}} {
		checkNothing(t, history(writer(4), writer(4), reader(initials(l...)...)))
		checkNothing(t, history(both(ints(4), initials(l...)...), writer(4)))
	}
}

// P19.1 to P19.3: nothing is told if a Read is from what is no number of a transaction, from its own one, or from one that does not write the key.
func TestWrongFrom(t *testing.T) {
	for _, k := range ints(0, 4, 15) {
		for _, from := range ints(least, -3, -2, 32, 33, 1<<32, most) {
			checkWrongAnywhere(t, fmt.Sprint("from ", from), func(txn *api.Txn, _, _ int) { txn.Reads[k].From = from })
		}
		for beyond := range 4 {
			checkWrongAnywhere(t, fmt.Sprint("from the count and ", beyond), func(txn *api.Txn, _, count int) { txn.Reads[k].From = count + beyond })
		}
		checkWrongAnywhere(t, "from itself", func(txn *api.Txn, number, _ int) { txn.Reads[k].From = number })
		for _, writes := range [][]int{nil, {(k + 1) % 16}, slices.Delete(upTo(16), k, k+1)} {
			checkNothing(t, history(writer(k), writer(k), reader(take(k, 3)), writer(writes...)))
		}
	}
}

// P19.1 to P19.3: numbers that are none of a transaction.
func TestWrongNumbers(t *testing.T) {
	for _, n := range ints(0, 1, 2, 3, 31, 32) {
		h := rich(n)
		mustBeRight(t, h, true)
		l := choices(chosenAs(4, 0, 1), chosenAs(4, 1, 0), chosenAs(4, n-1, 0), chosenAs(4, 0, n-1))
		for _, wrong := range beyond(n) {
			// A choice that speaks of such a number tells nothing either.
			of := append(slices.Clone(l), chosenAs(4, wrong, 0), chosenAs(4, 0, wrong), chosenAs(4, wrong, wrong))
			for _, l := range [][]api.Choice{nil, l, of} {
				checkNone(t, h, l, wrong, wrong)
				for _, number := range append(beyond(n), 0, 1, n-1) {
					checkNone(t, h, l, wrong, number)
					checkNone(t, h, l, number, wrong)
				}
				for level := range 2 {
					checkCycle(t, h, level, l, false, wrong)
					checkCycle(t, h, level, l, false, 0, wrong)
					checkCycle(t, h, level, l, false, wrong, 0)
					checkCycle(t, h, level, l, false, 1, wrong, 0)
					checkCycle(t, h, level, l, false, wrong, wrong)
					checkCycle(t, h, level, l, false, wrong, -wrong)
				}
			}
		}
	}
}

// P19.1 to P19.3: the same transaction twice: neither Direct nor Anti, but at Si there and back.
func TestSame(t *testing.T) {
	for n := 1; n <= 32; n++ {
		for x := range n {
			checkNone(t, api.Hist{Txns: make([]api.Txn, n)}, nil, x, x)
		}
	}
	// It reads what it overwrites itself, from nobody and from another one.
	checkNone(t, history(both(ints(4), take(4, -1))), nil, 0, 0)
	checkNone(t, history(both(ints(4), take(4, -1))), choices(chosenAs(4, 0, 0)), 0, 0)
	read := apart(writer(4), both(ints(4), take(4, 0)))
	for _, l := range [][]api.Choice{nil, {chosenAs(4, 0, 1)}, {chosenAs(4, 1, 0)}, {chosenAs(4, 0, 1), chosenAs(4, 1, 1), chosenAs(4, 0, 0)}} {
		checkNone(t, read, l, 0, 0)
		checkNone(t, read, l, 1, 1)
	}
	// 0 to 1 by a session, by a read and by a choice; back as 1 reads what 0 overwrites.
	session := history(api.Txn{Writes: ints(4)}, api.Txn{Reads: initials(4)})
	checkPair(t, session, nil, 0, 0, false, false, false, true)
	checkNone(t, session, nil, 1, 1)
	reads := apart(writer(4, 5), reader(take(4, -1), take(5, 0)))
	checkPair(t, reads, nil, 0, 0, false, false, false, true)
	checkNone(t, reads, nil, 1, 1)
	lost := apart(both(ints(4), take(4, -1)), both(ints(4), take(4, -1)))
	checkNone(t, lost, nil, 0, 0)
	checkNone(t, lost, nil, 1, 1)
	checkPair(t, lost, choices(chosenAs(4, 0, 1)), 0, 0, false, false, false, true)
	checkNone(t, lost, choices(chosenAs(4, 0, 1)), 1, 1)
	checkPair(t, lost, choices(chosenAs(4, 1, 0)), 1, 1, false, false, false, true)
	checkNone(t, lost, choices(chosenAs(4, 1, 0)), 0, 0)
	// 1 to 2 by a choice; back as 2 reads from 0 what 1 overwrites, by another choice.
	later := apart(writer(4), writer(4, 5), both(ints(5), take(4, 0)))
	checkNone(t, later, choices(chosenAs(5, 1, 2)), 1, 1)
	checkNone(t, later, choices(chosenAs(4, 0, 1)), 1, 1)
	checkPair(t, later, choices(chosenAs(5, 1, 2), chosenAs(4, 0, 1)), 1, 1, false, false, false, true)
	checkNone(t, later, choices(chosenAs(5, 2, 1), chosenAs(4, 0, 1)), 1, 1)
	// Two direct edges there and back are no edge to itself.
	checkNone(t, apart(writer(4), writer(4)), choices(chosenAs(4, 0, 1), chosenAs(4, 1, 0)), 0, 0)
}

// P19.1 to P19.3: the chapter's example.
func TestExample(t *testing.T) {
	h := history(api.Txn{Session: 0, Reads: takes(take(4, 1))}, api.Txn{Session: 1, Writes: ints(4)}, api.Txn{Session: 2, Writes: ints(4)})
	l := choices(chosenAs(4, 1, 2))
	checkPair(t, h, l, 0, 2, false, true, true, false)
	checkPair(t, h, l, 1, 0, true, false, true, true)
	checkPair(t, h, l, 1, 2, true, false, true, true)
	for _, two := range [][]int{{0, 0}, {0, 1}, {1, 1}, {2, 0}, {2, 1}, {2, 2}} {
		checkNone(t, h, l, two[0], two[1])
	}
	checkByWords(t, h, l, upTo(3), ints(0, 2), ints(1, 0))
}

// P19.1: the same Session in order, and the other way round; different Sessions.
func TestDirectSession(t *testing.T) {
	for s := range 8 {
		for other := range 8 {
			h := history(api.Txn{Session: s}, api.Txn{Session: other}, api.Txn{Session: s})
			checkPair(t, h, nil, 0, 2, true, false, true, true)
			checkNone(t, h, nil, 2, 0)
			same := s == other
			checkPair(t, h, nil, 0, 1, same, false, same, same)
			checkPair(t, h, nil, 1, 2, same, false, same, same)
			checkNone(t, h, nil, 1, 0)
			checkNone(t, h, nil, 2, 1)
		}
	}
	h := api.Hist{Txns: make([]api.Txn, 32)}
	for i := range h.Txns {
		h.Txns[i].Session = i * 5 % 8
	}
	for x := range 32 {
		for y := range 32 {
			is := x < y && x%8 == y%8
			checkPair(t, h, nil, x, y, is, false, is, is)
		}
	}
}

// P19.1: a key that y reads from x, from another one, and from -1.
func TestDirectRead(t *testing.T) {
	for _, k := range ints(0, 1, 7, 14, 15) {
		other := (k + 3) % 16
		h := apart(writer(k), reader(take(k, 0)), writer(k))
		checkPair(t, h, nil, 0, 1, true, false, true, true)
		checkNone(t, h, nil, 1, 0)
		checkNone(t, h, nil, 2, 1)
		checkNone(t, h, nil, 1, 2)
		// The reader ahead of the writer.
		ahead := apart(reader(take(k, 2)), writer(k), writer(k))
		checkPair(t, ahead, nil, 2, 0, true, false, true, true)
		checkNone(t, ahead, nil, 0, 2)
		checkNone(t, ahead, nil, 1, 0)
		checkNone(t, ahead, nil, 0, 1)
		// From -1: the last transaction is next to it.
		initial := apart(reader(take(k, -1)), writer(other), writer(other))
		for x := range 3 {
			for y := range 3 {
				checkNone(t, initial, nil, x, y)
			}
		}
		checkPair(t, apart(reader(take(k, -1)), writer(k)), nil, 0, 1, false, true, true, false)
		checkNone(t, apart(reader(take(k, -1)), writer(k)), nil, 1, 0)
		// Of several Reads any one counts.
		reads := initials(upTo(16)...)
		reads[k].From = 0
		checkPair(t, apart(writer(k), reader(reads...)), nil, 0, 1, true, false, true, true)
		// Two that read from one another.
		round := apart(both(ints(k), take(other, 1)), both(ints(other), take(k, 0)))
		checkPair(t, round, nil, 0, 1, true, false, true, true)
		checkPair(t, round, nil, 1, 0, true, false, true, true)
	}
	for x := range 32 {
		h := apart(slices.Repeat([]api.Txn{both(ints(7), take(7, x))}, 32)...)
		h.Txns[x].Reads = nil
		for y := range 32 {
			checkPair(t, h, nil, x, y, x != y, false, x != y, x != y)
			session := y < x && x%8 == y%8
			checkPair(t, h, nil, y, x, session, false, session, session)
		}
	}
}

// P19.1: a choice with x as A and y as B, the same the other way round, one of another key.
func TestDirectChoice(t *testing.T) {
	for _, k := range ints(0, 1, 7, 14, 15) {
		h := apart(slices.Repeat([]api.Txn{writer(k)}, 32)...)
		for a := range 32 {
			for b := range 32 {
				if a == b {
					continue
				}
				session, back := a < b && a%8 == b%8, b < a && a%8 == b%8
				checkPair(t, h, choices(chosenAs(k, a, b)), a, b, true, false, true, true)
				checkPair(t, h, choices(chosenAs(k, a, b)), b, a, back, false, back, back)
				checkPair(t, h, nil, a, b, session, false, session, session)
				checkPair(t, h, choices(chosenAs((k+1)%16, a, b)), a, b, session, false, session, session)
				other := (b + 1) % 32
				if other != a {
					checkPair(t, h, choices(chosenAs(k, a, other), chosenAs(k, other, b)), a, b, session, false, session, session)
				}
			}
		}
	}
	// One of another key, which both write, is enough, too; the one way round as the other.
	two := apart(writer(4, 9), writer(4, 9), both(ints(9), take(4, 0)), writer(4))
	for _, k := range ints(4, 9) {
		checkPair(t, two, choices(chosenAs(k, 0, 1)), 0, 1, true, false, true, true)
		checkNone(t, two, choices(chosenAs(k, 0, 1)), 1, 0)
		checkPair(t, two, choices(chosenAs(k, 1, 0)), 1, 0, true, false, true, true)
		checkNone(t, two, choices(chosenAs(k, 1, 0)), 0, 1)
	}
	for _, l := range [][]api.Choice{{chosenAs(4, 0, 1), chosenAs(9, 1, 0)}, {chosenAs(4, 1, 0), chosenAs(9, 0, 1)}, {chosenAs(4, 1, 0), chosenAs(4, 0, 1)}} {
		checkPair(t, two, l, 0, 1, true, false, true, true)
		checkPair(t, two, l, 1, 0, true, false, true, true)
	}
	// Two choices do not tell the third one.
	checkNone(t, apart(writer(4), writer(4), writer(4)), choices(chosenAs(4, 0, 1), chosenAs(4, 1, 2)), 0, 2)
}

// P19.2: x reads a key from -1 that y writes.
func TestAntiInitial(t *testing.T) {
	for _, k := range ints(0, 1, 7, 14, 15) {
		other := (k + 3) % 16
		h := apart(reader(take(k, -1)), writer(k), writer(other), writer(k))
		for _, l := range [][]api.Choice{nil, {chosenAs(k, 1, 3)}, {chosenAs(k, 3, 1)}, {chosenAs(k, -1, 1)}} {
			checkPair(t, h, l, 0, 1, false, true, true, false)
			checkPair(t, h, l, 0, 3, false, true, true, false)
			checkNone(t, h, l, 0, 2)
			checkNone(t, h, l, 1, 0)
			checkNone(t, h, l, 3, 0)
		}
		// The writer ahead of the reader; a reader that writes it itself.
		ahead := apart(writer(k), both(ints(k), take(k, -1)))
		checkPair(t, ahead, nil, 1, 0, false, true, true, false)
		checkNone(t, ahead, nil, 0, 1)
		// Of several Reads any one counts, and of several Writes.
		for _, one := range upTo(16) {
			several := apart(reader(initials(upTo(16)...)...), writer(one))
			checkPair(t, several, nil, 0, 1, false, true, true, false)
			all := apart(reader(take(one, -1)), writer(upTo(16)...))
			checkPair(t, all, nil, 0, 1, false, true, true, false)
			none := apart(reader(take(one, -1)), writer(slices.Delete(upTo(16), one, one+1)...))
			checkNone(t, none, nil, 0, 1)
		}
	}
	for x := range 32 {
		h := apart(slices.Repeat([]api.Txn{writer(7)}, 32)...)
		h.Txns[x].Reads = initials(7)
		for y := range 32 {
			if x != y && x%8 != y%8 {
				checkPair(t, h, nil, x, y, false, true, true, false)
				checkNone(t, h, nil, y, x)
			}
		}
	}
}

// P19.2: x reads from f, with the choice of that key that has f as A and y as B, and with others.
func TestAntiChoice(t *testing.T) {
	for _, k := range ints(0, 1, 7, 14, 15) {
		other := (k + 3) % 16
		keys := ints(min(k, other), max(k, other))
		// 0 is f, 1 is y, 2 is x.
		h := apart(writer(keys...), writer(keys...), reader(take(k, 0)), writer(k))
		checkPair(t, h, choices(chosenAs(k, 0, 1)), 2, 1, false, true, true, false)
		checkNone(t, h, choices(chosenAs(k, 0, 1)), 2, 3)
		checkNone(t, h, choices(chosenAs(k, 0, 1)), 1, 2)
		for _, l := range [][]api.Choice{nil, {}, {chosenAs(other, 0, 1)}, {chosenAs(k, 1, 0)}, {chosenAs(other, 1, 0)}, {chosenAs(k, 0, 3), chosenAs(k, 3, 1)}, {chosenAs(k, 3, 1)}} {
			checkPair(t, h, l, 2, 1, false, false, false, false)
		}
		checkPair(t, h, choices(chosenAs(other, 0, 1), chosenAs(k, 3, 1), chosenAs(k, 0, 1)), 2, 1, false, true, true, false)
		// x reads the key from y, and nothing else.
		checkPair(t, apart(writer(k), writer(k), reader(take(k, 1))), choices(chosenAs(k, 0, 1)), 2, 1, false, false, false, false)
		// x and y are the same, alone and with another one.
		same := apart(writer(k), both(ints(k), take(k, 0)), writer(k))
		checkNone(t, same, choices(chosenAs(k, 0, 1)), 1, 1)
		checkPair(t, same, choices(chosenAs(k, 0, 1), chosenAs(k, 0, 2)), 1, 2, false, true, true, false)
		checkNone(t, same, choices(chosenAs(k, 0, 1), chosenAs(k, 0, 2)), 1, 1)
		// f itself is not ahead of itself; y may be what x is ahead of.
		checkNone(t, apart(writer(k), reader(take(k, 0))), choices(chosenAs(k, 0, 0)), 1, 0)
		checkPair(t, apart(both(ints(k), take(k, 1)), writer(k), both(ints(k), take(k, 0))), choices(chosenAs(k, 1, 2)), 0, 2, true, true, true, true)
		// A choice of -1's write is none.
		initial := apart(reader(take(k, -1)), writer(other), writer(other))
		checkNone(t, initial, choices(chosenAs(k, -1, 1), chosenAs(other, -1, 1)), 0, 1)
	}
	// From each f to each y, for one reader.
	for f := range 31 {
		h := apart(slices.Repeat([]api.Txn{writer(7)}, 32)...)
		h.Txns[31] = api.Txn{Session: 7, Reads: takes(take(7, f))}
		for y := range 31 {
			session := y%8 == 7
			want := y != f
			checkPair(t, h, choices(chosenAs(7, f, y)), 31, y, false, want, want, false)
			checkPair(t, h, choices(chosenAs(7, y, f)), 31, y, false, false, false, false)
			checkPair(t, h, nil, y, 31, session || y == f, false, session || y == f, session || y == f)
		}
	}
}

// notChoices are elements that are no choices of the history that few returns.
func notChoices() []api.Choice {
	var l []api.Choice
	for a := range 5 {
		for _, k := range ints(0, 4, 5, 7, 15) {
			l = append(l, chosenAs(k, a, a))
		}
	}
	for _, number := range ints(least, least+1, -5, -2, -1, 5, 6, 31, 32, 33, 64, 1<<32, 1<<32+1, 1<<32+2, most-1, most) {
		for _, k := range ints(0, 4, 15) {
			l = append(l, chosenAs(k, number, 2), chosenAs(k, 2, number), chosenAs(k, number, number), chosenAs(k, number, 4))
		}
	}
	// 1 writes neither 0 nor 15, 0 and 3 do not write 5, 4 writes nothing; nobody but 2 writes 7.
	l = append(l, chosenAs(0, 1, 2), chosenAs(0, 2, 1), chosenAs(15, 1, 3), chosenAs(15, 3, 1), chosenAs(5, 0, 1), chosenAs(5, 1, 0), chosenAs(5, 2, 3), chosenAs(5, 3, 2), chosenAs(5, 0, 3))
	l = append(l, chosenAs(4, 4, 1), chosenAs(4, 1, 4), chosenAs(7, 2, 1), chosenAs(7, 1, 2), chosenAs(7, 1, 3), chosenAs(9, 0, 1), chosenAs(9, 1, 0), chosenAs(0, 0, 4), chosenAs(15, 4, 0))
	for _, k := range ints(least, least+4, -16, -12, -2, -1, 16, 17, 20, 31, 32, 36, 64, 68, 1<<32, 1<<32+4, most-1, most) {
		l = append(l, chosenAs(k, 0, 2), chosenAs(k, 2, 3), chosenAs(k, 3, 0), chosenAs(k, 4, 2))
	}
	return l
}

// few is a history with few edges by itself. Nobody writes 9, which is read.
func few() api.Hist {
	return apart(writer(0, 4, 15), writer(4, 5), both(ints(0, 2, 4, 5, 7, 15), take(4, 1), take(5, -1)), both(ints(0, 4, 15), take(4, 0), take(9, -1)), reader(take(4, 1)))
}

// P19.1 to P19.3: what is no choice is ignored: alone, and among choices, first, last and between.
func TestNotChoices(t *testing.T) {
	h := few()
	mustBeRight(t, h, true)
	good := choices(chosenAs(4, 0, 1), chosenAs(0, 3, 2), chosenAs(15, 0, 2), chosenAs(5, 1, 2))
	rows := [][]int{{0, 1}, {1, 0}, {2, 3}, {0, 1, 2}, {2, 1, 0}, {1, 2, 3}, {4}, {0, 1, 2, 3, 4}}
	alone, among := toldOf(h, nil), toldOf(h, good)
	for _, c := range notChoices() {
		if len(only(h, choices(c))) > 0 {
			t.Fatalf("%v is a choice", c)
		}
		checkTold(t, h, choices(c), alone)
		checkTold(t, h, choices(c, c), alone)
		for at := range len(good) + 1 {
			l := slices.Insert(slices.Clone(good), at, c)
			checkTold(t, h, l, among)
			for _, row := range rows {
				checkCycle(t, h, 0, l, cycleByWords(among.ser, row), row...)
				checkCycle(t, h, 1, l, cycleByWords(among.si, row), row...)
			}
		}
	}
	checkByWords(t, h, notChoices(), rows...)
	checkTold(t, h, notChoices(), alone)
	for range 3 {
		checkTold(t, h, slices.Concat(notChoices(), good, notChoices()), among)
	}
	// Rows that are cycles by choices alone are none by what is no choice.
	two := apart(writer(4), writer(4, 5), writer(5))
	checkCycle(t, two, 0, choices(chosenAs(4, 0, 1), chosenAs(4, 1, 0)), true, 0, 1)
	checkCycle(t, two, 0, choices(chosenAs(4, 0, 1), chosenAs(5, 1, 0)), false, 0, 1)
	checkCycle(t, two, 1, choices(chosenAs(4, 0, 1), chosenAs(5, 1, 0)), false, 0, 1)
	checkCycle(t, two, 1, choices(chosenAs(5, 1, 0), chosenAs(4, 1, 0), chosenAs(4, 0, 1)), true, 0, 1)
}

// P19.1 to P19.3: in histories where a key has no writer, or a single one, no element is a choice.
func TestUnwritten(t *testing.T) {
	for _, k := range ints(0, 1, 14, 15) {
		other := (k + 5) % 16
		for _, h := range []api.Hist{
			apart(reader(take(k, -1)), reader(take(k, -1))), apart(writer(other), writer(other)), apart(writer(k), reader(take(k, 0))),
			apart(writer(k), writer(other)), apart(both(ints(other), take(k, -1)), writer(k)), {}, apart(writer(k)),
		} {
			mustBeRight(t, h, true)
			for a := -1; a < 4; a++ {
				for b := -1; b < 4; b++ {
					checkTold(t, h, choices(chosenAs(k, a, b)), toldOf(h, nil))
				}
			}
		}
	}
}

// P19.1 to P19.3: there may be more than MaxFacts elements, and any one of them counts if it is a choice.
func TestManyElements(t *testing.T) {
	h := apart(writer(4), writer(4), both(ints(4, 5), take(4, 0)), reader(take(4, 1)))
	lost := apart(both(ints(4), take(4, -1)), both(ints(4), take(4, -1)))
	rows := [][]int{{0, 1}, {1, 2}, {2, 1}, {0, 1, 2}, {2, 1, 0}, {3, 0}, {1, 3, 0}}
	two := choices(chosenAs(4, 0, 1), chosenAs(4, 2, 1), chosenAs(4, 1, 0))
	for _, n := range ints(19999, 20000, 20001, 20002, 65536, 100003) {
		many := slices.Repeat(two, 40000)[:n]
		checkByWords(t, h, many, rows...)
		checkTold(t, h, many, toldOf(h, two))
		wrong := make([]api.Choice, n)
		checkTold(t, h, wrong, toldOf(h, nil))
		for _, at := range ints(0, 1, n/2, 19999, 20000, n-2, n-1) {
			if at >= n {
				continue
			}
			l := slices.Clone(wrong)
			l[at] = chosenAs(4, 1, 0)
			checkPair(t, h, l, 1, 0, true, false, true, true)
			checkPair(t, h, l, 3, 0, false, true, true, false)
			checkPair(t, h, l, 0, 1, false, false, false, false)
			checkCycle(t, lost, 1, l, true, 1)
			checkCycle(t, lost, 1, l, false, 0)
			checkCycle(t, lost, 1, wrong, false, 1)
			l = slices.Repeat(two[:1], n)
			l[at] = chosenAs(4, 1, 0)
			checkCycle(t, h, 0, l, true, 0, 1)
			checkCycle(t, h, 1, l, true, 1, 0)
			l[at] = chosenAs(5, 1, 0)
			checkCycle(t, h, 0, l, false, 0, 1)
		}
	}
	// All choices of the greatest history, several times, and what is none.
	all := pairsBothWays(rich(32))
	if len(all) != 15872 {
		t.Fatal(len(all))
	}
	l := slices.Concat(notChoices(), all, all, all)
	for x := range 32 {
		for _, y := range ints(0, 1, 15, 30, 31) {
			checkPair(t, rich(32), l, x, y, x != y, x != y, x != y, true)
		}
	}
	for _, row := range [][]int{upTo(32), backwards(32), {7}, {31, 0}} {
		checkCycle(t, rich(32), 0, l, len(row) > 1, row...)
		checkCycle(t, rich(32), 1, l, true, row...)
	}
}

// pairsBothWays are all choices that there are in a valid history.
func pairsBothWays(h api.Hist) []api.Choice {
	var l []api.Choice
	for k := range 16 {
		for a := range h.Txns {
			for b := range h.Txns {
				if a != b && slices.Contains(h.Txns[a].Writes, k) && slices.Contains(h.Txns[b].Writes, k) {
					l = append(l, chosenAs(k, a, b))
				}
			}
		}
	}
	return l
}

// P19.3: levels that are none.
func TestWrongLevels(t *testing.T) {
	h := apart(both(ints(4), take(4, -1)), both(ints(4), take(4, -1)), reader(take(4, 0)))
	for _, level := range noLevels() {
		for _, l := range [][]api.Choice{nil, {}, {chosenAs(4, 0, 1)}, {chosenAs(4, 0, 1), chosenAs(4, 1, 0)}, {chosenAs(4, 0, 0)}} {
			for x := -1; x < 4; x++ {
				for y := -1; y < 4; y++ {
					if Is(h, level, l, x, y) || Is(rich(33), level, l, x, y) || Is(api.Hist{}, level, l, x, y) {
						t.Fatalf("level %d, %v: from %d to %d", level, l, x, y)
					}
				}
			}
			for _, row := range [][]int{nil, {0}, {1}, {0, 1}, {1, 0}, {0, 2}, {0, 2, 1}, {0, 0}, {3}} {
				checkCycle(t, h, level, l, false, row...)
				checkCycle(t, rich(33), level, l, false, row...)
				checkCycle(t, api.Hist{}, level, l, false, row...)
			}
		}
	}
	// The same rows are cycles at both levels.
	l := choices(chosenAs(4, 0, 1), chosenAs(4, 1, 0))
	for level := range 2 {
		checkCycle(t, h, level, l, true, 0, 1)
	}
}

// P19.3: Direct alone, Anti alone, both, and neither.
func TestIsKinds(t *testing.T) {
	// Direct alone: by a session, by a read, by a choice.
	checkPair(t, history(api.Txn{}, api.Txn{}), nil, 0, 1, true, false, true, true)
	checkPair(t, apart(writer(4), reader(take(4, 0))), nil, 0, 1, true, false, true, true)
	checkPair(t, apart(writer(4), writer(4)), choices(chosenAs(4, 0, 1)), 0, 1, true, false, true, true)
	// Anti alone: of what nobody wrote, of what another one did.
	checkPair(t, apart(reader(take(4, -1)), writer(4)), nil, 0, 1, false, true, true, false)
	checkPair(t, apart(reader(take(4, 2)), writer(4), writer(4)), choices(chosenAs(4, 2, 1)), 0, 1, false, true, true, false)
	// Both.
	checkPair(t, history(api.Txn{Reads: initials(4)}, api.Txn{Writes: ints(4)}), nil, 0, 1, true, true, true, true)
	checkPair(t, apart(both(ints(5), take(4, -1)), both(ints(4), take(5, 0))), nil, 0, 1, true, true, true, true)
	checkPair(t, apart(both(ints(4), take(4, -1)), writer(4)), choices(chosenAs(4, 0, 1)), 0, 1, true, true, true, true)
	checkPair(t, apart(both(ints(4), take(4, 2)), writer(4), writer(4)), choices(chosenAs(4, 0, 1), chosenAs(4, 2, 1)), 0, 1, true, true, true, true)
	// Neither.
	checkNone(t, apart(writer(4), writer(4)), nil, 0, 1)
	checkNone(t, apart(reader(take(4, -1)), reader(take(4, -1))), nil, 0, 1)
	checkNone(t, apart(reader(take(4, -1)), writer(5)), nil, 0, 1)
	checkNone(t, apart(api.Txn{}, api.Txn{}), nil, 0, 1)
}

// P19.3: at Si Direct from x to some m, whichever it is, and Anti from m to y.
func TestIsAround(t *testing.T) {
	for n := 3; n <= 32; n++ {
		for _, m := range ints(0, 1, n/2, n-2, n-1) {
			for _, x := range ints(0, 1, n/2, n-2, n-1) {
				for _, y := range ints(0, n/3, n-2, n-1) {
					if x == m || m == y || x == y {
						continue
					}
					// Each is of a session of its own, or has nothing to do with the others: x writes 5, which m reads; y writes 4, which m reads from nobody.
					h := api.Hist{Txns: make([]api.Txn, n)}
					for i := range h.Txns {
						h.Txns[i].Session = 7
					}
					h.Txns[x] = api.Txn{Session: 1, Writes: ints(5)}
					h.Txns[m] = api.Txn{Session: 2, Reads: takes(take(4, -1), take(5, x))}
					h.Txns[y] = api.Txn{Session: 3, Writes: ints(4)}
					checkPair(t, h, nil, x, m, true, false, true, true)
					checkPair(t, h, nil, m, y, false, true, true, false)
					checkPair(t, h, nil, x, y, false, false, false, true)
					checkNone(t, h, nil, y, x)
					h.Txns[m].Reads = takes(take(4, -1))
					checkNone(t, h, nil, x, y)
					h.Txns[m].Reads = takes(take(5, x))
					checkNone(t, h, nil, x, y)
				}
			}
		}
	}
}

// P19.3: at Si what is around counts once, in one order, and not by x or y itself.
func TestIsAroundOnce(t *testing.T) {
	// Session 0 1, Anti 1 2.
	behind := history(api.Txn{}, api.Txn{Reads: initials(4)}, api.Txn{Session: 1, Writes: ints(4)})
	checkPair(t, behind, nil, 0, 2, false, false, false, true)
	// Anti 0 1, session 1 2: none from 0.
	ahead := history(api.Txn{Session: 1, Reads: initials(4)}, api.Txn{Writes: ints(4)}, api.Txn{})
	checkPair(t, ahead, nil, 0, 2, false, false, false, false)
	checkPair(t, ahead, nil, 0, 1, false, true, true, false)
	// By choices, and with two of them.
	chosen := apart(writer(5), both(ints(5), take(4, 3)), writer(4), writer(4))
	checkNone(t, chosen, choices(chosenAs(5, 0, 1)), 0, 2)
	checkNone(t, chosen, choices(chosenAs(4, 3, 2)), 0, 2)
	checkNone(t, chosen, choices(chosenAs(5, 0, 1), chosenAs(4, 2, 3)), 0, 2)
	checkNone(t, chosen, choices(chosenAs(5, 1, 0), chosenAs(4, 3, 2)), 0, 2)
	checkPair(t, chosen, choices(chosenAs(5, 0, 1), chosenAs(4, 3, 2)), 0, 2, false, false, false, true)
	// Anti from x to y alone does not count with m as x, nor Direct from x to y behind m as y.
	alone := apart(reader(take(4, -1)), writer(4))
	checkPair(t, alone, nil, 0, 1, false, true, true, false)
	own := apart(writer(5), both(ints(4), take(4, -1), take(5, 0)))
	checkPair(t, own, nil, 0, 1, true, false, true, true)
	// Anti behind Anti, and two Direct, are no edges.
	twoAnti := history(api.Txn{}, api.Txn{Reads: initials(4)}, api.Txn{Session: 1, Writes: ints(4), Reads: initials(5)}, api.Txn{Session: 2, Writes: ints(5)})
	checkPair(t, twoAnti, nil, 0, 2, false, false, false, true)
	checkNone(t, twoAnti, nil, 0, 3)
	checkNone(t, twoAnti, nil, 1, 3)
	twoDirect := apart(writer(4), both(ints(5), take(4, 0)), reader(take(5, 1), take(6, -1)), writer(6))
	checkNone(t, twoDirect, nil, 0, 2)
	checkPair(t, twoDirect, nil, 1, 3, false, false, false, true)
	checkNone(t, twoDirect, nil, 0, 3)
	// The document's example: each of two takes what the other one overwrites.
	skew := apart(both(ints(1), initials(1, 2)...), both(ints(2), initials(1, 2)...))
	checkPair(t, skew, nil, 0, 1, false, true, true, false)
	checkPair(t, skew, nil, 1, 0, false, true, true, false)
	checkCycle(t, skew, 0, nil, true, 0, 1)
	checkCycle(t, skew, 1, nil, false, 0, 1)
}

// P19.3: rows without elements, and with one.
func TestCycleShort(t *testing.T) {
	lost := apart(both(ints(4), take(4, -1)), both(ints(4), take(4, -1)))
	for _, h := range []api.Hist{{}, lost, rich(5), rich(32)} {
		for level := range 2 {
			for _, l := range [][]api.Choice{nil, {chosenAs(4, 0, 1)}, {chosenAs(4, 0, 1), chosenAs(4, 1, 0)}} {
				checkCycle(t, h, level, l, false)
				if Cycle(h, level, l, nil) || Cycle(h, level, l, ints()) || Cycle(h, level, l, upTo(2)[:0]) {
					t.Fatalf("%s, level %d, %v: a cycle of nobody", brief(h), level, l)
				}
			}
		}
	}
	one := choices(chosenAs(4, 0, 1))
	checkCycle(t, lost, 1, one, true, 0)
	checkCycle(t, lost, 1, one, false, 1)
	checkCycle(t, lost, 0, one, false, 0)
	checkCycle(t, lost, 1, nil, false, 0)
	checkCycle(t, lost, 1, choices(chosenAs(4, 1, 0)), true, 1)
	checkCycle(t, lost, 1, choices(chosenAs(4, 1, 0)), false, 0)
	// The same element twice, though it is a cycle alone.
	checkCycle(t, lost, 1, one, false, 0, 0)
	checkCycle(t, lost, 1, one, false, 0, 0, 0)
	for n := range 33 {
		for x := range n {
			checkCycle(t, rich(n), 0, nil, false, x)
			checkCycle(t, api.Hist{Txns: make([]api.Txn, n)}, 1, nil, false, x)
		}
	}
}

// ring is a history of n transactions of which each reads from the one ahead of it, and the first one from the last one.
func ring(n int) api.Hist {
	var h api.Hist
	for number := range n {
		ahead := (number + n - 1) % n
		keys := ints(number%2, 2+number%3)
		h.Txns = append(h.Txns, api.Txn{Session: backwards(8)[number%8], Writes: keys, Reads: takes(take(2+ahead%3, ahead))})
	}
	return h
}

// P19.3: rows of two and more, in each rotation; with an edge that lacks at each place; the other way round.
func TestCycleRing(t *testing.T) {
	for n := 2; n <= 32; n++ {
		h := ring(n)
		mustBeRight(t, h, true)
		for level := range 2 {
			for _, row := range rotations(upTo(n)) {
				checkCycle(t, h, level, nil, true, row...)
			}
		}
		checkByWords(t, ring(n), nil, upTo(n), backwards(n), upTo(n-1), upTo(n)[1:], append(upTo(n), 0), append(upTo(n), n-1))
		for lacks := range n {
			h := ring(n)
			for i := range h.Txns {
				// No session tells an edge between neighbours.
				h.Txns[i].Session = i % 7
				if i == n-1 {
					h.Txns[i].Session = 7
				}
			}
			h.Txns[lacks].Reads = nil
			for level := range 2 {
				for _, row := range rotations(upTo(n)) {
					checkCycle(t, h, level, nil, false, row...)
				}
			}
		}
	}
}

// P19.3: rows of two and more by choices; a number twice; what is no transaction.
func TestCycleChoices(t *testing.T) {
	h := apart(slices.Repeat([]api.Txn{writer(4)}, 8)...)
	r := rand.New(rand.NewSource(193))
	for n := 2; n <= 8; n++ {
		for range 20 {
			row := r.Perm(8)[:n]
			var l []api.Choice
			for i, number := range row {
				l = append(l, chosenAs(4, number, row[(i+1)%n]))
			}
			for level := range 2 {
				for _, turned := range rotations(row) {
					checkCycle(t, h, level, l, true, turned...)
					checkCycle(t, h, level, l, false, turned[1:]...)
					checkCycle(t, h, level, l, false, append(slices.Clone(turned), turned...)...)
					checkCycle(t, h, level, l, false, append(slices.Clone(turned), turned[0])...)
					for at := range n {
						checkCycle(t, h, level, l, false, slices.Insert(slices.Clone(turned), at, turned[at])...)
						for _, wrong := range ints(-1, 8, 32, least, most) {
							checkCycle(t, h, level, l, false, slices.Insert(slices.Clone(turned), at, wrong)...)
							spoilt := slices.Clone(turned)
							spoilt[at] = wrong
							checkCycle(t, h, level, l, false, spoilt...)
						}
					}
				}
				for lacks := range n {
					checkCycle(t, h, level, slices.Delete(slices.Clone(l), lacks, lacks+1), false, row...)
				}
				backwards := slices.Clone(row)
				slices.Reverse(backwards)
				checkCycle(t, h, level, l, n == 2, backwards...)
			}
		}
	}
	// Far too long, with numbers that are all right, though there is an edge between any two.
	all := pairsBothWays(h)
	checkCycle(t, h, 0, all, true, upTo(8)...)
	checkCycle(t, h, 0, all, false, slices.Repeat(upTo(8), 2)...)
	checkCycle(t, h, 1, all, false, slices.Repeat(upTo(8), 10000)...)
	checkCycle(t, h, 1, all, false, upTo(100000)...)
	checkCycle(t, h, 0, all, false, make([]int, 100000)...)
	// A number twice, apart from itself, where all edges are there.
	checkCycle(t, h, 0, all, false, 0, 1, 0, 2)
	checkCycle(t, h, 0, all, false, 1, 2, 3, 1)
	checkCycle(t, h, 1, all, false, 7, 2, 3, 2)
	checkCycle(t, h, 1, all, false, 7, 2, 3, 7, 4)
}

// shortLists are all lists of up to n of these.
func shortLists[T any](each []T, n int) [][]T {
	all := [][]T{nil}
	last := all
	for range n {
		var next [][]T
		for _, l := range last {
			for _, v := range each {
				next = append(next, append(slices.Clone(l), v))
			}
		}
		all, last = append(all, next...), next
	}
	return all
}

// fewTxns are all transactions of two sessions, two keys, and Reads from -1 and the first three transactions.
func fewTxns() []api.Txn {
	var l []api.Txn
	for s := range 2 {
		for _, w := range [][]int{nil, {0}, {1}, {0, 1}} {
			for first := -2; first < 3; first++ {
				for second := -2; second < 3; second++ {
					txn := api.Txn{Session: s, Writes: w}
					// -2 stands for no Read.
					if first > -2 {
						txn.Reads = append(txn.Reads, take(0, first))
					}
					if second > -2 {
						txn.Reads = append(txn.Reads, take(1, second))
					}
					l = append(l, txn)
				}
			}
		}
	}
	return l
}

// fewHists are histories of up to three of these transactions, valid or not: all of up to one, and some others.
func fewHists() []api.Hist {
	txns := fewTxns()
	l := []api.Hist{{}}
	for i, a := range txns {
		l = append(l, history(a))
		for j, b := range txns {
			if h := history(a, b); (i+2*j)%19 == 0 && (hist.Right(h) || (i+j)%11 == 0) {
				l = append(l, h)
			}
			for k, c := range txns {
				if h := history(a, b, c); len(a.Writes)+len(b.Writes)+len(c.Writes) > 2 && (i+31*j+77*k)%16411 == 0 && (hist.Right(h) || (i+j)%11 == 0) {
					l = append(l, h)
				}
			}
		}
	}
	return l
}

// P19.1 to P19.4: small histories with all choices of up to two, valid or not, and all rows of up to four numbers.
func TestFewByWords(t *testing.T) {
	hists := map[bool]int{}
	for at, h := range fewHists() {
		n := len(h.Txns)
		hists[hist.Right(h)]++
		var each []api.Choice
		for k := range 2 {
			for a := range n {
				for b := range n {
					each = append(each, chosenAs(k, a, b))
				}
			}
		}
		rows := shortLists(upTo(n+1), 2)
		for _, l := range shortLists(each, 2) {
			checkByWords(t, h, l, rows...)
		}
		if at%8 == 0 {
			rows = shortLists(upTo(n+1), 4)
			for _, l := range shortLists(each, 1) {
				checkByWords(t, h, l, rows...)
			}
		}
	}
	if hists[true] < 100 || hists[false] < 100 {
		t.Error(hists)
	}
}

// chanceKeys are keys by chance, rising.
func chanceKeys(r *rand.Rand, keyCount int) []int {
	l := r.Perm(keyCount)[:r.Intn(keyCount+1)]
	for i := range l {
		// Few keys are great ones half the time, so that each end of them is reached.
		l[i] += (16 - keyCount) * (keyCount % 2)
	}
	slices.Sort(l)
	return l
}

// chanceHist is a valid history by chance, of few sessions or of many.
func chanceHist(r *rand.Rand, n, keyCount int) api.Hist {
	var h api.Hist
	sessionCount := 1 + r.Intn(8)
	for range n {
		h.Txns = append(h.Txns, api.Txn{Session: r.Intn(sessionCount), Writes: chanceKeys(r, keyCount)})
	}
	for i := range h.Txns {
		for _, k := range chanceKeys(r, keyCount) {
			from := r.Intn(n)
			if from == i || !slices.Contains(h.Txns[from].Writes, k) {
				from = -1
			}
			h.Txns[i].Reads = append(h.Txns[i].Reads, take(k, from))
		}
	}
	return h
}

// thin is a valid history by chance, most of whose transactions have a few Reads and Writes at most.
func thin(r *rand.Rand, n, keyCount int) api.Hist {
	h := chanceHist(r, n, keyCount)
	for i := range h.Txns {
		reads := &h.Txns[i].Reads
		for len(*reads) > 0 && r.Intn(4) > 0 {
			at := r.Intn(len(*reads))
			*reads = slices.Delete(*reads, at, at+1)
		}
		// What is still read must have its writer.
		h.Txns[i].Writes = slices.DeleteFunc(h.Txns[i].Writes, func(k int) bool {
			return r.Intn(2) > 0 && !slices.ContainsFunc(h.Txns, func(txn api.Txn) bool { return slices.Contains(txn.Reads, take(k, i)) })
		})
	}
	return h
}

// spoil changes one thing of a history by chance.
func spoil(r *rand.Rand, h api.Hist) {
	txn := &h.Txns[r.Intn(len(h.Txns))]
	switch r.Intn(7) {
	case 0:
		txn.Session = r.Intn(10) - 1
	case 1:
		txn.Writes = slices.Insert(txn.Writes, r.Intn(len(txn.Writes)+1), r.Intn(18)-1)
	case 2:
		txn.Reads = slices.Insert(txn.Reads, r.Intn(len(txn.Reads)+1), take(r.Intn(18)-1, -1))
	case 3, 4:
		if len(txn.Reads) > 0 {
			txn.Reads[r.Intn(len(txn.Reads))].From = r.Intn(len(h.Txns)+3) - 2
		}
	default:
		if len(txn.Writes) > 0 {
			i := r.Intn(len(txn.Writes))
			txn.Writes = slices.Delete(txn.Writes, i, i+1)
		}
	}
}

// chanceChoices are some choices of a valid history by chance, if there is a pair.
func chanceChoices(r *rand.Rand, h api.Hist, most int) []api.Choice {
	all := pairsBothWays(h)
	if len(all) == 0 {
		return nil
	}
	var l []api.Choice
	for range r.Intn(most + 1) {
		l = append(l, all[r.Intn(len(all))])
	}
	return l
}

// spoilChoices puts elements among choices that are none, or may be none.
func spoilChoices(r *rand.Rand, l []api.Choice, count int) []api.Choice {
	l = slices.Clone(l)
	for range count {
		c := chosenAs(r.Intn(18)-1, r.Intn(34)-1, r.Intn(34)-1)
		if len(l) > 0 && r.Intn(2) == 0 {
			c = l[r.Intn(len(l))]
			switch r.Intn(4) {
			case 0:
				c.Key = r.Intn(18) - 1
			case 1:
				c.A = r.Intn(34) - 1
			case 2:
				c.B = r.Intn(34) - 1
			default:
				c.A = c.B
			}
		}
		l = slices.Insert(l, r.Intn(len(l)+1), c)
	}
	return l
}

// chanceRows are rows by chance, most of them of numbers of n transactions, and all different.
func chanceRows(r *rand.Rand, n, count int) [][]int {
	var rows [][]int
	for range count {
		row := r.Perm(n)[:r.Intn(min(n, 4)+1)]
		if len(row) > 0 && r.Intn(8) == 0 {
			row[r.Intn(len(row))] = r.Intn(n+2) - 1
		}
		rows = append(rows, row)
	}
	return rows
}

// P19.1 to P19.4: histories and choices by chance, and such that were spoilt, held against the chapter's words.
func TestByChance(t *testing.T) {
	r := rand.New(rand.NewSource(194))
	cycles := 0
	for range 700 {
		n := []int{3, 4, 6, 9}[r.Intn(4)]
		h := chanceHist(r, 1+r.Intn(n), 1+r.Intn(4))
		if r.Intn(2) == 0 {
			h = thin(r, 1+r.Intn(n), 1+r.Intn(16))
		}
		rows := chanceRows(r, len(h.Txns), 12)
		l := chanceChoices(r, h, []int{0, 1, 3, 10}[r.Intn(4)])
		checkByWords(t, h, l, rows...)
		cycles += checkFull(t, h, l, rows...)
		checkByWords(t, h, spoilChoices(r, l, 1+r.Intn(5)), rows...)
		spoil(r, h)
		checkByWords(t, h, l, rows...)
	}
	if cycles < 500 {
		t.Error(cycles)
	}
}

// P19.1 to P19.4: histories of up to 32 transactions with many choices, valid ones and others.
func TestManyByChance(t *testing.T) {
	r := rand.New(rand.NewSource(195))
	for range 24 {
		h := chanceHist(r, 8+r.Intn(25), 1+r.Intn(16))
		if r.Intn(3) > 0 {
			h = thin(r, 8+r.Intn(25), 4+r.Intn(13))
		}
		rows := append(chanceRows(r, len(h.Txns), 20), r.Perm(len(h.Txns)))
		l := chanceChoices(r, h, 300)
		checkByWords(t, h, l, rows...)
		checkByWords(t, h, spoilChoices(r, l, 100), rows...)
		order := r.Perm(len(h.Txns))
		checkByWords(t, h, choice.Of(h, order), append(rows, order)...)
	}
	for _, n := range ints(31, 32) {
		l := choice.Of(rich(n), r.Perm(n))
		checkByWords(t, rich(n), l, upTo(n), backwards(n))
		checkByWords(t, rich(n), spoilChoices(r, l[:n*40], 60), upTo(n), backwards(n))
	}
}

// P19.4: the orders of small histories, whose choices leave no pair open, and all rows.
func TestFull(t *testing.T) {
	r := rand.New(rand.NewSource(196))
	cycles := 0
	for range 150 {
		h := thin(r, 1+r.Intn(4), 1+r.Intn(6))
		rows := shortLists(upTo(len(h.Txns)), 4)
		cycles += checkFull(t, h, choice.Of(h, r.Perm(len(h.Txns))), rows...)
		cycles += checkFull(t, h, chanceChoices(r, h, 6), rows...)
	}
	if cycles < 300 {
		t.Error(cycles)
	}
	// Choices that are valid up to MaxFacts of them.
	h := few()
	all := pairsBothWays(h)
	for _, l := range [][]api.Choice{all, slices.Repeat(all, 20000/len(all)), all[:1], all[len(all)/2:]} {
		if !choice.Right(h, l) || checkFull(t, h, l, shortLists(upTo(5), 3)...) == 0 {
			t.Fatalf("%s: no cycles", brief(l))
		}
	}
}

// behind is a list with others behind it in its capacity.
func behind[T any](list []T, others ...T) []T {
	n := len(list)
	return append(slices.Clone(list), others...)[:n]
}

// whole is a list with all that stands in its capacity, in memory of its own.
func whole[T any](list []T) []T { return slices.Clone(list[:cap(list)]) }

// all is a history with all that stands in the capacities of its lists, in memory of its own.
func all(h api.Hist) api.Hist {
	h.Txns = whole(h.Txns)
	for i, txn := range h.Txns {
		h.Txns[i].Writes, h.Txns[i].Reads = whole(txn.Writes), whole(txn.Reads)
	}
	return h
}

// crowded is a history with others behind it in the capacities of its lists, which would be told if they were read.
func crowded(h api.Hist) api.Hist {
	h = cloned(h)
	for i, txn := range h.Txns {
		h.Txns[i].Writes, h.Txns[i].Reads = behind(txn.Writes, 3, 7, 16), behind(txn.Reads, take(3, -1), take(7, 0), take(16, -2))
	}
	h.Txns = behind(h.Txns, writer(upTo(16)...), reader(initials(upTo(16)...)...), api.Txn{Session: 8})
	return h
}

// question is what the functions are asked: of a history, with choices and a row.
type question struct {
	h   api.Hist
	l   []api.Choice
	row []int
}

// asked are questions with valid histories, choices and rows, and with others.
func asked() []question {
	r := rand.New(rand.NewSource(197))
	l := []question{
		{}, {rich(1), nil, ints(0)}, {rich(2), choices(chosenAs(3, 1, 0)), ints(1, 0)}, {rich(3), choices(chosenAs(3, 1, 0), chosenAs(5, 0, 2)), ints(1, 0)},
		{rich(33), nil, upTo(33)}, {rich(32), pairsBothWays(rich(32))[:40], backwards(32)}, {h: api.Hist{Txns: make([]api.Txn, 32)}, row: upTo(32)}, {ring(9), nil, upTo(9)},
	}
	for i := range 80 {
		h := chanceHist(r, 1+r.Intn(8), 1+r.Intn(16))
		q := question{h, chanceChoices(r, h, 8), r.Perm(len(h.Txns))}
		if i%6 == 0 {
			spoil(r, h)
		}
		if i%6 == 1 {
			q.l = spoilChoices(r, q.l, 3)
		}
		if i%6 == 2 {
			q.row[0] = r.Intn(len(q.row)+2) - 1
		}
		l = append(l, q)
	}
	return l
}

// crowd is a question with others behind its lists in their capacities.
func crowd(q question) question {
	return question{crowded(q.h), behind(q.l, chosenAs(3, 0, 1), chosenAs(16, 9, -9)), behind(q.row, 0, len(q.row), len(q.row)+1)}
}

// ask is all that the functions return.
func ask(q question) []bool {
	var l []bool
	for level := -1; level < 3; level++ {
		l = append(l, Cycle(q.h, level, q.l, q.row))
	}
	for x := -1; x <= len(q.h.Txns); x++ {
		for y := -1; y <= len(q.h.Txns); y++ {
			l = append(l, Direct(q.h, q.l, x, y), Anti(q.h, q.l, x, y), Is(q.h, 0, q.l, x, y), Is(q.h, 1, q.l, x, y), Is(q.h, 2, q.l, x, y))
		}
	}
	return l
}

// P19.1 to P19.3: no call changes what it is given, nor what stands behind the lists in their capacity, and none reads that.
func TestLeavesArguments(t *testing.T) {
	for _, plain := range asked() {
		q := crowd(plain)
		h, l, row := all(q.h), whole(q.l), whole(q.row)
		if got := ask(q); !slices.Equal(got, ask(plain)) {
			t.Fatalf("%s: otherwise with more behind it", brief(plain))
		}
		if !sameHist(all(q.h), h) || !slices.Equal(whole(q.l), l) || !slices.Equal(whole(q.row), row) {
			t.Fatalf("%s was changed", brief(plain))
		}
		checkByWords(t, q.h, q.l, q.row)
	}
}

// P19.1 to P19.3: nothing is kept of an argument: what becomes of it later is seen by the next call.
func TestKeepsNothing(t *testing.T) {
	h := apart(writer(4, 5), writer(4, 5), reader(take(4, 0)))
	l, row := choices(chosenAs(4, 0, 1)), ints(0, 1)
	checkPair(t, h, l, 2, 1, false, true, true, false)
	checkPair(t, h, l, 0, 1, true, false, true, true)
	l[0] = chosenAs(5, 1, 0)
	checkNone(t, h, l, 2, 1)
	checkNone(t, h, l, 0, 1)
	checkPair(t, h, l, 1, 0, true, false, true, true)
	h.Txns[2].Reads[0] = take(5, 1)
	checkPair(t, h, l, 2, 0, false, true, true, false)
	checkCycle(t, h, 0, l, false, row...)
	row[1] = 2
	checkCycle(t, h, 0, l, false, row...)
	l[0] = chosenAs(5, 0, 1)
	row = append(row, 1)
	checkCycle(t, h, 0, l, false, row...)
	h.Txns[2] = api.Txn{Session: 2, Writes: ints(4), Reads: takes(take(5, 0))}
	checkCycle(t, h, 0, append(l, chosenAs(4, 2, 1), chosenAs(4, 1, 0)), true, row...)
	h.Txns[0].Writes[1] = 6
	checkNothing(t, h)
	h.Txns[2].Reads[0] = take(6, 0)
	checkPair(t, h, l, 0, 2, true, false, true, true)
	h.Txns[0].Session = 8
	checkNothing(t, h)
}

// P19.1 to P19.3: what a call returns does not depend on earlier ones.
func TestTwiceAsked(t *testing.T) {
	questions := asked()
	var first [][]bool
	for _, q := range questions {
		first = append(first, ask(q))
	}
	for i, q := range slices.Backward(questions) {
		if !slices.Equal(ask(q), first[i]) {
			t.Fatalf("%s: otherwise the second time", brief(q))
		}
	}
}
