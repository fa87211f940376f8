package choice

import (
	"fmt"
	"math/rand"
	"slices"
	"testing"

	"inquest/api"
	"inquest/graph"
	"inquest/hist"
	"inquest/index"
	"inquest/known"
)

const (
	least = -1 << 63
	most  = 1<<63 - 1
)

func history(l ...api.Txn) api.Hist { return api.Hist{Txns: l} }

func ints(l ...int) []int { return l }

func take(k, from int) api.Take { return api.Take{Key: k, From: from} }

func takes(l ...api.Take) []api.Take { return l }

func choice(k, a, b int) api.Choice { return api.Choice{Key: k, A: a, B: b} }

func choices(l ...api.Choice) []api.Choice { return l }

// writer, reader and both are transactions of three sessions.
func writer(l ...int) api.Txn { return api.Txn{Session: 4, Writes: l} }

func reader(l ...api.Take) api.Txn { return api.Txn{Session: 6, Reads: l} }

func both(writes []int, l ...api.Take) api.Txn {
	return api.Txn{Session: 5, Writes: writes, Reads: l}
}

// apart is a history of these transactions, of which the first eight are of sessions of their own.
func apart(l ...api.Txn) api.Hist {
	h := api.Hist{Txns: slices.Clone(l)}
	for i := range h.Txns {
		h.Txns[i].Session = i % 8
	}
	return h
}

// upTo are the numbers from 0 on that are less than n.
func upTo(n int) []int {
	var l []int
	for i := range n {
		l = append(l, i)
	}
	return l
}

// initials are Reads of the initial values of keys.
func initials(l ...int) []api.Take {
	var reads []api.Take
	for _, k := range l {
		reads = append(reads, take(k, -1))
	}
	return reads
}

// brief is how a value is printed where a test fails; long ones are cut off.
func brief(v any) string { return fmt.Sprintf("%.600s", fmt.Sprint(v)) }

func sameTxn(a, b api.Txn) bool {
	return a.Session == b.Session && slices.Equal(a.Writes, b.Writes) && slices.Equal(a.Reads, b.Reads)
}

func sameHist(a, b api.Hist) bool { return slices.EqualFunc(a.Txns, b.Txns, sameTxn) }

func sameGraph(a, b graph.Graph) bool { return a.N == b.N && slices.Equal(a.Rows, b.Rows) }

// cloned is a history with lists of its own.
func cloned(h api.Hist) api.Hist {
	h.Txns = slices.Clone(h.Txns)
	for i, txn := range h.Txns {
		h.Txns[i].Writes, h.Txns[i].Reads = slices.Clone(txn.Writes), slices.Clone(txn.Reads)
	}
	return h
}

// power is 2 to the power of i.
func power(i int) uint64 {
	p := uint64(1)
	for range i {
		p *= 2
	}
	return p
}

// edges tells of any two nodes whether there is an edge from the one to the other.
type edges [][]bool

// edgesOf are the edges that a function tells.
func edgesOf(n int, has func(a, b int) bool) edges {
	var e edges
	for a := range n {
		e = append(e, make([]bool, n))
		for b := range n {
			e[a][b] = has(a, b)
		}
	}
	return e
}

// graphOf is the graph with these edges.
func graphOf(e edges) graph.Graph {
	g := graph.Graph{N: len(e)}
	for _, ends := range e {
		row := uint64(0)
		for b, is := range ends {
			if is {
				row += power(b)
			}
		}
		g.Rows = append(g.Rows, row)
	}
	return g
}

// drawn is the graph with some edges, of which each is two nodes of a list.
func drawn(n int, l ...int) graph.Graph {
	return graphOf(edgesOf(n, func(a, b int) bool {
		for i := 0; i+1 < len(l); i += 2 {
			if l[i] == a && l[i+1] == b {
				return true
			}
		}
		return false
	}))
}

// rightByWords tells by the chapter's words whether choices are valid.
func rightByWords(h api.Hist, l []api.Choice) bool {
	if !hist.Right(h) {
		return false
	}
	for _, c := range l {
		writers := 0
		for number, txn := range h.Txns {
			if (number == c.A || number == c.B) && slices.Contains(txn.Writes, c.Key) {
				writers++
			}
		}
		// The same one, asked for twice, is counted once.
		if writers != 2 {
			return false
		}
	}
	return len(l) <= 20000
}

// wwByWords, rwByWords, directByWords and fullByWords are the edges that there are by the chapter's words, if the choices are valid.
func wwByWords(h api.Hist, l []api.Choice) edges {
	return edgesOf(len(h.Txns), func(a, b int) bool {
		return slices.ContainsFunc(l, func(c api.Choice) bool { return c.A == a && c.B == b })
	})
}

func rwByWords(h api.Hist, l []api.Choice) edges {
	return edgesOf(len(h.Txns), func(a, b int) bool {
		reads := h.Txns[a].Reads
		initial := slices.ContainsFunc(reads, func(read api.Take) bool { return read.From == -1 && slices.Contains(h.Txns[b].Writes, read.Key) })
		later := slices.ContainsFunc(l, func(c api.Choice) bool { return c.B == b && slices.Contains(reads, take(c.Key, c.A)) })
		return a != b && (initial || later)
	})
}

func directByWords(h api.Hist, l []api.Choice) edges {
	ww := wwByWords(h, l)
	return edgesOf(len(h.Txns), func(a, b int) bool {
		so := a < b && h.Txns[a].Session == h.Txns[b].Session
		wr := slices.ContainsFunc(h.Txns[b].Reads, func(read api.Take) bool { return read.From == a })
		return so || wr || ww[a][b]
	})
}

func fullByWords(h api.Hist, level int, l []api.Choice) edges {
	direct, rw := directByWords(h, l), rwByWords(h, l)
	return edgesOf(len(h.Txns), func(x, z int) bool {
		if level == 0 {
			return direct[x][z] || rw[x][z]
		}
		return direct[x][z] || slices.ContainsFunc(upTo(len(h.Txns)), func(y int) bool { return direct[x][y] && rw[y][z] })
	})
}

// pairsByWords are the pairs of a valid history: by keys, then by A, then by B.
func pairsByWords(h api.Hist) []api.Choice {
	var l []api.Choice
	for k := range 16 {
		for a := range h.Txns {
			for b := range h.Txns {
				if a < b && slices.Contains(h.Txns[a].Writes, k) && slices.Contains(h.Txns[b].Writes, k) {
					l = append(l, choice(k, a, b))
				}
			}
		}
	}
	return l
}

// ofByWords are the choices that an order makes, by the chapter's words.
func ofByWords(h api.Hist, order []int) []api.Choice {
	sorted := slices.Sorted(slices.Values(order))
	if !hist.Right(h) || !slices.Equal(sorted, upTo(len(h.Txns))) {
		return nil
	}
	var l []api.Choice
	for _, pair := range pairsByWords(h) {
		for _, number := range order {
			if number == pair.A {
				l = append(l, choice(pair.Key, pair.A, pair.B))
				break
			}
			if number == pair.B {
				l = append(l, choice(pair.Key, pair.B, pair.A))
				break
			}
		}
	}
	return l
}

// openByWords is the first open pair of valid choices, by the chapter's words.
func openByWords(h api.Hist, l []api.Choice) (api.Choice, bool) {
	for _, p := range pairsByWords(h) {
		if !slices.Contains(l, p) && !slices.Contains(l, choice(p.Key, p.B, p.A)) {
			return p, true
		}
	}
	return api.Choice{}, false
}

// mustBeRight ends a test whose history is valid, or not, otherwise than the test means it to be.
func mustBeRight(t *testing.T, h api.Hist, want bool) {
	t.Helper()
	if hist.Right(h) != want {
		t.Fatalf("hist.Right(%s) is not %v", brief(h), want)
	}
}

func checkRight(t *testing.T, h api.Hist, l []api.Choice, want bool) {
	t.Helper()
	if Right(h, l) != want {
		t.Fatalf("Right(%s, %s) is not %v", brief(h), brief(l), want)
	}
}

func checkGraph(t *testing.T, name string, h api.Hist, l []api.Choice, got, want graph.Graph) {
	t.Helper()
	if !sameGraph(got, want) {
		t.Fatalf("%s(%s, %s) = %s, want %s", name, brief(h), brief(l), brief(got), brief(want))
	}
}

// checkWw and checkRw hold a graph against its edges, of which each is two nodes of a list.
func checkWw(t *testing.T, h api.Hist, l []api.Choice, edges ...int) {
	t.Helper()
	checkRight(t, h, l, true)
	checkGraph(t, "Ww", h, l, Ww(h, l), drawn(len(h.Txns), edges...))
}

func checkRw(t *testing.T, h api.Hist, l []api.Choice, edges ...int) {
	t.Helper()
	checkRight(t, h, l, true)
	checkGraph(t, "Rw", h, l, Rw(h, l), drawn(len(h.Txns), edges...))
}

func checkFullGraph(t *testing.T, h api.Hist, level int, l []api.Choice, want graph.Graph) {
	t.Helper()
	got, err := Full(h, level, l)
	if err != api.OK {
		t.Fatalf("Full(%s, %d, %s): error %d", brief(h), level, brief(l), err)
	}
	checkGraph(t, fmt.Sprintf("Full at %d", level), h, l, got, want)
}

func checkFull(t *testing.T, h api.Hist, level int, l []api.Choice, edges ...int) {
	t.Helper()
	checkRight(t, h, l, true)
	checkFullGraph(t, h, level, l, drawn(len(h.Txns), edges...))
}

func checkNoFull(t *testing.T, h api.Hist, level int, l []api.Choice) {
	t.Helper()
	if g, err := Full(h, level, l); err != api.ErrArg || g.N != 0 || len(g.Rows) != 0 {
		t.Fatalf("Full(%s, %d, %s) = %s, error %d", brief(h), level, brief(l), brief(g), err)
	}
}

func checkOf(t *testing.T, h api.Hist, order []int, want ...api.Choice) {
	t.Helper()
	if got := Of(h, order); !slices.Equal(got, want) {
		t.Fatalf("Of(%s, %v) = %s, want %s", brief(h), order, brief(got), brief(want))
	}
}

func checkOpen(t *testing.T, h api.Hist, l []api.Choice, want api.Choice) {
	t.Helper()
	if got, is := Open(h, l); got != want || !is {
		t.Fatalf("Open(%s, %s) = %v, %v, want %v", brief(h), brief(l), got, is, want)
	}
}

func checkShut(t *testing.T, h api.Hist, l []api.Choice) {
	t.Helper()
	if got, is := Open(h, l); got != choice(0, 0, 0) || is {
		t.Fatalf("Open(%s, %s) = %v, %v, want none", brief(h), brief(l), got, is)
	}
}

// checkWrong holds what the functions return of choices that are not valid.
func checkWrong(t *testing.T, h api.Hist, l []api.Choice) {
	t.Helper()
	checkRight(t, h, l, false)
	checkGraph(t, "Ww", h, l, Ww(h, l), graph.Graph{})
	checkGraph(t, "Rw", h, l, Rw(h, l), graph.Graph{})
	for _, level := range ints(0, 1, -1, 2) {
		checkNoFull(t, h, level, l)
	}
	checkShut(t, h, l)
}

// checkByWords holds the five functions that are given choices against the chapter's words.
func checkByWords(t *testing.T, h api.Hist, l []api.Choice) bool {
	t.Helper()
	if !rightByWords(h, l) {
		checkWrong(t, h, l)
		return false
	}
	checkRight(t, h, l, true)
	checkGraph(t, "Ww", h, l, Ww(h, l), graphOf(wwByWords(h, l)))
	checkGraph(t, "Rw", h, l, Rw(h, l), graphOf(rwByWords(h, l)))
	checkFullGraph(t, h, 0, l, graphOf(fullByWords(h, 0, l)))
	checkFullGraph(t, h, 1, l, graphOf(fullByWords(h, 1, l)))
	if want, is := openByWords(h, l); is {
		checkOpen(t, h, l, want)
	} else {
		checkShut(t, h, l)
	}
	return true
}

// checkOrder holds what an order makes against the chapter's words, and against the second sentence of P18.4.
func checkOrder(t *testing.T, h api.Hist, order []int) {
	t.Helper()
	want := ofByWords(h, order)
	checkOf(t, h, order, want...)
	if slices.Equal(slices.Sorted(slices.Values(order)), upTo(len(h.Txns))) && hist.Right(h) {
		l := Of(h, order)
		checkRight(t, h, l, true)
		checkShut(t, h, l)
	}
}

// checkMore holds the first sentence of P18.4: all edges are there still if there are more choices.
func checkMore(t *testing.T, h api.Hist, few, more []api.Choice) {
	t.Helper()
	checkRight(t, h, few, true)
	checkRight(t, h, more, true)
	ser, _ := Full(h, 0, few)
	si, _ := Full(h, 1, few)
	moreSer, _ := Full(h, 0, more)
	moreSi, _ := Full(h, 1, more)
	for i, two := range [][2]graph.Graph{{Ww(h, few), Ww(h, more)}, {Rw(h, few), Rw(h, more)}, {ser, moreSer}, {si, moreSi}} {
		for _, e := range graph.Edges(two[0]) {
			if !graph.Has(two[1], e.A, e.B) {
				t.Fatalf("%s: graph %d has the edge %v with the choices %s, and not with %s", brief(h), i, e, brief(few), brief(more))
			}
		}
	}
}

// rich is a valid history of which each function has something to tell: n transactions, each of which writes all keys, and reads those that are odd from the one ahead of it, the others from nobody.
func rich(n int) api.Hist {
	var h api.Hist
	for number := range n {
		txn := api.Txn{Session: number % 8, Writes: upTo(16)}
		for k := range 16 {
			txn.Reads = append(txn.Reads, take(k, []int{-1, number - 1}[k%2]))
		}
		h.Txns = append(h.Txns, txn)
	}
	return h
}

// checkNothing holds what the functions return of a history that is not valid, with no choices, with some, and with orders.
func checkNothing(t *testing.T, h api.Hist) {
	t.Helper()
	mustBeRight(t, h, false)
	for _, l := range [][]api.Choice{nil, {}, {choice(4, 0, 1)}, {choice(3, 1, 0), choice(0, 0, 1), choice(15, 0, 1)}, {choice(4, 0, 0)}} {
		checkWrong(t, h, l)
	}
	n := len(h.Txns)
	for _, order := range [][]int{nil, upTo(n), backwards(n), upTo(n - 1), upTo(n + 1)} {
		checkOf(t, h, order)
	}
}

// backwards are the numbers that are less than n, from the greatest one on.
func backwards(n int) []int {
	l := upTo(n)
	slices.Reverse(l)
	return l
}

// checkWrongAnywhere holds that nothing follows in a history in which any one transaction is wrong as told, among others that are right.
func checkWrongAnywhere(t *testing.T, name string, wrong func(txn *api.Txn, number, count int)) {
	t.Helper()
	for _, n := range ints(2, 3, 5) {
		for number := range n {
			h := rich(n)
			mustBeRight(t, h, true)
			wrong(&h.Txns[number], number, n)
			if hist.Right(h) {
				t.Fatalf("%s, %v of %v: valid", name, number, n)
			}
			checkNothing(t, h)
		}
	}
}

// P18.1 to P18.3: nothing follows if there are more than MaxTxns transactions.
func TestWrongMany(t *testing.T) {
	for _, n := range ints(33, 34, 63, 64, 65, 200) {
		checkNothing(t, rich(n))
		checkNothing(t, api.Hist{Txns: make([]api.Txn, n)})
		checkWrong(t, rich(n), choices(choice(4, n-2, n-1)))
	}
	checkNothing(t, history(append(rich(32).Txns, api.Txn{})...))
	checkByWords(t, rich(32), choices(choice(4, 30, 31)))
}

// P18.1 to P18.3: nothing follows if a Session is none.
func TestWrongSession(t *testing.T) {
	for _, s := range ints(least, -2, -1, 8, 9, 1<<32, most) {
		checkWrongAnywhere(t, fmt.Sprint("session ", s), func(txn *api.Txn, _, _ int) { txn.Session = s })
		checkNothing(t, history(api.Txn{Session: s}))
		checkNothing(t, history(writer(4), writer(4), api.Txn{Session: s}))
	}
}

// wrongKeys are lists of keys that may not be: with numbers that are no keys, with the same twice, with decreasing ones.
func wrongKeys() [][]int {
	return [][]int{
		append(ints(-1), upTo(16)...), append(upTo(16), 16), append(upTo(16), most), append(ints(least), upTo(16)...), append(upTo(16), 17),
		append(ints(0), upTo(16)...), append(upTo(16), 15), append(upTo(16), 0), slices.Insert(upTo(16), 8, 8), slices.Insert(upTo(16), 8, 7),
		append(ints(1, 0), upTo(16)[2:]...), append(upTo(14), 15, 14), append(upTo(16)[1:], 0), append(ints(15), upTo(15)...),
	}
}

// P18.1 to P18.3: nothing follows if Writes are no keys, or not in increasing order.
func TestWrongWrites(t *testing.T) {
	for _, l := range wrongKeys() {
		checkWrongAnywhere(t, fmt.Sprint("writes ", l), func(txn *api.Txn, _, _ int) { txn.Writes = l })
	}
	for _, l := range [][]int{{-1}, {16}, {least}, {most}, {4, 4}, {4, 3}, {15, 0}} {
		checkNothing(t, history(writer(l...)))
		checkNothing(t, history(writer(4), writer(4), writer(l...)))
		checkNothing(t, history(writer(l...), writer(l...)))
		checkWrong(t, history(writer(l...), writer(l...)), choices(choice(l[0], 0, 1)))
	}
}

// P18.1 to P18.3: nothing follows if the keys of Reads are none, or not in increasing order.
func TestWrongReads(t *testing.T) {
	for _, l := range wrongKeys() {
		checkWrongAnywhere(t, fmt.Sprint("reads ", l), func(txn *api.Txn, number, _ int) {
			txn.Reads = nil
			for _, k := range l {
				txn.Reads = append(txn.Reads, take(k, number-1))
			}
		})
		checkWrongAnywhere(t, fmt.Sprint("reads of nobody's ", l), func(txn *api.Txn, _, _ int) { txn.Reads = initials(l...) })
	}
	for _, l := range [][]int{{-1}, {16}, {least}, {most}, {4, 4}, {4, 3}, {15, 0}} {
		checkNothing(t, history(writer(4), writer(4), reader(initials(l...)...)))
		checkNothing(t, history(both(ints(4), initials(l...)...), writer(4)))
	}
}

// P18.1 to P18.3: nothing follows if a Read is from what is no number of a transaction, from its own one, or from one that does not write the key.
func TestWrongFrom(t *testing.T) {
	for _, k := range ints(0, 4, 15) {
		for _, from := range ints(least, -3, -2, 32, 33, 1<<32, most) {
			checkWrongAnywhere(t, fmt.Sprint("from ", from), func(txn *api.Txn, _, _ int) { txn.Reads[k].From = from })
		}
		for beyond := range 4 {
			checkWrongAnywhere(t, fmt.Sprint("from the count and ", beyond), func(txn *api.Txn, _, count int) { txn.Reads[k].From = count + beyond })
		}
		checkWrongAnywhere(t, "from itself", func(txn *api.Txn, number, _ int) { txn.Reads[k].From = number })
		for _, writes := range [][]int{nil, {(k + 1) % 16}, slices.Delete(upTo(16), k, k+1)} {
			checkNothing(t, history(writer(k), writer(k), reader(take(k, 3)), writer(writes...)))
		}
	}
}

// P18.1: a choice may not be if its two transactions are the same, or one of them is none, or does not write the key, or the key is none; nor is it among others that may be, wherever it stands.
func TestWrongChoices(t *testing.T) {
	h := apart(writer(0, 4, 15), writer(4, 5), both(upTo(16), take(4, 1), take(5, -1)), both(ints(0, 4, 15), take(4, 0)), reader(take(4, 1)))
	good := choices(choice(4, 0, 1), choice(0, 3, 2), choice(15, 0, 2), choice(5, 1, 2), choice(4, 3, 0), choice(4, 1, 0))
	checkByWords(t, h, good)
	var wrong []api.Choice
	for a := range 5 {
		for _, k := range ints(0, 4, 5, 7, 15) {
			wrong = append(wrong, choice(k, a, a))
		}
	}
	for _, number := range ints(least, least+1, -5, -2, -1, 5, 6, 31, 32, 33, 64, 1<<32, 1<<32+1, 1<<32+2, most-1, most) {
		for _, k := range ints(0, 4, 15) {
			wrong = append(wrong, choice(k, number, 2), choice(k, 2, number), choice(k, number, number), choice(k, number, 4))
		}
	}
	// 1 writes neither 0 nor 15, 0 and 3 do not write 5, 4 writes nothing; nobody but 2 writes 7.
	for _, c := range choices(choice(0, 1, 2), choice(0, 2, 1), choice(15, 1, 3), choice(15, 3, 1), choice(5, 0, 1), choice(5, 2, 3), choice(5, 0, 3), choice(4, 4, 1), choice(4, 1, 4), choice(7, 2, 1), choice(7, 1, 2)) {
		wrong = append(wrong, c)
	}
	for _, k := range ints(least, least+4, -16, -12, -2, -1, 16, 17, 20, 31, 32, 36, 64, 68, 1<<32, 1<<32+4, most-1, most) {
		wrong = append(wrong, choice(k, 0, 2), choice(k, 2, 3), choice(k, 3, 0))
	}
	for _, c := range wrong {
		checkWrong(t, h, choices(c))
		checkWrong(t, h, choices(c, c))
		for at := range len(good) + 1 {
			checkWrong(t, h, slices.Insert(slices.Clone(good), at, c))
		}
	}
}

// P18.1: there are no choices of a key that nobody writes, though it is read, nor of one that has a single writer, nor in a history without transactions.
func TestWrongUnwritten(t *testing.T) {
	for _, k := range ints(0, 1, 14, 15) {
		other := (k + 5) % 16
		for _, h := range []api.Hist{
			history(reader(take(k, -1)), reader(take(k, -1))), history(writer(other), writer(other)), history(writer(k), reader(take(k, 0))),
			history(writer(k), writer(other)), history(both(ints(other), take(k, -1)), writer(k)), {}, history(writer(k)),
		} {
			mustBeRight(t, h, true)
			for a := -1; a < 4; a++ {
				for b := -1; b < 4; b++ {
					checkWrong(t, h, choices(choice(k, a, b)))
				}
			}
			checkByWords(t, h, nil)
		}
		checkRight(t, history(writer(k), writer(k)), choices(choice(k, 0, 1)), true)
		checkRight(t, history(writer(k), writer(k)), choices(choice(k, 1, 0)), true)
		checkWrong(t, history(writer(k), writer(k)), choices(choice(other, 0, 1)))
	}
}

// P18.1: 20000 choices may be, 20001 may not, whatever they are; a wrong one is found wherever it stands.
func TestCountOfChoices(t *testing.T) {
	h := apart(writer(4), writer(4), both(ints(4, 5), take(4, 0)), reader(take(4, 1)))
	two := choices(choice(4, 0, 1), choice(4, 2, 1), choice(4, 1, 0))
	many := slices.Repeat(two, 7000)
	for _, n := range ints(19998, 19999, 20000) {
		checkWw(t, h, many[:n], 0, 1, 2, 1, 1, 0)
		checkByWords(t, h, many[:n])
	}
	for _, n := range ints(20001, 20002, 20736, 21000) {
		checkWrong(t, h, many[:n])
	}
	checkWrong(t, h, slices.Repeat(two[:1], 20001))
	checkWrong(t, h, slices.Repeat(two, 25000))
	for _, at := range ints(0, 1, 9999, 19998, 19999) {
		l := slices.Clone(many[:20000])
		l[at] = choice(5, 0, 1)
		checkWrong(t, h, l)
	}
	checkWrong(t, apart(writer(4)), make([]api.Choice, 20000))
	// All choices of the greatest history, both ways round, are fewer.
	var all []api.Choice
	for _, pair := range index.Pairs(rich(32)) {
		all = append(all, pair, choice(pair.Key, pair.B, pair.A))
	}
	if len(all) != 15872 {
		t.Fatal(len(all))
	}
	checkByWords(t, rich(32), all)
	checkByWords(t, rich(32), append(all, all[:4128]...))
	checkWrong(t, rich(32), append(all, all[:4129]...))
}

// P18.1: choices may be that no order makes: the same twice, the other way round, a round of three.
func TestInconsistent(t *testing.T) {
	h := apart(writer(4), writer(4), writer(4), reader(take(4, 0)), reader(take(4, 1)))
	one, turned := choice(4, 0, 1), choice(4, 1, 0)
	checkWw(t, h, choices(one, turned), 0, 1, 1, 0)
	checkRw(t, h, choices(one, turned), 3, 1, 4, 0)
	checkFull(t, h, 0, choices(one, turned), 0, 1, 1, 0, 0, 3, 1, 4, 3, 1, 4, 0)
	checkFull(t, h, 1, choices(one, turned), 0, 1, 1, 0, 0, 3, 1, 4, 0, 1, 1, 0)
	checkWw(t, h, choices(one, one), 0, 1)
	checkRw(t, h, choices(one, one), 3, 1)
	checkFull(t, h, 0, choices(one, one), 0, 1, 0, 3, 1, 4, 3, 1)
	round := choices(one, choice(4, 1, 2), choice(4, 2, 0))
	checkWw(t, h, round, 0, 1, 1, 2, 2, 0)
	checkRw(t, h, round, 3, 1, 4, 2)
	checkFull(t, h, 0, round, 0, 1, 1, 2, 2, 0, 0, 3, 1, 4, 3, 1, 4, 2)
	for _, l := range [][]api.Choice{{one, turned}, {turned, one}, {one, one}, round, append(slices.Clone(round), round...)} {
		checkByWords(t, h, l)
	}
	// Against what the sessions tell, and against what is read.
	late := history(both(ints(4), take(4, 1)), both(ints(4)))
	checkWw(t, late, choices(turned), 1, 0)
	checkByWords(t, late, choices(turned))
	checkByWords(t, late, choices(one))
}

// P18.1, P18.2: the chapter's example.
func TestExample(t *testing.T) {
	h := history(api.Txn{Session: 0, Reads: takes(take(4, 1))}, api.Txn{Session: 1, Writes: ints(4)}, api.Txn{Session: 2, Writes: ints(4)})
	l := choices(choice(4, 1, 2))
	checkWw(t, h, l, 1, 2)
	checkRw(t, h, l, 0, 2)
	checkFull(t, h, api.Ser, l, 1, 0, 1, 2, 0, 2)
	checkFull(t, h, api.Si, l, 1, 0, 1, 2)
	checkShut(t, h, l)
	checkOpen(t, h, nil, choice(4, 1, 2))
	checkOf(t, h, ints(1, 0, 2), l...)
}

// P18.1 to P18.3: no choices, nil and empty, in histories with and without transactions.
func TestNoChoices(t *testing.T) {
	for _, l := range [][]api.Choice{nil, {}} {
		checkWw(t, api.Hist{}, l)
		checkRw(t, api.Hist{}, l)
		checkFull(t, api.Hist{}, 0, l)
		checkFull(t, api.Hist{}, 1, l)
		checkShut(t, api.Hist{}, l)
		h := apart(both(ints(4), take(4, -1), take(5, -1)), both(ints(4, 5), take(4, 0)), reader(take(4, 1), take(5, 1)))
		checkWw(t, h, l)
		checkRw(t, h, l, 0, 1)
		checkFull(t, h, 0, l, 0, 1, 1, 2)
		checkFull(t, h, 1, l, 0, 1, 1, 2)
		r := rand.New(rand.NewSource(181))
		for range 60 {
			h := chanceHist(r, 1+r.Intn(32), 1+r.Intn(16))
			checkByWords(t, h, l)
			checkWw(t, h, l)
			checkGraph(t, "Rw", h, l, Rw(h, l), known.Init(h))
		}
		for n := range 33 {
			idle := api.Hist{Txns: make([]api.Txn, n)}
			checkWw(t, idle, l)
			checkRw(t, idle, l)
			checkByWords(t, idle, l)
		}
	}
	checkOf(t, api.Hist{}, nil)
	checkOf(t, api.Hist{}, ints())
	checkOf(t, api.Hist{}, ints(0))
	checkOf(t, api.Hist{}, ints(-1))
}

// P18.1: Ww has an edge for each choice and no other one, for all nodes and keys.
func TestWw(t *testing.T) {
	for _, k := range ints(0, 1, 7, 14, 15) {
		h := apart(slices.Repeat([]api.Txn{writer(k)}, 32)...)
		for a := range 32 {
			for b := range 32 {
				if a != b {
					checkWw(t, h, choices(choice(k, a, b)), a, b)
				}
			}
		}
		checkWw(t, h, choices(choice(k, 0, 1), choice(k, 1, 2)), 0, 1, 1, 2)
		checkWw(t, h, choices(choice(k, 31, 0), choice(k, 31, 30), choice(k, 0, 31)), 31, 0, 31, 30, 0, 31)
	}
	two := apart(writer(4, 9), writer(4, 9), both(ints(9), take(4, 0)), writer(4))
	checkWw(t, two, choices(choice(4, 0, 1), choice(9, 0, 1)), 0, 1)
	checkWw(t, two, choices(choice(4, 0, 1), choice(9, 1, 0)), 0, 1, 1, 0)
	checkWw(t, two, choices(choice(9, 1, 0), choice(9, 0, 2), choice(4, 3, 1)), 1, 0, 0, 2, 3, 1)
	// What is read, and what the sessions tell, makes no edge.
	checkWw(t, history(writer(4), both(ints(4), take(4, 0)), reader(take(4, 1), take(5, -1)), writer(4, 5)), choices(choice(4, 3, 0)), 3, 0)
	var all []api.Choice
	var nodes []int
	for a := range 32 {
		for b := range 32 {
			if a != b {
				all, nodes = append(all, choice(a*b%16, a, b)), append(nodes, a, b)
			}
		}
	}
	checkWw(t, rich(32), all, nodes...)
}

// P18.1: Rw has an edge from each transaction that reads the key from A, but from B itself.
func TestRw(t *testing.T) {
	for _, k := range ints(0, 1, 7, 14, 15) {
		other := (k + 3) % 16
		one := choices(choice(k, 0, 1))
		// One that reads it from A, ahead of both and behind them; many of them.
		checkRw(t, history(writer(k), writer(k), reader(take(k, 0))), one, 2, 1)
		checkRw(t, history(reader(take(k, 1)), writer(k), writer(k)), choices(choice(k, 1, 2)), 0, 2)
		checkRw(t, history(reader(take(k, 2)), writer(k), writer(k)), choices(choice(k, 2, 1)), 0, 1)
		checkRw(t, history(writer(k), writer(k), reader(take(k, 0)), reader(take(k, 0)), both(ints(k), take(k, 0))), one, 2, 1, 3, 1, 4, 1)
		// One that reads it from B, and the same choice the other way round.
		checkRw(t, history(writer(k), writer(k), reader(take(k, 1))), one)
		checkRw(t, history(writer(k), writer(k), reader(take(k, 1))), choices(choice(k, 1, 0)), 2, 0)
		// One that reads it from -1: the edges of known.Init.
		checkRw(t, history(writer(k), writer(k), reader(take(k, -1))), one, 2, 0, 2, 1)
		// One that reads another key from A, and another key from nobody.
		checkRw(t, history(writer(sorted(k, other)...), writer(sorted(k, other)...), reader(take(other, 0))), one)
		checkRw(t, history(writer(k), writer(k), reader(take(other, -1)), writer(other)), one, 2, 3)
		// B itself, alone and with others; A reads from B.
		checkRw(t, history(writer(k), both(ints(k), take(k, 0))), one)
		checkRw(t, history(writer(k), both(ints(k), take(k, 0)), reader(take(k, 0))), one, 2, 1)
		checkRw(t, history(writer(k), both(ints(k), take(k, 0)), writer(k)), append(one, choice(k, 0, 2)), 1, 2)
		checkRw(t, history(both(ints(k), take(k, 1)), writer(k)), one)
		checkRw(t, history(both(ints(k), take(k, 1)), both(ints(k), take(k, 0))), one)
		checkRw(t, history(both(ints(k), take(k, 1)), both(ints(k), take(k, 0)), writer(k)), choices(choice(k, 0, 2), choice(k, 1, 2)), 0, 2, 1, 2)
		// Nobody reads from A, or nobody at all.
		checkRw(t, history(writer(k), writer(k)), one)
		checkRw(t, history(writer(k), writer(k), writer(k), reader(take(k, 2))), one)
		// A choice that begins at the last transaction, whose number is next to that of none.
		checkRw(t, history(reader(take(k, -1)), writer(other), writer(k), writer(k)), choices(choice(k, 3, 2)), 0, 2, 0, 3)
	}
}

// sorted are two keys, rising.
func sorted(a, b int) []int { return ints(min(a, b), max(a, b)) }

// P18.1: Rw of several choices and several keys; each tells its own key's readers alone.
func TestRwKeys(t *testing.T) {
	h := apart(writer(3, 9), writer(3, 9), writer(3, 9), reader(take(3, 0), take(9, 1)), reader(take(9, 0)), both(ints(9), take(3, 2)))
	checkRw(t, h, choices(choice(3, 0, 1)), 3, 1)
	checkRw(t, h, choices(choice(9, 0, 1)), 4, 1)
	checkRw(t, h, choices(choice(3, 0, 1), choice(9, 0, 1)), 3, 1, 4, 1)
	checkRw(t, h, choices(choice(3, 0, 1), choice(3, 0, 2)), 3, 1, 3, 2)
	checkRw(t, h, choices(choice(9, 1, 0), choice(3, 2, 0), choice(9, 1, 5), choice(9, 2, 5)), 3, 0, 5, 0, 3, 5)
	checkRw(t, h, choices(choice(3, 1, 0), choice(3, 1, 2)))
	checkRw(t, h, choices(choice(3, 2, 0), choice(3, 2, 1), choice(3, 2, 1)), 5, 0, 5, 1)
	// The same edge by two keys, and by Init.
	twice := apart(writer(3, 9), writer(3, 9), reader(take(3, 0), take(9, 0)), reader(take(3, 0), take(9, -1)))
	checkRw(t, twice, choices(choice(3, 0, 1), choice(9, 0, 1)), 2, 1, 3, 0, 3, 1)
	checkRw(t, twice, choices(choice(3, 0, 1)), 2, 1, 3, 0, 3, 1)
	checkRw(t, twice, choices(choice(9, 0, 1)), 2, 1, 3, 0, 3, 1)
	checkRw(t, twice, choices(choice(3, 1, 0), choice(9, 1, 0)), 3, 0, 3, 1)
	// From each transaction, to each.
	for a := range 32 {
		h := api.Hist{Txns: slices.Repeat([]api.Txn{both(ints(7), take(7, a))}, 32)}
		h.Txns[a].Reads = nil
		for b := range 32 {
			if b == a {
				continue
			}
			var nodes []int
			for x := range 32 {
				if x != a && x != b {
					nodes = append(nodes, x, b)
				}
			}
			checkRw(t, h, choices(choice(7, a, b)), nodes...)
			checkRw(t, h, choices(choice(7, b, a)))
		}
	}
}

// P18.2: levels that are none, with valid choices and others, and no choices.
func TestFullLevels(t *testing.T) {
	h := apart(writer(4), writer(4), reader(take(4, 0)))
	for _, level := range ints(least, least+1, -1<<32, -2, -1, 2, 3, 4, 1<<32, 1<<32+1, most-1, most) {
		for _, l := range [][]api.Choice{nil, {}, {choice(4, 0, 1)}, {choice(4, 0, 1), choice(4, 1, 0)}, {choice(4, 0, 0)}, {choice(5, 0, 1)}} {
			checkNoFull(t, h, level, l)
			checkNoFull(t, api.Hist{}, level, l)
			checkNoFull(t, rich(33), level, l)
		}
	}
	for _, level := range ints(0, 1) {
		for _, c := range choices(choice(4, 0, 0), choice(5, 0, 1), choice(4, 0, 2), choice(4, 1, 3), choice(4, -1, 0)) {
			checkNoFull(t, h, level, choices(c))
			checkNoFull(t, h, level, choices(choice(4, 0, 1), c))
		}
	}
}

// P18.2: an edge that is in known.Past and in Ww, in one of them alone, in Rw alone, and in none.
func TestFullDirect(t *testing.T) {
	one, turned := choices(choice(4, 0, 1)), choices(choice(4, 1, 0))
	same, other := history(writer(4), writer(4)), apart(writer(4), writer(4))
	for level := range 2 {
		// In both, in So alone, in Ww alone, in none.
		checkFull(t, same, level, one, 0, 1)
		checkFull(t, same, level, nil, 0, 1)
		checkFull(t, same, level, turned, 0, 1, 1, 0)
		checkFull(t, other, level, one, 0, 1)
		checkFull(t, other, level, turned, 1, 0)
		checkFull(t, other, level, nil)
		// In Wr alone, and in Wr and Ww.
		checkFull(t, apart(writer(4), reader(take(4, 0))), level, nil, 0, 1)
		checkFull(t, apart(writer(4), both(ints(4), take(4, 0))), level, one, 0, 1)
		checkFull(t, apart(writer(4), both(ints(4), take(4, 0))), level, turned, 0, 1, 1, 0)
		checkFull(t, apart(both(ints(4), take(4, 1)), writer(4)), level, one, 0, 1, 1, 0)
		// Each sort of edges on its own: So 0 1, Wr 2 3, Ww 4 5.
		all := history(api.Txn{}, api.Txn{}, api.Txn{Session: 1, Writes: ints(5)}, api.Txn{Session: 2, Reads: takes(take(5, 2))}, writer(4), api.Txn{Session: 5, Writes: ints(4)})
		checkFull(t, all, level, choices(choice(4, 4, 5)), 0, 1, 2, 3, 4, 5)
	}
	// In Rw alone: at Ser only.
	first := apart(reader(take(4, -1)), writer(4))
	checkFull(t, first, 0, nil, 0, 1)
	checkFull(t, first, 1, nil)
	read := apart(writer(4), writer(4), reader(take(4, 0)))
	checkFull(t, read, 0, one, 0, 1, 0, 2, 2, 1)
	checkFull(t, read, 1, one, 0, 1, 0, 2)
}

// P18.2: at Si an edge of Rw counts behind a direct one only: once, not ahead of it, and not behind two; it may lead back.
func TestFullSi(t *testing.T) {
	// So 0 1, Init 1 2: 0 to 2. Nothing leads from 2.
	behindSo := history(api.Txn{}, api.Txn{Reads: initials(4)}, api.Txn{Session: 1, Writes: ints(4)})
	checkFull(t, behindSo, 1, nil, 0, 1, 0, 2)
	checkFull(t, behindSo, 0, nil, 0, 1, 1, 2)
	// Init 0 1, So 1 2: none from 0.
	ahead := history(api.Txn{Session: 1, Reads: initials(4)}, api.Txn{Writes: ints(4)}, api.Txn{})
	checkFull(t, ahead, 1, nil, 1, 2)
	checkFull(t, ahead, 0, nil, 0, 1, 1, 2)
	// Wr 0 1, Init 1 2.
	behindWr := apart(writer(5), reader(take(4, -1), take(5, 0)), writer(4))
	checkFull(t, behindWr, 1, nil, 0, 1, 0, 2)
	// Ww 0 1, Init 1 2, and Ww 1 0.
	behindWw := apart(writer(5), both(ints(5), take(4, -1)), writer(4))
	checkFull(t, behindWw, 1, choices(choice(5, 0, 1)), 0, 1, 0, 2)
	checkFull(t, behindWw, 1, choices(choice(5, 1, 0)), 1, 0)
	// Ww 0 1 and Rw 1 2, which is of a choice, too.
	chosen := apart(writer(5), both(ints(5), take(4, 3)), writer(4), writer(4))
	checkFull(t, chosen, 1, choices(choice(5, 0, 1)), 0, 1, 3, 1)
	checkFull(t, chosen, 1, choices(choice(5, 0, 1), choice(4, 3, 2)), 0, 1, 3, 1, 3, 2, 0, 2)
	checkFull(t, chosen, 1, choices(choice(5, 0, 1), choice(4, 2, 3)), 0, 1, 3, 1, 2, 3)
	// Back to where it began: 0 writes what 1 reads, 1 reads what 0 overwrites.
	back := apart(writer(4, 5), reader(take(4, -1), take(5, 0)))
	checkFull(t, back, 1, nil, 0, 1, 0, 0)
	checkFull(t, back, 0, nil, 0, 1, 1, 0)
	lost := apart(both(ints(4), take(4, -1)), both(ints(4), take(4, -1)))
	checkFull(t, lost, 1, choices(choice(4, 0, 1)), 0, 1, 0, 0)
	checkFull(t, lost, 1, choices(choice(4, 1, 0)), 1, 0, 1, 1)
	checkFull(t, lost, 1, nil)
	checkFull(t, lost, 0, nil, 0, 1, 1, 0)
	// Two of Rw, one behind the other, are too many; so are two direct ones.
	twoRw := history(api.Txn{}, api.Txn{Reads: initials(4)}, api.Txn{Session: 1, Writes: ints(4), Reads: initials(5)}, api.Txn{Session: 2, Writes: ints(5)})
	checkFull(t, twoRw, 1, nil, 0, 1, 0, 2)
	twoDirect := apart(writer(4), both(ints(5), take(4, 0)), reader(take(5, 1), take(6, -1)), writer(6))
	checkFull(t, twoDirect, 1, nil, 0, 1, 1, 2, 1, 3)
	// The document's example: each of two takes what the other one overwrites.
	skew := apart(both(ints(1), initials(1, 2)...), both(ints(2), initials(1, 2)...))
	checkFull(t, skew, 0, nil, 0, 1, 1, 0)
	checkFull(t, skew, 1, nil)
}

// orders are all orders of n numbers.
func orders(n int) [][]int {
	all := [][]int{nil}
	for number := range n {
		var next [][]int
		for _, order := range all {
			for at := range number + 1 {
				next = append(next, slices.Insert(slices.Clone(order), at, number))
			}
		}
		all = next
	}
	return all
}

// P18.3: all orders of small histories: a choice for each pair, by the order of the pairs.
func TestOf(t *testing.T) {
	h := apart(writer(4), writer(4, 9), writer(9))
	checkOf(t, h, ints(0, 1, 2), choice(4, 0, 1), choice(9, 1, 2))
	checkOf(t, h, ints(0, 2, 1), choice(4, 0, 1), choice(9, 2, 1))
	checkOf(t, h, ints(1, 0, 2), choice(4, 1, 0), choice(9, 1, 2))
	checkOf(t, h, ints(1, 2, 0), choice(4, 1, 0), choice(9, 1, 2))
	checkOf(t, h, ints(2, 0, 1), choice(4, 0, 1), choice(9, 2, 1))
	checkOf(t, h, ints(2, 1, 0), choice(4, 1, 0), choice(9, 2, 1))
	checkOf(t, history(writer(4)), ints(0))
	checkOf(t, history(reader(take(4, -1)), writer(4)), ints(1, 0))
	checkOf(t, apart(writer(0, 15), writer(0, 15)), ints(1, 0), choice(0, 1, 0), choice(15, 1, 0))
	// The pairs' order, not that of the choices: 2 stands ahead of all.
	checkOf(t, apart(writer(7), writer(7), writer(7), writer(7)), ints(2, 3, 1, 0), choice(7, 1, 0), choice(7, 2, 0), choice(7, 3, 0), choice(7, 2, 1), choice(7, 3, 1), choice(7, 2, 3))
	for _, h := range []api.Hist{
		{}, h, rich(1), rich(2), rich(3), rich(4), rich(5), history(writer(4), reader(take(4, 0)), both(ints(4), take(4, 0)), writer(), writer(4, 5)),
		apart(writer(3), writer(3, 4), writer(4), writer(5)), {Txns: make([]api.Txn, 4)},
	} {
		for _, order := range orders(len(h.Txns)) {
			checkOrder(t, h, order)
		}
	}
}

// P18.3: orders that are none: too short, too long, with a number twice, or with one that is none.
func TestOfWrongOrder(t *testing.T) {
	h := apart(writer(4), writer(4), writer(4, 5), both(ints(5), take(4, 0)))
	checkOrder(t, h, ints(3, 1, 0, 2))
	for _, order := range [][]int{
		nil, {}, {0}, {0, 1, 2}, {1, 2, 3}, {3, 1, 0}, {0, 1, 2, 3, 0}, {0, 1, 2, 3, 4}, {0, 1, 2, 3, -1}, {0, 0, 1, 2, 3}, {0, 1, 2, 3, 0, 1, 2, 3},
		{0, 1, 2, 2}, {0, 0, 1, 2}, {0, 1, 1, 3}, {3, 3, 3, 3}, {0, 0, 0, 0}, {1, 0, 2, 0},
		{0, 1, 2, 4}, {4, 1, 2, 3}, {1, 2, 3, 4}, {0, 1, 5, 2}, {0, 1, 2, 32}, {0, 1, 2, 64}, {0, 1, 2, 1 << 32}, {0, 1, 2, 1<<32 + 3}, {0, 1, 2, most},
		{0, 1, 2, -1}, {-1, 0, 1, 2}, {0, 1, 2, -3}, {0, -1, 2, 3}, {0, 1, 2, least}, {0, 1, 2, least + 3}, {-1, -2, -3, -4}, upTo(100), upTo(5),
	} {
		checkOf(t, h, order)
		checkOrder(t, h, order)
	}
	for n := 1; n <= 32; n++ {
		h := rich(n)
		checkOrder(t, h, backwards(n))
		checkOf(t, h, upTo(n-1))
		checkOf(t, h, upTo(n + 1)[1:])
		checkOf(t, h, upTo(n+1))
		for _, at := range ints(0, n/2, n-1) {
			for _, number := range ints(least, -2, -1, n, n+1, most, (at+1)%(n+1)) {
				order := backwards(n)
				if order[at] == number {
					continue
				}
				order[at] = number
				checkOf(t, h, order)
			}
		}
	}
	for _, h := range []api.Hist{rich(33), history(api.Txn{Session: 8}, writer(4), writer(4))} {
		checkOf(t, h, upTo(len(h.Txns)))
		checkOf(t, h, backwards(len(h.Txns)))
	}
	// Far too long.
	checkOf(t, h, make([]int, 100000))
	checkOf(t, h, upTo(100000))
}

// P18.3: which pair is the first open one.
func TestOpen(t *testing.T) {
	// No pair at all.
	for _, h := range []api.Hist{{}, history(writer(4)), history(writer(4), writer(5)), history(reader(take(4, -1)), reader(take(4, -1))), history(writer(4), reader(take(4, 0)))} {
		checkShut(t, h, nil)
		checkShut(t, h, choices())
	}
	h := apart(writer(0, 4, 15), writer(0, 4), both(ints(4, 15), take(4, 0)))
	pairs := choices(choice(0, 0, 1), choice(4, 0, 1), choice(4, 0, 2), choice(4, 1, 2), choice(15, 0, 2))
	checkOpen(t, h, nil, pairs[0])
	checkShut(t, h, pairs)
	r := rand.New(rand.NewSource(182))
	for set := range 243 {
		// Each pair is open, chosen one way, the other way, or both ways.
		for range 4 {
			var l []api.Choice
			want, rest := -1, set
			for i, p := range pairs {
				turned := choice(p.Key, p.B, p.A)
				how := rest % 3
				rest /= 3
				if how == 2 && r.Intn(2) == 0 {
					l = append(l, p, turned)
				} else if how == 2 {
					l = append(l, turned)
				} else if how == 1 {
					l = append(l, p)
				} else if want < 0 {
					want = i
				}
			}
			r.Shuffle(len(l), func(i, j int) { l[i], l[j] = l[j], l[i] })
			l = append(l, l[:r.Intn(len(l)+1)]...)
			if want < 0 {
				checkShut(t, h, l)
			} else {
				checkOpen(t, h, l, pairs[want])
			}
		}
	}
	// A choice of another key does not close a pair of the same transactions, nor does one of other transactions.
	checkOpen(t, h, choices(choice(4, 0, 1)), choice(0, 0, 1))
	checkOpen(t, h, choices(choice(0, 0, 1)), choice(4, 0, 1))
	checkOpen(t, h, choices(choice(0, 1, 0)), choice(4, 0, 1))
	checkOpen(t, h, choices(choice(4, 1, 0), choice(15, 2, 0), choice(4, 2, 0), choice(4, 1, 2)), choice(0, 0, 1))
	checkOpen(t, h, choices(choice(0, 0, 1), choice(4, 0, 1), choice(15, 0, 2), choice(4, 2, 1)), choice(4, 0, 2))
	// Two choices do not tell the third one, nor does what is read.
	checkOpen(t, h, choices(choice(0, 0, 1), choice(4, 0, 1), choice(4, 1, 2)), choice(4, 0, 2))
	checkOpen(t, history(writer(4), both(ints(4), take(4, 0))), nil, choice(4, 0, 1))
}

// P18.3: of the greatest history, each pair in turn is the open one, whichever way the others are chosen.
func TestOpenOne(t *testing.T) {
	r := rand.New(rand.NewSource(183))
	h := rich(32)
	l := Of(h, r.Perm(32))
	pairs := pairsByWords(h)
	for _, at := range ints(0, 1, 2, 495, 496, 4000, len(l)-2, len(l)-1) {
		checkOpen(t, h, slices.Delete(slices.Clone(l), at, at+1), pairs[at])
		checkOpen(t, h, l[:at], pairs[at])
	}
	checkShut(t, h, l)
	small := rich(5)
	for range 200 {
		order := r.Perm(5)
		l := Of(small, order)
		at := r.Intn(len(l))
		checkOpen(t, small, slices.Delete(l, at, at+1), pairsByWords(small)[at])
	}
}

// shortLists are all lists of up to n of these.
func shortLists[T any](each []T, n int) [][]T {
	all := [][]T{nil}
	last := all
	for range n {
		var next [][]T
		for _, l := range last {
			for _, v := range each {
				next = append(next, append(slices.Clone(l), v))
			}
		}
		all, last = append(all, next...), next
	}
	return all
}

// fewTxns are all transactions of two sessions, two keys, and Reads from -1 and the first three transactions.
func fewTxns() []api.Txn {
	var l []api.Txn
	for s := range 2 {
		for _, w := range [][]int{nil, {0}, {1}, {0, 1}} {
			for first := -2; first < 3; first++ {
				for second := -2; second < 3; second++ {
					txn := api.Txn{Session: s, Writes: w}
					// -2 stands for no Read.
					if first > -2 {
						txn.Reads = append(txn.Reads, take(0, first))
					}
					if second > -2 {
						txn.Reads = append(txn.Reads, take(1, second))
					}
					l = append(l, txn)
				}
			}
		}
	}
	return l
}

// fewHists are valid histories of up to three of these transactions: all of up to one, and some others.
func fewHists() []api.Hist {
	txns := fewTxns()
	var l []api.Hist
	add := func(h api.Hist) {
		if hist.Right(h) {
			l = append(l, h)
		}
	}
	add(api.Hist{})
	for i, a := range txns {
		add(history(a))
		for j, b := range txns {
			if (i+2*j)%7 == 0 {
				add(history(a, b))
			}
			for k, c := range txns {
				if len(a.Writes)+len(b.Writes)+len(c.Writes) > 2 && (i+31*j+77*k)%4099 == 0 {
					add(history(a, b, c))
				}
			}
		}
	}
	return l
}

// P18.1 to P18.4: small histories with all choices of up to two, valid or not, and all orders.
func TestFewByWords(t *testing.T) {
	counts := map[bool]int{}
	for _, h := range fewHists() {
		n := len(h.Txns)
		var each []api.Choice
		for k := range 2 {
			for a := range n {
				for b := range n {
					each = append(each, choice(k, a, b))
				}
			}
		}
		for _, l := range shortLists(each, 2) {
			right := checkByWords(t, h, l)
			counts[right]++
			if right && len(l) > 0 {
				checkMore(t, h, l[:len(l)-1], l)
			}
		}
		for _, order := range orders(n) {
			checkOrder(t, h, order)
		}
	}
	if counts[true] < 5000 || counts[false] < 5000 {
		t.Error(counts)
	}
}

// chanceKeys are keys by chance, rising.
func chanceKeys(r *rand.Rand, keyCount int) []int {
	l := r.Perm(keyCount)[:r.Intn(keyCount+1)]
	for i := range l {
		// Few keys are great ones half the time, so that each end of them is reached.
		l[i] += (16 - keyCount) * (keyCount % 2)
	}
	slices.Sort(l)
	return l
}

// chanceHist is a valid history by chance, of few sessions or of many.
func chanceHist(r *rand.Rand, n, keyCount int) api.Hist {
	var h api.Hist
	sessionCount := 1 + r.Intn(8)
	for range n {
		h.Txns = append(h.Txns, api.Txn{Session: r.Intn(sessionCount), Writes: chanceKeys(r, keyCount)})
	}
	for i := range h.Txns {
		for _, k := range chanceKeys(r, keyCount) {
			from := r.Intn(n)
			if from == i || !slices.Contains(h.Txns[from].Writes, k) {
				from = -1
			}
			h.Txns[i].Reads = append(h.Txns[i].Reads, take(k, from))
		}
	}
	return h
}

// thin is a valid history by chance, most of whose transactions have a few Reads and Writes at most.
func thin(r *rand.Rand, n, keyCount int) api.Hist {
	h := chanceHist(r, n, keyCount)
	for i := range h.Txns {
		reads := &h.Txns[i].Reads
		for len(*reads) > 0 && r.Intn(4) > 0 {
			at := r.Intn(len(*reads))
			*reads = slices.Delete(*reads, at, at+1)
		}
		// What is still read must have its writer.
		h.Txns[i].Writes = slices.DeleteFunc(h.Txns[i].Writes, func(k int) bool {
			return r.Intn(2) > 0 && !slices.ContainsFunc(h.Txns, func(txn api.Txn) bool { return slices.Contains(txn.Reads, take(k, i)) })
		})
	}
	return h
}

// spoil changes one thing of a history by chance.
func spoil(r *rand.Rand, h api.Hist) {
	txn := &h.Txns[r.Intn(len(h.Txns))]
	switch r.Intn(7) {
	case 0:
		txn.Session = r.Intn(10) - 1
	case 1:
		txn.Writes = slices.Insert(txn.Writes, r.Intn(len(txn.Writes)+1), r.Intn(18)-1)
	case 2:
		txn.Reads = slices.Insert(txn.Reads, r.Intn(len(txn.Reads)+1), take(r.Intn(18)-1, -1))
	case 3, 4:
		if len(txn.Reads) > 0 {
			txn.Reads[r.Intn(len(txn.Reads))].From = r.Intn(len(h.Txns)+3) - 2
		}
	default:
		if len(txn.Writes) > 0 {
			i := r.Intn(len(txn.Writes))
			txn.Writes = slices.Delete(txn.Writes, i, i+1)
		}
	}
}

// chanceChoices are some valid choices by chance, if there is a pair: of an order, with some the other way round, or twice.
func chanceChoices(r *rand.Rand, h api.Hist, most int) []api.Choice {
	pairs := pairsByWords(h)
	if len(pairs) == 0 {
		return nil
	}
	var l []api.Choice
	for range r.Intn(most + 1) {
		p := pairs[r.Intn(len(pairs))]
		if r.Intn(2) == 0 {
			p.A, p.B = p.B, p.A
		}
		l = append(l, p)
	}
	if r.Intn(3) == 0 {
		made := ofByWords(h, r.Perm(len(h.Txns)))
		l = append(l, made[:r.Intn(len(made)+1)]...)
	}
	return l
}

// spoilChoices changes one thing of choices by chance.
func spoilChoices(r *rand.Rand, l []api.Choice) {
	c := &l[r.Intn(len(l))]
	switch r.Intn(4) {
	case 0:
		c.Key = r.Intn(18) - 1
	case 1:
		c.A = r.Intn(34) - 1
	case 2:
		c.B = r.Intn(34) - 1
	default:
		c.A = c.B
	}
}

// checkOneMore holds that with one more choice all edges are there still, wherever it stands.
func checkOneMore(t *testing.T, r *rand.Rand, h api.Hist, l []api.Choice) {
	t.Helper()
	if len(l) > 0 {
		at := r.Intn(len(l))
		checkMore(t, h, slices.Delete(slices.Clone(l), at, at+1), l)
	}
}

// P18.1 to P18.4: histories and choices by chance, and such that were spoilt, held against the chapter's words.
func TestByChance(t *testing.T) {
	r := rand.New(rand.NewSource(184))
	counts := map[bool]int{}
	for range 1500 {
		n := []int{3, 4, 6, 9}[r.Intn(4)]
		h := chanceHist(r, 1+r.Intn(n), 1+r.Intn(4))
		if r.Intn(2) == 0 {
			h = thin(r, 1+r.Intn(n), 1+r.Intn(16))
		}
		l := chanceChoices(r, h, []int{0, 1, 3, 10}[r.Intn(4)])
		counts[checkByWords(t, h, l)]++
		checkOneMore(t, r, h, l)
		checkOrder(t, h, r.Perm(len(h.Txns)))
		if len(l) > 0 {
			spoilChoices(r, l)
			counts[checkByWords(t, h, l)]++
		}
		spoil(r, h)
		counts[checkByWords(t, h, l)]++
		checkOrder(t, h, r.Perm(len(h.Txns)))
	}
	if counts[true] < 2000 || counts[false] < 1000 {
		t.Error(counts)
	}
}

// P18.1 to P18.4: histories of up to 32 transactions with many choices.
func TestManyByChance(t *testing.T) {
	r := rand.New(rand.NewSource(185))
	for range 60 {
		h := chanceHist(r, 8+r.Intn(25), 1+r.Intn(16))
		if r.Intn(2) == 0 {
			h = thin(r, 8+r.Intn(25), 4+r.Intn(13))
		}
		l := chanceChoices(r, h, 300)
		checkByWords(t, h, l)
		checkOneMore(t, r, h, l)
		order := r.Perm(len(h.Txns))
		checkOrder(t, h, order)
		checkByWords(t, h, Of(h, order))
		checkMore(t, h, l, append(Of(h, order), l...))
	}
	for _, n := range ints(31, 32) {
		checkByWords(t, rich(n), Of(rich(n), r.Perm(n)))
		checkByWords(t, rich(n), chanceChoices(r, rich(n), 2000))
	}
}

// P18.4: more choices, of which each list has one more than that ahead of it, and the choices of each order leave no pair open and are valid.
func TestConsequence(t *testing.T) {
	r := rand.New(rand.NewSource(186))
	for range 60 {
		h := thin(r, 2+r.Intn(7), 3+r.Intn(13))
		order := r.Perm(len(h.Txns))
		l := Of(h, order)
		r.Shuffle(len(l), func(i, j int) { l[i], l[j] = l[j], l[i] })
		for n := range min(len(l), 20) {
			checkMore(t, h, l[:n], l[:n+1])
			if _, is := Open(h, l[:n]); !is {
				t.Fatalf("%s: %d of %d choices leave no pair open", brief(h), n, len(l))
			}
		}
		checkShut(t, h, l)
	}
	for n := range 33 {
		for range 3 {
			order := r.Perm(n)
			checkShut(t, rich(n), Of(rich(n), order))
			checkRight(t, rich(n), Of(rich(n), order), true)
		}
	}
}

// behind is a list with others behind it in its capacity.
func behind[T any](list []T, others ...T) []T {
	n := len(list)
	return append(slices.Clone(list), others...)[:n]
}

// whole is a list with all that stands in its capacity, in memory of its own.
func whole[T any](list []T) []T { return slices.Clone(list[:cap(list)]) }

// full is a history with all that stands in the capacities of its lists, in memory of its own.
func full(h api.Hist) api.Hist {
	h.Txns = whole(h.Txns)
	for i, txn := range h.Txns {
		h.Txns[i].Writes, h.Txns[i].Reads = whole(txn.Writes), whole(txn.Reads)
	}
	return h
}

// fill puts v into a whole list, and behind it up to its capacity.
func fill[T any](list []T, v T) {
	list = list[:cap(list)]
	for i := range list {
		list[i] = v
	}
}

// crowded is a history with others behind it in the capacities of its lists, which would be told if they were read.
func crowded(h api.Hist) api.Hist {
	h = cloned(h)
	for i, txn := range h.Txns {
		h.Txns[i].Writes, h.Txns[i].Reads = behind(txn.Writes, 3, 7, 16), behind(txn.Reads, take(3, -1), take(7, 0), take(16, -2))
	}
	h.Txns = behind(h.Txns, writer(upTo(16)...), reader(initials(upTo(16)...)...), api.Txn{Session: 8})
	return h
}

// question is what the functions are asked: of a history, with choices and an order.
type question struct {
	h     api.Hist
	l     []api.Choice
	order []int
}

// asked are questions with valid histories, choices and orders, and with others.
func asked() []question {
	r := rand.New(rand.NewSource(187))
	l := []question{
		{}, {rich(1), nil, ints(0)}, {rich(2), choices(choice(3, 1, 0)), ints(1, 0)}, {rich(3), choices(choice(3, 1, 0), choice(5, 0, 2)), ints(1, 0)},
		{rich(33), nil, upTo(33)}, {rich(32), Of(rich(32), backwards(32))[:40], backwards(32)}, {h: api.Hist{Txns: make([]api.Txn, 32)}, order: upTo(32)},
	}
	for i := range 120 {
		h := chanceHist(r, 1+r.Intn(12), 1+r.Intn(16))
		q := question{h, chanceChoices(r, h, 8), r.Perm(len(h.Txns))}
		if i%6 == 0 {
			spoil(r, h)
		}
		if i%6 == 1 && len(q.l) > 0 {
			spoilChoices(r, q.l)
		}
		if i%6 == 2 {
			q.order[0] = r.Intn(len(q.order)+2) - 1
		}
		l = append(l, q)
	}
	return l
}

// crowd is a question with others behind its lists in their capacities.
func crowd(q question) question {
	return question{crowded(q.h), behind(q.l, choice(3, 0, 1), choice(16, 9, -9)), behind(q.order, 0, len(q.order), len(q.order)+1)}
}

// answer is all that the functions return.
type answer struct {
	right, is bool
	graphs    []graph.Graph
	errs      [2]api.Errno
	made      []api.Choice
	open      api.Choice
}

func ask(q question) answer {
	ser, serErr := Full(q.h, 0, q.l)
	si, siErr := Full(q.h, 1, q.l)
	open, is := Open(q.h, q.l)
	return answer{Right(q.h, q.l), is, []graph.Graph{Ww(q.h, q.l), Rw(q.h, q.l), ser, si}, [2]api.Errno{serErr, siErr}, Of(q.h, q.order), open}
}

// saved is an answer with lists of its own.
func saved(a answer) answer {
	a.graphs = slices.Clone(a.graphs)
	for i, g := range a.graphs {
		a.graphs[i].Rows = slices.Clone(g.Rows)
	}
	a.made = slices.Clone(a.made)
	return a
}

// ruin fills all lists of an answer, and what stands behind them.
func ruin(a answer) {
	for _, g := range a.graphs {
		fill(g.Rows, 1<<63)
	}
	fill(a.made, choice(-9, -9, -9))
}

func checkAnswer(t *testing.T, q question, got, want answer) {
	t.Helper()
	same := slices.EqualFunc(got.graphs, want.graphs, sameGraph) && slices.Equal(got.made, want.made)
	if !same || got.right != want.right || got.is != want.is || got.errs != want.errs || got.open != want.open {
		t.Fatalf("%s: %s, want %s", brief(q), brief(got), brief(want))
	}
}

// P18.1 to P18.3: no call changes what it is given, nor what stands behind the lists in their capacity, and none reads that.
func TestLeavesArguments(t *testing.T) {
	for _, plain := range asked() {
		q := crowd(plain)
		h, l, order := full(q.h), whole(q.l), whole(q.order)
		got := ask(q)
		checkAnswer(t, q, got, ask(plain))
		ruin(got)
		if !sameHist(full(q.h), h) || !slices.Equal(whole(q.l), l) || !slices.Equal(whole(q.order), order) {
			t.Fatalf("%s was changed", brief(plain))
		}
	}
}

// P18.1 to P18.3: no result shares memory with another one, not even in its capacity.
func TestNewMemory(t *testing.T) {
	for _, q := range asked() {
		first, second := ask(q), ask(q)
		want := saved(first)
		for i := range first.graphs {
			fill(first.graphs[i].Rows, 1<<63)
			fill(append(first.graphs[i].Rows, 1, 2), 1<<62)
			copy(want.graphs[i].Rows, first.graphs[i].Rows)
			checkAnswer(t, q, first, want)
		}
		ruin(first)
		checkAnswer(t, q, second, ask(q))
		ruin(second)
		checkByWords(t, q.h, q.l)
		checkOrder(t, q.h, q.order)
	}
}

// P18.1 to P18.3: nothing is kept of an argument: what becomes of it later changes no result, but is seen by the next call.
func TestKeepsNothing(t *testing.T) {
	for _, plain := range asked() {
		q := crowd(plain)
		got := ask(q)
		for _, txn := range q.h.Txns {
			fill(txn.Writes, -9)
			fill(txn.Reads, take(-9, -9))
		}
		fill(q.h.Txns, api.Txn{Session: -9})
		fill(q.l, choice(-9, -9, -9))
		fill(q.order, -9)
		checkAnswer(t, plain, got, ask(plain))
	}
	h := apart(writer(4, 5), writer(4, 5), reader(take(4, 0)))
	l, order := choices(choice(4, 0, 1)), ints(0, 1, 2)
	checkRw(t, h, l, 2, 1)
	checkOpen(t, h, l, choice(5, 0, 1))
	l[0] = choice(5, 1, 0)
	checkRw(t, h, l)
	checkWw(t, h, l, 1, 0)
	checkOpen(t, h, l, choice(4, 0, 1))
	h.Txns[2].Reads[0] = take(5, 1)
	checkRw(t, h, l, 2, 0)
	checkOf(t, h, order, choice(4, 0, 1), choice(5, 0, 1))
	order[0], order[1] = 1, 0
	checkOf(t, h, order, choice(4, 1, 0), choice(5, 1, 0))
	h.Txns[0].Writes[1] = 6
	checkWrong(t, h, l)
	checkOf(t, h, order, choice(4, 1, 0))
	h.Txns[0].Session = 8
	checkNothing(t, h)
}

// P18.1 to P18.3: what a call returns does not depend on earlier ones.
func TestTwiceAsked(t *testing.T) {
	one, other := apart(writer(4), writer(4), reader(take(4, 0))), apart(writer(9), reader(take(4, -1), take(9, 0)), writer(4, 9))
	for range 3 {
		checkWw(t, one, choices(choice(4, 0, 1)), 0, 1)
		checkWw(t, other, choices(choice(9, 2, 0)), 2, 0)
		checkWrong(t, one, choices(choice(9, 0, 1)))
		checkRw(t, one, choices(choice(4, 0, 1)), 2, 1)
		checkRw(t, one, nil)
		checkRw(t, other, choices(choice(9, 0, 2)), 1, 2)
		checkFull(t, one, 0, choices(choice(4, 1, 0)), 0, 2, 1, 0)
		checkNoFull(t, one, 2, choices(choice(4, 1, 0)))
		checkFull(t, other, 1, nil, 0, 1, 0, 2)
		checkOf(t, one, ints(1, 0, 2), choice(4, 1, 0))
		checkOf(t, one, ints(1, 0, 1))
		checkOf(t, other, ints(0, 1, 2), choice(9, 0, 2))
		checkOpen(t, one, nil, choice(4, 0, 1))
		checkShut(t, one, choices(choice(4, 1, 0)))
		checkOpen(t, other, nil, choice(9, 0, 2))
		checkByWords(t, api.Hist{}, nil)
		checkByWords(t, rich(9), Of(rich(9), backwards(9)))
	}
}
