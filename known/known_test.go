package known

import (
	"fmt"
	"math/rand"
	"slices"
	"testing"

	"inquest/api"
	"inquest/graph"
	"inquest/hist"
)

const (
	least = -1 << 63
	most  = 1<<63 - 1
)

func history(l ...api.Txn) api.Hist { return api.Hist{Txns: l} }

func ints(l ...int) []int { return l }

func rows(l ...uint64) []uint64 { return l }

func take(k, from int) api.Take { return api.Take{Key: k, From: from} }

func takes(l ...api.Take) []api.Take { return l }

// writer, reader and both are transactions of three sessions.
func writer(l ...int) api.Txn { return api.Txn{Session: 4, Writes: l} }

func reader(l ...api.Take) api.Txn { return api.Txn{Session: 6, Reads: l} }

func both(writes []int, l ...api.Take) api.Txn {
	return api.Txn{Session: 5, Writes: writes, Reads: l}
}

// upTo are the numbers from 0 on that are less than n.
func upTo(n int) []int {
	var l []int
	for i := range n {
		l = append(l, i)
	}
	return l
}

// initials are Reads of the initial values of keys.
func initials(l ...int) []api.Take {
	var reads []api.Take
	for _, k := range l {
		reads = append(reads, take(k, -1))
	}
	return reads
}

// sessions is a history of transactions that do nothing, with these sessions.
func sessions(l ...int) api.Hist {
	var h api.Hist
	for _, s := range l {
		h.Txns = append(h.Txns, api.Txn{Session: s})
	}
	return h
}

// brief is how a value is printed where a test fails; long ones are cut off.
func brief(v any) string { return fmt.Sprintf("%.600s", fmt.Sprint(v)) }

func sameTxn(a, b api.Txn) bool {
	return a.Session == b.Session && slices.Equal(a.Writes, b.Writes) && slices.Equal(a.Reads, b.Reads)
}

func sameHist(a, b api.Hist) bool { return slices.EqualFunc(a.Txns, b.Txns, sameTxn) }

// cloned is a history with lists of its own.
func cloned(h api.Hist) api.Hist {
	h.Txns = slices.Clone(h.Txns)
	for i, txn := range h.Txns {
		h.Txns[i].Writes, h.Txns[i].Reads = slices.Clone(txn.Writes), slices.Clone(txn.Reads)
	}
	return h
}

// power is 2 to the power of i.
func power(i int) uint64 {
	p := uint64(1)
	for range i {
		p *= 2
	}
	return p
}

// call is one of the four functions, with its name and the edges that it has by the chapter's words.
type call struct {
	name  string
	of    func(api.Hist) graph.Graph
	words func(h api.Hist, a, b int) bool
}

func calls() []call {
	return []call{{"So", So, soByWords}, {"Wr", Wr, wrByWords}, {"Init", Init, initByWords}, {"Past", Past, pastByWords}}
}

// soByWords, wrByWords, initByWords and pastByWords tell whether there is an edge from a to b in a valid history, by the chapter's words.
func soByWords(h api.Hist, a, b int) bool { return h.Txns[a].Session == h.Txns[b].Session && b > a }

func wrByWords(h api.Hist, a, b int) bool {
	return slices.ContainsFunc(h.Txns[b].Reads, func(read api.Take) bool { return read.From == a })
}

func initByWords(h api.Hist, a, b int) bool {
	return a != b && slices.ContainsFunc(h.Txns[b].Writes, func(k int) bool { return slices.Contains(h.Txns[a].Reads, take(k, -1)) })
}

func pastByWords(h api.Hist, a, b int) bool { return soByWords(h, a, b) || wrByWords(h, a, b) }

// byWords is the graph with the edges of a function.
func byWords(h api.Hist, has func(h api.Hist, a, b int) bool) graph.Graph {
	g := graph.Graph{N: len(h.Txns)}
	for a := range h.Txns {
		row := uint64(0)
		for b := range h.Txns {
			if has(h, a, b) {
				row += power(b)
			}
		}
		g.Rows = append(g.Rows, row)
	}
	return g
}

func sameGraph(a, b graph.Graph) bool { return a.N == b.N && slices.Equal(a.Rows, b.Rows) }

// with is the graph with some edges, of which each is two nodes of a list.
func with(n int, l ...int) graph.Graph {
	g := graph.Graph{N: n, Rows: make([]uint64, n)}
	for i := 0; i+1 < len(l); i += 2 {
		if g.Rows[l[i]]/power(l[i+1])%2 == 0 {
			g.Rows[l[i]] += power(l[i+1])
		}
	}
	return g
}

func checkGraph(t *testing.T, name string, h api.Hist, got, want graph.Graph) {
	t.Helper()
	if !sameGraph(got, want) {
		t.Fatalf("%s(%s) = %s, want %s", name, brief(h), brief(got), brief(want))
	}
}

// checkSo, checkWr, checkInit and checkPast hold a graph against its edges, of which each is two nodes of a list.
func checkSo(t *testing.T, h api.Hist, edges ...int) {
	t.Helper()
	mustBeRight(t, h, true)
	checkGraph(t, "So", h, So(h), with(len(h.Txns), edges...))
}

func checkWr(t *testing.T, h api.Hist, edges ...int) {
	t.Helper()
	mustBeRight(t, h, true)
	checkGraph(t, "Wr", h, Wr(h), with(len(h.Txns), edges...))
}

func checkInit(t *testing.T, h api.Hist, edges ...int) {
	t.Helper()
	mustBeRight(t, h, true)
	checkGraph(t, "Init", h, Init(h), with(len(h.Txns), edges...))
}

func checkPast(t *testing.T, h api.Hist, edges ...int) {
	t.Helper()
	mustBeRight(t, h, true)
	checkGraph(t, "Past", h, Past(h), with(len(h.Txns), edges...))
}

// mustBeRight ends a test whose history is valid, or not, otherwise than the test means it to be.
func mustBeRight(t *testing.T, h api.Hist, want bool) {
	t.Helper()
	if hist.Right(h) != want {
		t.Fatalf("Right(%s) is not %v", brief(h), want)
	}
}

// checkByWords holds all four functions against the chapter's words, edge by edge.
func checkByWords(t *testing.T, h api.Hist) {
	t.Helper()
	mustBeRight(t, h, true)
	for _, c := range calls() {
		checkGraph(t, c.name, h, c.of(h), byWords(h, c.words))
	}
}

// checkNothing holds that all four functions return the graph without nodes of a history that is not valid.
func checkNothing(t *testing.T, h api.Hist) {
	t.Helper()
	mustBeRight(t, h, false)
	for _, c := range calls() {
		checkGraph(t, c.name, h, c.of(h), graph.Graph{})
	}
}

// checkConsequence checks the sentences of P17.3, and that the graphs are valid ones of as many nodes as there are transactions.
func checkConsequence(t *testing.T, h api.Hist) {
	t.Helper()
	n := len(h.Txns)
	for _, c := range calls() {
		g := c.of(h)
		if !graph.Right(g) || g.N != n {
			t.Fatalf("%s(%s) = %s", c.name, brief(h), brief(g))
		}
		for x := range n {
			if graph.Has(g, x, x) {
				t.Fatalf("%s(%s) has an edge from %d to itself", c.name, brief(h), x)
			}
		}
	}
	so := So(h)
	for x := range n {
		for y := range n {
			for z := range n {
				if graph.Has(so, x, y) && graph.Has(so, y, z) && (!graph.Has(so, x, z) || x == z) {
					t.Fatalf("So(%s) has %d to %d and %d to %d", brief(h), x, y, y, z)
				}
			}
		}
	}
}

// rich is a valid history of which each function has something to tell: n transactions, each of which writes all keys, and reads those that are odd from the one ahead of it, the others from nobody.
func rich(n int) api.Hist {
	var h api.Hist
	for number := range n {
		txn := api.Txn{Session: number % 8, Writes: upTo(16)}
		for k := range 16 {
			txn.Reads = append(txn.Reads, take(k, []int{-1, number - 1}[k%2]))
		}
		h.Txns = append(h.Txns, txn)
	}
	return h
}

// checkWrongAnywhere holds that nothing is told of a history in which any one transaction is wrong as told, among others that are right.
func checkWrongAnywhere(t *testing.T, name string, wrong func(txn *api.Txn, number, count int)) {
	t.Helper()
	for _, n := range ints(2, 3, 5) {
		for number := range n {
			h := rich(n)
			mustBeRight(t, h, true)
			wrong(&h.Txns[number], number, n)
			if hist.Right(h) {
				t.Fatalf("%s, %v of %v: valid", name, number, n)
			}
			checkNothing(t, h)
		}
	}
}

// P17.1, P17.2: more than MaxTxns transactions have no nodes.
func TestWrongMany(t *testing.T) {
	for _, n := range ints(33, 34, 63, 64, 65, 200) {
		checkNothing(t, rich(n))
		checkNothing(t, api.Hist{Txns: make([]api.Txn, n)})
	}
	checkNothing(t, history(append(rich(32).Txns, api.Txn{})...))
	checkByWords(t, rich(32))
	checkByWords(t, api.Hist{Txns: make([]api.Txn, 32)})
}

// P17.1, P17.2: there are no nodes if a Session is none, not even if all have the same.
func TestWrongSession(t *testing.T) {
	for _, s := range ints(least, -2, -1, 8, 9, 1<<32, most) {
		checkWrongAnywhere(t, fmt.Sprint("session ", s), func(txn *api.Txn, _, _ int) { txn.Session = s })
		checkNothing(t, sessions(s))
		checkNothing(t, sessions(s, s))
		checkNothing(t, sessions(0, 0, s))
		checkNothing(t, sessions(s, 7, 7))
	}
}

// wrongKeys are lists of keys that may not be: with numbers that are no keys, with the same twice, with decreasing ones.
func wrongKeys() [][]int {
	return [][]int{
		append(ints(-1), upTo(16)...), append(upTo(16), 16), append(upTo(16), most), append(ints(least), upTo(16)...), append(upTo(16), 17),
		append(ints(0), upTo(16)...), append(upTo(16), 15), append(upTo(16), 0), slices.Insert(upTo(16), 8, 8), slices.Insert(upTo(16), 8, 7),
		append(ints(1, 0), upTo(16)[2:]...), append(upTo(14), 15, 14), append(upTo(16)[1:], 0), append(ints(15), upTo(15)...),
	}
}

// P17.1, P17.2: there are no nodes if Writes are no keys, or not in increasing order.
func TestWrongWrites(t *testing.T) {
	for _, l := range wrongKeys() {
		checkWrongAnywhere(t, fmt.Sprint("writes ", l), func(txn *api.Txn, _, _ int) { txn.Writes = l })
	}
	for _, l := range [][]int{{-1}, {16}, {least}, {most}, {4, 4}, {4, 3}, {15, 0}} {
		checkNothing(t, history(writer(l...)))
		checkNothing(t, history(writer(l...), writer(4), reader(take(4, 1)), reader(take(4, -1))))
		checkNothing(t, history(writer(4), writer(4), reader(take(4, 1)), writer(l...)))
	}
}

// P17.1, P17.2: there are no nodes if the keys of Reads are none, or not in increasing order.
func TestWrongReads(t *testing.T) {
	for _, l := range wrongKeys() {
		checkWrongAnywhere(t, fmt.Sprint("reads ", l), func(txn *api.Txn, number, _ int) {
			txn.Reads = nil
			for _, k := range l {
				txn.Reads = append(txn.Reads, take(k, number-1))
			}
		})
		checkWrongAnywhere(t, fmt.Sprint("reads of nobody's ", l), func(txn *api.Txn, _, _ int) { txn.Reads = initials(l...) })
	}
	for _, l := range [][]int{{-1}, {16}, {least}, {most}, {4, 4}, {4, 3}, {15, 0}} {
		checkNothing(t, history(reader(initials(l...)...)))
		checkNothing(t, history(reader(initials(l...)...), writer(4), writer(4), reader(take(4, 1))))
		checkNothing(t, history(writer(4), writer(4), reader(take(4, 1)), reader(initials(l...)...)))
	}
}

// P17.1, P17.2: there are no nodes if a Read is from what is no number of a transaction, or from its own one.
func TestWrongFrom(t *testing.T) {
	for _, k := range ints(0, 4, 15) {
		for _, from := range ints(least, -3, -2, 32, 33, 1<<32, most) {
			checkWrongAnywhere(t, fmt.Sprint("from ", from), func(txn *api.Txn, _, _ int) { txn.Reads[k].From = from })
		}
		for beyond := range 4 {
			checkWrongAnywhere(t, fmt.Sprint("from the count and ", beyond), func(txn *api.Txn, _, count int) { txn.Reads[k].From = count + beyond })
		}
		checkWrongAnywhere(t, "from itself", func(txn *api.Txn, number, _ int) { txn.Reads[k].From = number })
		checkNothing(t, history(both(ints(k), take(k, 0))))
		checkNothing(t, history(both(ints(k), take(k, 1)), both(ints(k), take(k, 1))))
	}
}

// P17.1, P17.2: there are no nodes if a Read is from a transaction that does not have the key among its Writes.
func TestWrongFromNoWriter(t *testing.T) {
	for _, k := range ints(0, 4, 15) {
		for _, writes := range [][]int{nil, {(k + 1) % 16}, slices.Delete(upTo(16), k, k+1)} {
			checkNothing(t, history(writer(writes...), reader(take(k, 0)), writer(k), writer(k)))
			checkNothing(t, history(writer(k), reader(take(k, 0)), reader(take(k, 3)), writer(writes...), writer(k)))
		}
	}
	for number := range 4 {
		h := rich(5)
		h.Txns[number].Writes = slices.Delete(h.Txns[number].Writes, 3, 4)
		checkNothing(t, h)
	}
}

// P17.1, P17.2: the chapter's example.
func TestExample(t *testing.T) {
	h := history(writer(3), reader(take(3, 0)), writer())
	checkSo(t, h, 0, 2)
	checkWr(t, h, 0, 1)
	checkPast(t, h, 0, 2, 0, 1)
	checkInit(t, h)
}

// P17.1, P17.2: no transactions have no nodes; transactions that do nothing, in sessions of their own, have no edges.
func TestNothing(t *testing.T) {
	for _, h := range []api.Hist{{}, {Txns: []api.Txn{}}} {
		checkByWords(t, h)
		for _, c := range calls() {
			checkGraph(t, c.name, h, c.of(h), graph.Graph{})
		}
	}
	for n := 1; n <= 8; n++ {
		for _, txn := range []api.Txn{{}, {Writes: ints(), Reads: takes()}} {
			var h api.Hist
			for s := range n {
				txn.Session = n - 1 - s
				h.Txns = append(h.Txns, txn)
			}
			for _, c := range calls() {
				checkGraph(t, c.name, h, c.of(h), with(n))
			}
		}
	}
	idle := api.Hist{Txns: make([]api.Txn, 32)}
	checkWr(t, idle)
	checkInit(t, idle)
	checkByWords(t, idle)
}

// later are the edges from each of some nodes to all that follow it.
func later(l []int) []int {
	var edges []int
	for i, a := range l {
		for _, b := range l[i+1:] {
			edges = append(edges, a, b)
		}
	}
	return edges
}

// P17.1: one session, each of them, alone: an edge from each transaction to all later ones, and none back.
func TestSoOne(t *testing.T) {
	checkSo(t, sessions(3, 3, 3), 0, 1, 0, 2, 1, 2)
	for s := range 8 {
		for n := 1; n <= 32; n++ {
			checkSo(t, sessions(slices.Repeat(ints(s), n)...), later(upTo(n))...)
		}
	}
}

// P17.1: each transaction in a session of its own, and all but two of them.
func TestSoApart(t *testing.T) {
	r := rand.New(rand.NewSource(171))
	checkSo(t, sessions(0, 1, 2, 3, 4, 5, 6, 7))
	checkSo(t, sessions(7, 6, 5, 4, 3, 2, 1, 0))
	for range 40 {
		l := r.Perm(8)
		checkSo(t, sessions(l...))
		i, j := r.Intn(8), r.Intn(8)
		l[i] = l[j]
		if i != j {
			checkSo(t, sessions(l...), min(i, j), max(i, j))
		}
	}
}

// P17.1: sessions that take turns, and such that come one behind the other.
func TestSoTurns(t *testing.T) {
	checkSo(t, sessions(0, 1, 0, 1), 0, 2, 1, 3)
	checkSo(t, sessions(1, 0, 0, 1), 0, 3, 1, 2)
	checkSo(t, sessions(7, 7, 0, 0), 0, 1, 2, 3)
	checkSo(t, sessions(0, 7, 0, 0), 0, 2, 0, 3, 2, 3)
	for count := 1; count <= 8; count++ {
		for _, n := range ints(count, 2*count, 31, 32) {
			if n > 32 {
				continue
			}
			var turns, parts []int
			turn, part := make([][]int, 8), make([][]int, 8)
			for i := range n {
				turns, parts = append(turns, i%count), append(parts, i*count/n)
				turn[i%count], part[i*count/n] = append(turn[i%count], i), append(part[i*count/n], i)
			}
			var turnEdges, partEdges []int
			for s := range 8 {
				turnEdges, partEdges = append(turnEdges, later(turn[s])...), append(partEdges, later(part[s])...)
			}
			checkSo(t, sessions(turns...), turnEdges...)
			checkSo(t, sessions(parts...), partEdges...)
		}
	}
}

// P17.1: reads and writes change nothing of the sessions' order.
func TestSoAlone(t *testing.T) {
	h := history(both(ints(4), take(4, 1)), both(ints(4), take(4, 0)), reader(take(4, 1)), reader(take(4, -1)))
	checkSo(t, h, 0, 1, 2, 3)
	r := rand.New(rand.NewSource(172))
	for range 100 {
		h := chanceHist(r, 1+r.Intn(32), 1+r.Intn(16))
		idle := cloned(h)
		for i := range idle.Txns {
			idle.Txns[i].Reads, idle.Txns[i].Writes = nil, nil
		}
		checkGraph(t, "So", h, So(h), So(idle))
	}
}

// P17.1: one that reads from an earlier one, from a later one, and from each of all others.
func TestWr(t *testing.T) {
	for _, k := range ints(0, 1, 7, 14, 15) {
		checkWr(t, history(writer(k), reader(take(k, 0))), 0, 1)
		checkWr(t, history(reader(take(k, 1)), writer(k)), 1, 0)
		checkWr(t, history(writer(k), reader(take(k, 2)), writer(k)), 2, 1)
		checkWr(t, history(writer(k), writer(k), reader(take(k, 0))), 0, 2)
		// Two that read from each other.
		checkWr(t, history(both(ints(k), take(k, 1)), both(ints(k), take(k, 0))), 0, 1, 1, 0)
		// A chain of them.
		checkWr(t, history(writer(k), both(ints(k), take(k, 0)), both(ints(k), take(k, 1)), reader(take(k, 2))), 0, 1, 1, 2, 2, 3)
		for from := range 32 {
			for to := range 32 {
				if from != to {
					h := api.Hist{Txns: make([]api.Txn, 32)}
					h.Txns[from], h.Txns[to] = writer(k), reader(take(k, from))
					checkWr(t, h, from, to)
				}
			}
		}
	}
}

// P17.1: one that reads several keys from the same one, and from several ones; one from which many read.
func TestWrMany(t *testing.T) {
	all := func(from int) []api.Take {
		var l []api.Take
		for k := range 16 {
			l = append(l, take(k, from))
		}
		return l
	}
	checkWr(t, history(writer(3, 9), reader(take(3, 0), take(9, 0))), 0, 1)
	checkWr(t, history(writer(upTo(16)...), reader(all(0)...)), 0, 1)
	checkWr(t, history(reader(all(1)...), writer(upTo(16)...)), 1, 0)
	checkWr(t, history(writer(3), writer(9), reader(take(3, 0), take(9, 1))), 0, 2, 1, 2)
	checkWr(t, history(writer(9), reader(take(3, 2), take(9, 0)), writer(3)), 0, 1, 2, 1)
	checkWr(t, history(writer(3, 9), writer(3, 9), reader(take(3, 0), take(9, 1)), reader(take(3, 1), take(9, 1))), 0, 2, 1, 2, 1, 3)
	var h api.Hist
	var toOne []int
	for k := range 16 {
		h.Txns = append(h.Txns, writer(k))
		toOne = append(toOne, k, 16)
	}
	var reads []api.Take
	for k := range 16 {
		reads = append(reads, take(k, k))
	}
	h.Txns = append(h.Txns, reader(reads...))
	checkWr(t, h, toOne...)
	for from := range 32 {
		h := api.Hist{Txns: slices.Repeat([]api.Txn{reader(take(7, from))}, 32)}
		h.Txns[from] = writer(7)
		var edges []int
		for to := range 32 {
			if to != from {
				edges = append(edges, from, to)
			}
		}
		checkWr(t, h, edges...)
	}
}

// P17.1: what is written only, or read from nobody, makes no edge, whoever writes it.
func TestWrNone(t *testing.T) {
	for _, k := range ints(0, 7, 15) {
		checkWr(t, history(writer(k), writer(k), writer(k)))
		checkWr(t, history(reader(take(k, -1)), reader(take(k, -1))))
		checkWr(t, history(writer(k), reader(take(k, -1)), writer(k)))
		checkWr(t, history(both(ints(k), take(k, -1)), both(ints(k), take(k, -1))))
		checkWr(t, history(writer(k), both(ints(k), take(k, -1)), reader(take(k, 0))), 0, 2)
	}
	checkWr(t, api.Hist{Txns: slices.Repeat([]api.Txn{both(upTo(16), initials(upTo(16)...)...)}, 32)})
	// From the last transaction, whose number is next to that of none.
	checkWr(t, history(reader(take(4, -1)), api.Txn{}, writer(4)))
}

// P17.2: a key that is read from nobody, and that nobody writes, one, many, the reading one itself, alone and with others.
func TestInit(t *testing.T) {
	for _, k := range ints(0, 1, 7, 14, 15) {
		other := (k + 3) % 16
		checkInit(t, history(reader(take(k, -1))))
		checkInit(t, history(reader(take(k, -1)), writer(other), reader(take(k, -1))))
		checkInit(t, history(reader(take(k, -1)), writer(k)), 0, 1)
		checkInit(t, history(writer(k), reader(take(k, -1))), 1, 0)
		checkInit(t, history(writer(k), writer(k), reader(take(k, -1)), writer(k)), 2, 0, 2, 1, 2, 3)
		checkInit(t, history(reader(take(k, -1)), writer(k), reader(take(k, -1))), 0, 1, 2, 1)
		checkInit(t, history(both(ints(k), take(k, -1))))
		checkInit(t, history(both(ints(k), take(k, -1)), writer(k)), 0, 1)
		checkInit(t, history(writer(k), both(ints(k), take(k, -1)), reader(take(k, 0))), 1, 0)
		checkInit(t, history(both(ints(k), take(k, -1)), both(ints(k), take(k, -1))), 0, 1, 1, 0)
		for a := range 32 {
			for b := range 32 {
				if a != b {
					h := api.Hist{Txns: make([]api.Txn, 32)}
					h.Txns[a], h.Txns[b] = reader(take(k, -1)), writer(k)
					checkInit(t, h, a, b)
				}
			}
		}
	}
}

// P17.2: several keys that are read from nobody; each leads to its own writers.
func TestInitKeys(t *testing.T) {
	checkInit(t, history(reader(initials(3, 9)...), writer(3), writer(9)), 0, 1, 0, 2)
	checkInit(t, history(reader(initials(3, 9)...), writer(3, 9)), 0, 1)
	checkInit(t, history(reader(initials(3)...), reader(initials(9)...), writer(9), writer(3), writer(4)), 0, 3, 1, 2)
	checkInit(t, history(both(ints(3), initials(3, 9)...), both(ints(9), initials(3, 9)...)), 0, 1, 1, 0)
	checkInit(t, history(both(ints(3), initials(9)...), both(ints(9))), 0, 1)
	var l []api.Txn
	var edges []int
	for k := range 16 {
		l, edges = append(l, writer(k)), append(edges, 16, k)
	}
	checkInit(t, history(append(l, reader(initials(upTo(16)...)...))...), edges...)
	for _, n := range ints(1, 2, 31, 32) {
		var edges []int
		for a := range n {
			for b := range n {
				if a != b {
					edges = append(edges, a, b)
				}
			}
		}
		checkInit(t, api.Hist{Txns: slices.Repeat([]api.Txn{both(upTo(16), initials(upTo(16)...)...)}, n)}, edges...)
	}
}

// P17.2: a Read from a transaction makes no edge of Init, whoever else writes the key.
func TestInitNone(t *testing.T) {
	for _, k := range ints(0, 7, 15) {
		checkInit(t, history(writer(k), reader(take(k, 0)), writer(k)))
		checkInit(t, history(reader(take(k, 1)), writer(k), writer(k)))
		checkInit(t, history(both(ints(k), take(k, 1)), both(ints(k), take(k, 0))))
		checkInit(t, history(writer(k), writer(k), api.Txn{}))
		checkInit(t, history(writer(k), both(ints(k), take((k+1)%16, -1)), reader(take(k, 0))))
	}
	checkInit(t, history(writer(3, 9), reader(take(3, 0), take(9, -1)), writer(3), writer(9)), 1, 0, 1, 3)
}

// P17.2: an edge that is in So and in Wr, in one of them alone, in Init alone, and in all.
func TestPast(t *testing.T) {
	write, read := api.Txn{Writes: ints(4)}, api.Txn{Reads: takes(take(4, 0))}
	otherRead, first := api.Txn{Session: 1, Reads: takes(take(4, 0))}, api.Txn{Session: 1, Reads: initials(4)}
	// In both.
	checkPast(t, history(write, read), 0, 1)
	// In Wr alone.
	checkPast(t, history(write, otherRead), 0, 1)
	checkPast(t, history(api.Txn{Reads: takes(take(4, 1))}, write), 0, 1, 1, 0)
	checkPast(t, history(api.Txn{Session: 1, Reads: takes(take(4, 1))}, write), 1, 0)
	// In So alone.
	checkPast(t, history(write, write), 0, 1)
	checkPast(t, history(write, otherRead, read, first), 0, 1, 0, 2, 1, 3)
	// In Init alone.
	checkPast(t, history(first, write))
	checkPast(t, history(write, first))
	checkInit(t, history(write, first), 1, 0)
	checkPast(t, history(both(ints(4), take(4, -1)), writer(4), reader(take(4, 1))), 1, 2)
	// In So and in Init.
	checkPast(t, history(api.Txn{Reads: initials(4)}, write), 0, 1)
	checkPast(t, history(write, api.Txn{Reads: initials(4)}), 0, 1)
	// In all.
	all := history(api.Txn{Writes: ints(4), Reads: initials(5)}, api.Txn{Writes: ints(5), Reads: takes(take(4, 0))})
	checkSo(t, all, 0, 1)
	checkWr(t, all, 0, 1)
	checkInit(t, all, 0, 1)
	checkPast(t, all, 0, 1)
}

// P17.1, P17.2: no way is told that has two edges, but for those of one session.
func TestNotClosed(t *testing.T) {
	h := history(
		api.Txn{Session: 0, Writes: ints(4)}, api.Txn{Session: 1, Writes: ints(5), Reads: takes(take(4, 0))}, api.Txn{Session: 2, Reads: takes(take(5, 1))},
		api.Txn{Session: 2}, api.Txn{Session: 3, Writes: ints(9), Reads: initials(10)}, api.Txn{Session: 4, Writes: ints(10), Reads: initials(11)}, api.Txn{Session: 5, Writes: ints(11)})
	checkWr(t, h, 0, 1, 1, 2)
	checkPast(t, h, 0, 1, 1, 2, 2, 3)
	checkInit(t, h, 4, 5, 5, 6)
	checkSo(t, h, 2, 3)
}

// fewTxns are all transactions of two sessions, two keys, and Reads from -1 and the first two transactions.
func fewTxns() []api.Txn {
	var l []api.Txn
	for s := range 2 {
		for _, w := range [][]int{nil, {0}, {1}, {0, 1}} {
			for first := -2; first < 2; first++ {
				for second := -2; second < 2; second++ {
					txn := api.Txn{Session: s, Writes: w}
					// -2 stands for no Read.
					if first > -2 {
						txn.Reads = append(txn.Reads, take(0, first))
					}
					if second > -2 {
						txn.Reads = append(txn.Reads, take(1, second))
					}
					l = append(l, txn)
				}
			}
		}
	}
	return l
}

// checkAny holds all four functions against the chapter, whether the history is valid or not, and tells which it is.
func checkAny(t *testing.T, h api.Hist) bool {
	t.Helper()
	if !hist.Right(h) {
		checkNothing(t, h)
		return false
	}
	checkByWords(t, h)
	checkConsequence(t, h)
	return true
}

// P17.1 to P17.3: all histories of up to two transactions, and some of three, of two sessions and two keys.
func TestFewByWords(t *testing.T) {
	txns := fewTxns()
	counts := map[bool]int{}
	for i, a := range txns {
		counts[checkAny(t, history(a))]++
		for j, b := range txns {
			counts[checkAny(t, history(a, b))]++
			counts[checkAny(t, history(a, b, txns[(7*i+11*j)%len(txns)]))]++
		}
	}
	if counts[true] < 1000 || counts[false] < 1000 {
		t.Error(counts)
	}
}

// chanceKeys are keys by chance, rising.
func chanceKeys(r *rand.Rand, keyCount int) []int {
	l := r.Perm(keyCount)[:r.Intn(keyCount+1)]
	for i := range l {
		// Few keys are great ones half the time, so that each end of them is reached.
		l[i] += (16 - keyCount) * (keyCount % 2)
	}
	slices.Sort(l)
	return l
}

// chanceHist is a valid history by chance, of few sessions or of many.
func chanceHist(r *rand.Rand, n, keyCount int) api.Hist {
	var h api.Hist
	sessionCount := 1 + r.Intn(8)
	for range n {
		h.Txns = append(h.Txns, api.Txn{Session: r.Intn(sessionCount), Writes: chanceKeys(r, keyCount)})
	}
	for i := range h.Txns {
		for _, k := range chanceKeys(r, keyCount) {
			from := r.Intn(n)
			if from == i || !slices.Contains(h.Txns[from].Writes, k) {
				from = -1
			}
			h.Txns[i].Reads = append(h.Txns[i].Reads, take(k, from))
		}
	}
	return h
}

// thin is a valid history by chance, most of whose transactions have a few Reads and Writes at most.
func thin(r *rand.Rand, n, keyCount int) api.Hist {
	h := chanceHist(r, n, keyCount)
	for i := range h.Txns {
		reads := &h.Txns[i].Reads
		for len(*reads) > 0 && r.Intn(4) > 0 {
			at := r.Intn(len(*reads))
			*reads = slices.Delete(*reads, at, at+1)
		}
		// What is still read must have its writer.
		h.Txns[i].Writes = slices.DeleteFunc(h.Txns[i].Writes, func(k int) bool {
			return r.Intn(2) > 0 && !slices.ContainsFunc(h.Txns, func(txn api.Txn) bool { return slices.Contains(txn.Reads, take(k, i)) })
		})
	}
	return h
}

// spoil changes one thing of a history by chance.
func spoil(r *rand.Rand, h api.Hist) {
	txn := &h.Txns[r.Intn(len(h.Txns))]
	switch r.Intn(7) {
	case 0:
		txn.Session = r.Intn(10) - 1
	case 1:
		txn.Writes = slices.Insert(txn.Writes, r.Intn(len(txn.Writes)+1), r.Intn(18)-1)
	case 2:
		txn.Reads = slices.Insert(txn.Reads, r.Intn(len(txn.Reads)+1), take(r.Intn(18)-1, -1))
	case 3, 4:
		if len(txn.Reads) > 0 {
			txn.Reads[r.Intn(len(txn.Reads))].From = r.Intn(len(h.Txns)+3) - 2
		}
	default:
		if len(txn.Writes) > 0 {
			i := r.Intn(len(txn.Writes))
			txn.Writes = slices.Delete(txn.Writes, i, i+1)
		}
	}
}

// P17.1 to P17.3: histories by chance, right ones and such that were spoilt, held against the chapter's words.
func TestByChance(t *testing.T) {
	r := rand.New(rand.NewSource(173))
	counts := map[bool]int{}
	for range 1500 {
		n := []int{3, 4, 6, 32}[r.Intn(4)]
		h := chanceHist(r, 1+r.Intn(n), 1+r.Intn(16))
		if r.Intn(2) == 0 {
			h = thin(r, 1+r.Intn(n), 1+r.Intn(16))
		}
		for range 4 {
			counts[checkAny(t, h)]++
			spoil(r, h)
		}
	}
	if counts[true] < 1500 || counts[false] < 1000 {
		t.Error(counts)
	}
}

// P17.1 to P17.3: rich histories of all counts of transactions.
func TestRich(t *testing.T) {
	for n := range 33 {
		checkByWords(t, rich(n))
		checkConsequence(t, rich(n))
	}
}

// behind is a list with others behind it in its capacity.
func behind[T any](list []T, others ...T) []T {
	n := len(list)
	return append(slices.Clone(list), others...)[:n]
}

// full is a history with all that stands in the capacities of its lists, in memory of its own.
func full(h api.Hist) api.Hist {
	h.Txns = slices.Clone(h.Txns[:cap(h.Txns)])
	for i, txn := range h.Txns {
		h.Txns[i].Writes, h.Txns[i].Reads = slices.Clone(txn.Writes[:cap(txn.Writes)]), slices.Clone(txn.Reads[:cap(txn.Reads)])
	}
	return h
}

// fill puts v into a whole list, and behind it up to its capacity.
func fill[T any](list []T, v T) {
	list = list[:cap(list)]
	for i := range list {
		list[i] = v
	}
}

// crowded is a history with others behind it in the capacities of its lists, which would be told if they were read.
func crowded(h api.Hist) api.Hist {
	h = cloned(h)
	for i, txn := range h.Txns {
		h.Txns[i].Writes, h.Txns[i].Reads = behind(txn.Writes, 3, 7, 16), behind(txn.Reads, take(3, -1), take(7, 0), take(16, -2))
	}
	h.Txns = behind(h.Txns, writer(upTo(16)...), reader(initials(upTo(16)...)...), api.Txn{Session: 8})
	return h
}

// asked are histories to be asked about: valid ones and others.
func asked() []api.Hist {
	r := rand.New(rand.NewSource(174))
	l := []api.Hist{{}, sessions(0), sessions(9, 9), rich(1), rich(2), rich(5), rich(32), rich(33), {Txns: make([]api.Txn, 32)}}
	for i := range 120 {
		h := chanceHist(r, 1+r.Intn(32), 1+r.Intn(16))
		if i%3 == 0 {
			spoil(r, h)
		}
		l = append(l, h)
	}
	return l
}

// P17.1, P17.2: no call changes a history that it is given, nor what stands behind its lists in their capacity, and none reads that.
func TestLeavesHist(t *testing.T) {
	for _, plain := range asked() {
		h := crowded(plain)
		all := full(h)
		for _, c := range calls() {
			checkGraph(t, c.name, h, c.of(h), c.of(plain))
			fill(c.of(h).Rows, 1)
			if !sameHist(full(h), all) {
				t.Fatalf("%s: %s, was %s", c.name, brief(full(h)), brief(all))
			}
		}
	}
}

// P17.1, P17.2: no result shares memory with another one, not even in its capacity.
func TestNewMemory(t *testing.T) {
	for _, h := range asked() {
		var got, want []graph.Graph
		for range 2 {
			for _, c := range calls() {
				g := c.of(h)
				got, want = append(got, g), append(want, graph.Graph{N: g.N, Rows: slices.Clone(g.Rows)})
			}
		}
		for i := range got {
			if !slices.EqualFunc(got[i:], want[i:], sameGraph) {
				t.Fatalf("%s: result %d was changed by another one", brief(h), i)
			}
			fill(got[i].Rows, 1<<63)
			fill(append(got[i].Rows, 1, 2), 1<<62)
		}
		for i, c := range calls() {
			checkGraph(t, c.name, h, c.of(h), want[i])
		}
	}
}

// P17.1, P17.2: nothing is kept of an argument: what becomes of it later changes no result, but is seen by the next call.
func TestKeepsNothing(t *testing.T) {
	for _, plain := range asked() {
		for _, c := range calls() {
			h := crowded(plain)
			got := c.of(h)
			for _, txn := range h.Txns {
				fill(txn.Writes, -9)
				fill(txn.Reads, take(-9, -9))
			}
			fill(h.Txns, api.Txn{Session: -9})
			checkGraph(t, c.name, plain, got, c.of(plain))
			if len(h.Txns) > 0 {
				checkNothing(t, h)
			}
		}
	}
	h := history(writer(4), reader(take(4, 0)), writer(4))
	checkWr(t, h, 0, 1)
	checkInit(t, h)
	h.Txns[1].Reads[0].From = 2
	checkWr(t, h, 2, 1)
	h.Txns[1].Reads[0].From = -1
	checkWr(t, h)
	checkInit(t, h, 1, 0, 1, 2)
	h.Txns[2].Writes[0] = 5
	checkInit(t, h, 1, 0)
	checkSo(t, h, 0, 2)
	h.Txns[1].Session = 4
	checkSo(t, h, 0, 1, 0, 2, 1, 2)
	checkPast(t, h, 0, 1, 0, 2, 1, 2)
	h.Txns[0].Session = 8
	checkNothing(t, h)
}

// P17.1, P17.2: what a call returns does not depend on earlier ones.
func TestTwiceAsked(t *testing.T) {
	one, other := history(writer(4), writer(4), reader(take(4, 0))), history(writer(9), reader(take(4, -1), take(9, 0)), writer(4))
	wrong := history(writer(4), writer(4), reader(take(4, 2)))
	for range 3 {
		checkSo(t, one, 0, 1)
		checkSo(t, other, 0, 2)
		checkNothing(t, wrong)
		checkWr(t, one, 0, 2)
		checkWr(t, other, 0, 1)
		checkInit(t, one)
		checkInit(t, other, 1, 2)
		checkPast(t, one, 0, 1, 0, 2)
		checkPast(t, other, 0, 2, 0, 1)
		checkSo(t, api.Hist{})
		checkByWords(t, rich(32))
	}
}
