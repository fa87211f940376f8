package reach

import (
	"fmt"
	"math/rand"
	"slices"
	"testing"

	"inquest/api"
	"inquest/graph"
)

const (
	least = -1 << 63
	most  = 1<<63 - 1
	full  = 1<<64 - 1
)

func ints(l ...int) []int { return l }

func rows(l ...uint64) []uint64 { return l }

func raw(n int, l ...uint64) graph.Graph { return graph.Graph{N: n, Rows: l} }

// power is 2 to the power of i.
func power(i int) uint64 {
	p := uint64(1)
	for range i {
		p *= 2
	}
	return p
}

// set is the set of some numbers, each of which is there once.
func set(l ...int) uint64 {
	s := uint64(0)
	for _, i := range l {
		s += power(i)
	}
	return s
}

// table is which edges, or paths, there are: from the first index to the second one.
type table [64][64]bool

// tableOf is the edges of a valid graph, by chapter 12's words: what is odd after b halvings has b.
func tableOf(g graph.Graph) table {
	var is table
	for a, row := range g.Rows {
		for b := 0; b <= 63; b++ {
			is[a][b] = row%2 == 1
			row /= 2
		}
	}
	return is
}

// drawn is the graph with the edges that a function has.
func drawn(n int, has func(a, b int) bool) graph.Graph {
	g := graph.Graph{N: n}
	for a := 0; a < n; a++ {
		row := uint64(0)
		for b := 0; b < n; b++ {
			if has(a, b) {
				row += power(b)
			}
		}
		g.Rows = append(g.Rows, row)
	}
	return g
}

// with is the graph with some edges, of which each is two nodes of a list.
func with(n int, l ...int) graph.Graph {
	var is table
	for i := 0; i+1 < len(l); i += 2 {
		is[l[i]][l[i+1]] = true
	}
	return drawn(n, func(a, b int) bool { return is[a][b] })
}

// along is the graph with an edge from each node of a list to the next one.
func along(n int, l ...int) graph.Graph {
	var edges []int
	for i := 0; i+1 < len(l); i++ {
		edges = append(edges, l[i], l[i+1])
	}
	return with(n, edges...)
}

// around is that with an edge from the last one to the first one, too.
func around(n int, l ...int) graph.Graph { return along(n, append(slices.Clone(l), l[0])...) }

// ahead is the graph with an edge from each node of a list to all that follow it there.
func ahead(n int, l ...int) graph.Graph {
	var edges []int
	for i := range l {
		for j := i + 1; j < len(l); j++ {
			edges = append(edges, l[i], l[j])
		}
	}
	return with(n, edges...)
}

// among is the graph with an edge from each of some nodes to each of them.
func among(n int, l ...int) graph.Graph {
	return drawn(n, func(a, b int) bool { return slices.Contains(l, a) && slices.Contains(l, b) })
}

// joined is the graph with the edges of two.
func joined(a, b graph.Graph) graph.Graph {
	one, other := tableOf(a), tableOf(b)
	return drawn(a.N, func(x, y int) bool { return one[x][y] || other[x][y] })
}

// lacking is a graph without one of its edges.
func lacking(g graph.Graph, a, b int) graph.Graph {
	is := tableOf(g)
	return drawn(g.N, func(x, y int) bool { return is[x][y] && (x != a || y != b) })
}

func noneOf(n int) graph.Graph { return drawn(n, func(a, b int) bool { return false }) }

func fullOf(n int) graph.Graph { return drawn(n, func(a, b int) bool { return true }) }

func loopsOf(n int) graph.Graph { return drawn(n, func(a, b int) bool { return a == b }) }

// inOrder, against and mixed are lists of all nodes.
func inOrder(n int) []int {
	var l []int
	for i := range n {
		l = append(l, i)
	}
	return l
}

func against(n int) []int {
	l := inOrder(n)
	slices.Reverse(l)
	return l
}

func mixed(n int, seed int64) []int {
	return rand.New(rand.NewSource(seed)).Perm(n)
}

// lists are lists of all nodes, in several orders.
func lists(n int) [][]int {
	l := [][]int{inOrder(n), against(n)}
	for seed := range int64(4) {
		l = append(l, mixed(n, seed+1))
	}
	return l
}

// pathsByWords is which paths a valid graph has, by the chapter's words: an edge is one, and so is a path with an edge behind it.
func pathsByWords(g graph.Graph) table {
	var paths table
	is := tableOf(g)
	for a := 0; a < g.N; a++ {
		var ends []int
		reach := func(x int) {
			for y := 0; y < g.N; y++ {
				if is[x][y] && !paths[a][y] {
					paths[a][y] = true
					ends = append(ends, y)
				}
			}
		}
		reach(a)
		for i := 0; i < len(ends); i++ {
			reach(ends[i])
		}
	}
	return paths
}

// closeByWords, cyclicByWords and moreByWords are what the functions return of valid graphs, by the chapter's words.
func closeByWords(g graph.Graph) graph.Graph {
	paths := pathsByWords(g)
	return drawn(g.N, func(x, y int) bool { return paths[x][y] })
}

func cyclicByWords(g graph.Graph) bool {
	paths := pathsByWords(g)
	for x := 0; x < g.N; x++ {
		if paths[x][x] {
			return true
		}
	}
	return false
}

func moreByWords(c graph.Graph, a, b int) graph.Graph {
	is := tableOf(c)
	return drawn(c.N, func(x, y int) bool {
		return is[x][y] || (x == a || is[x][a]) && (y == b || is[b][y])
	})
}

// addByWords is a graph with one edge more.
func addByWords(g graph.Graph, a, b int) graph.Graph { return joined(g, with(g.N, a, b)) }

// byChance is a graph by chance: of so few edges that paths are long, of some, of about half of all, or of nearly all.
func byChance(r *rand.Rand, n int) graph.Graph {
	part := []int{500, 800, 1200, 2000, 1000 * n / 2, r.Intn(1000*n + 1)}[r.Intn(6)]
	return drawn(n, func(a, b int) bool { return r.Intn(1000*n) < part })
}

// kinds are graphs of n nodes: without edges, full, with those edges that lead one way, with paths and cycles, and by chance.
func kinds(n int) []graph.Graph {
	l := []graph.Graph{
		noneOf(n),
		fullOf(n),
		loopsOf(n),
		drawn(n, func(a, b int) bool { return b == (a+1)%n }),
		drawn(n, func(a, b int) bool { return b == (a+2)%n }),
		drawn(n, func(a, b int) bool { return a/2 == b/2 && a != b }),
		drawn(n, func(a, b int) bool { return a/8 == b/8 && a < b }),
		drawn(n, func(a, b int) bool { return b == 2*a || b == 2*a+1 }),
		drawn(n, func(a, b int) bool { return a == 0 }),
		drawn(n, func(a, b int) bool { return b == 0 }),
		drawn(n, func(a, b int) bool { return a == n-1 }),
		drawn(n, func(a, b int) bool { return b == n-1 }),
		drawn(n, func(a, b int) bool { return a == n-1 && b == 0 }),
		drawn(n, func(a, b int) bool { return a < b }),
		drawn(n, func(a, b int) bool { return a >= b }),
		drawn(n, func(a, b int) bool { return a != b }),
	}
	for _, nodes := range lists(n) {
		l = append(l, along(n, nodes...))
	}
	r := rand.New(rand.NewSource(int64(300 + n)))
	for range 8 {
		l = append(l, byChance(r, n))
	}
	return l
}

// samples are the kinds of graphs of each number of nodes.
func samples() []graph.Graph {
	var l []graph.Graph
	for n := 0; n <= 64; n++ {
		l = append(l, kinds(n)...)
	}
	return l
}

// fewSamples are those of some numbers of nodes.
func fewSamples() []graph.Graph {
	var l []graph.Graph
	for _, n := range ints(0, 1, 2, 3, 5, 33, 63, 64) {
		l = append(l, kinds(n)...)
	}
	return l
}

// eachOf calls a function with each graph of n nodes.
func eachOf(n int, call func(graph.Graph)) {
	for code := uint64(0); code < power(n*n); code++ {
		g, left := graph.Graph{N: n, Rows: make([]uint64, n)}, code
		for a := range g.Rows {
			g.Rows[a] = left % power(n)
			left /= power(n)
		}
		call(g)
	}
}

// noCounts are numbers of nodes that no graph has; some are others where only their last bits are looked at.
func noCounts() []int {
	l := ints(-1, 65, least, most, -2, -63, -64, -65, 66, 127, 128, 129, 192, 256, 257, 1000, -1<<8+2, 1<<8+2, 1<<16+2)
	return append(l, 1<<31-1, 1<<31, 1<<32-1, 1<<32, 1<<32+2, 1<<32+64, -1<<31, -1<<32, -1<<32+2, 1<<62, least+1, least+2, least+64, most-1, most-63)
}

// noNodes are numbers that are no nodes of a graph with n of them.
func noNodes(n int) []int {
	return append(noCounts(), n, n+1, n+64, 64, n+256, n+1<<32, n-1-1<<32, -n-1)
}

// wrongCounts are graphs that are not valid: N is no number of nodes, or there are fewer or more rows.
func wrongCounts() []graph.Graph {
	l := []graph.Graph{raw(1), raw(0, 0), raw(0, 1), raw(1, 0, 0), raw(1, 1, 1), raw(2, 0), raw(2, 2), raw(2, 2, 1, 0), raw(3, 6, 6), raw(-1), raw(-1, 0), raw(-1, 1), raw(-2, 2, 1)}
	for _, n := range append(noCounts(), inOrder(65)...) {
		for _, count := range ints(0, 1, 2, n-1, n+1, 63, 64, 65) {
			if count >= 0 && count <= 65 && count != n {
				l = append(l, graph.Graph{N: n, Rows: make([]uint64, count)})
				l = append(l, graph.Graph{N: n, Rows: slices.Repeat(rows(1), count)})
			}
		}
		if n > 64 && n <= 1000 {
			l = append(l, graph.Graph{N: n, Rows: make([]uint64, n)})
			l = append(l, graph.Graph{N: n, Rows: slices.Repeat(rows(full), n)})
		}
	}
	return l
}

// wrongRows are graphs that are not valid: some row, the first, a middle or the last one, has a number that is no node.
func wrongRows() []graph.Graph {
	var l []graph.Graph
	for n := 1; n <= 63; n++ {
		for _, base := range []graph.Graph{noneOf(n), fullOf(n), along(n, inOrder(n)...)} {
			for _, at := range ints(0, n/2, n-1) {
				for _, wrong := range ints(n, (n+64)/2, 63) {
					g := graph.Graph{N: n, Rows: slices.Clone(base.Rows)}
					g.Rows[at] += power(wrong)
					l = append(l, g)
				}
			}
		}
		l = append(l, graph.Graph{N: n, Rows: slices.Repeat(rows(full), n)})
		l = append(l, graph.Graph{N: n, Rows: slices.Repeat(rows(power(n)), n)})
	}
	return l
}

// wrongGraphs are all graphs of these tests that are not valid.
func wrongGraphs() []graph.Graph { return append(wrongCounts(), wrongRows()...) }

// brief is how a value is printed where a test fails; a long one is cut off.
func brief(v any) string { return fmt.Sprintf("%.400s", fmt.Sprint(v)) }

func same(a, b graph.Graph) bool { return a.N == b.N && slices.Equal(a.Rows, b.Rows) }

func checkClose(t *testing.T, g, want graph.Graph) {
	t.Helper()
	if got, e := Close(g); e != api.OK || !same(got, want) {
		t.Fatalf("Close(%s) = %s, %d, want %s", brief(g), brief(got), e, brief(want))
	}
}

func checkCloseWrong(t *testing.T, g graph.Graph) {
	t.Helper()
	if got, e := Close(g); e != api.ErrArg || got.N != 0 || len(got.Rows) != 0 {
		t.Fatalf("Close(%s) = %s, %d, want the zero graph and ErrArg", brief(g), brief(got), e)
	}
}

func checkMore(t *testing.T, c graph.Graph, a, b int, want graph.Graph) {
	t.Helper()
	if got, e := More(c, a, b); e != api.OK || !same(got, want) {
		t.Fatalf("More(%s, %d, %d) = %s, %d, want %s", brief(c), a, b, brief(got), e, brief(want))
	}
}

func checkMoreWrong(t *testing.T, c graph.Graph, a, b int) {
	t.Helper()
	if got, e := More(c, a, b); e != api.ErrArg || got.N != 0 || len(got.Rows) != 0 {
		t.Fatalf("More(%s, %d, %d) = %s, %d, want the zero graph and ErrArg", brief(c), a, b, brief(got), e)
	}
}

func checkCyclic(t *testing.T, g graph.Graph, want bool) {
	t.Helper()
	if got := Cyclic(g); got != want {
		t.Fatalf("Cyclic(%s) = %v", brief(g), got)
	}
}

func checkFrom(t *testing.T, g graph.Graph, a int, want uint64) {
	t.Helper()
	if got := From(g, a); got != want {
		t.Fatalf("From(%s, %d) = %d, want %d", brief(g), a, got, want)
	}
}

// checkByWords checks what the functions return of a valid graph; More with some edges by chance.
func checkByWords(t *testing.T, r *rand.Rand, g graph.Graph) {
	t.Helper()
	closed := closeByWords(g)
	checkClose(t, g, closed)
	checkCyclic(t, g, cyclicByWords(g))
	for a := range g.N {
		checkFrom(t, g, a, closed.Rows[a])
	}
	for range min(g.N, 4) {
		a, b := r.Intn(g.N), r.Intn(g.N)
		checkMore(t, g, a, b, moreByWords(g, a, b))
	}
}

// must is what a call returned that must not fail.
func must(g graph.Graph, e api.Errno) graph.Graph {
	if e != api.OK {
		panic(e)
	}
	return g
}

// P13.1: the chapter's example.
func TestExample(t *testing.T) {
	checkClose(t, with(3, 0, 1, 1, 2), with(3, 0, 1, 1, 2, 0, 2))
	checkClose(t, raw(3, 2, 4, 0), raw(3, 6, 4, 0))
}

// P13.1: no node, one node, and 64 of them; no edge, and all of them.
func TestCloseEnds(t *testing.T) {
	checkClose(t, graph.Graph{}, graph.Graph{})
	checkClose(t, graph.Graph{Rows: rows()}, graph.Graph{})
	checkClose(t, raw(1, 0), raw(1, 0))
	checkClose(t, raw(1, 1), raw(1, 1))
	checkClose(t, raw(2, 2, 1), raw(2, 3, 3))
	checkClose(t, graph.Graph{N: 64, Rows: slices.Repeat(rows(full), 64)}, graph.Graph{N: 64, Rows: slices.Repeat(rows(full), 64)})
	checkClose(t, with(64, 0, 63, 63, 0), with(64, 0, 0, 0, 63, 63, 0, 63, 63))
	checkClose(t, with(64, 62, 63, 63, 61), with(64, 62, 63, 63, 61, 62, 61))
	for n := 0; n <= 64; n++ {
		checkClose(t, noneOf(n), noneOf(n))
		checkClose(t, fullOf(n), fullOf(n))
		checkClose(t, loopsOf(n), loopsOf(n))
		checkClose(t, drawn(n, func(a, b int) bool { return a != b }), drawn(n, func(a, b int) bool { return a != b || n > 1 }))
	}
}

// P13.1: a path through all nodes leads from each node to all behind it; a cycle through all of them from each to each.
func TestClosePaths(t *testing.T) {
	for n := 1; n <= 64; n++ {
		for _, l := range lists(n) {
			checkClose(t, along(n, l...), ahead(n, l...))
			checkClose(t, around(n, l...), fullOf(n))
		}
	}
}

// P13.1: a path into a cycle, one out of it, and both.
func TestClosePathsAndCycles(t *testing.T) {
	checkClose(t, raw(4, 0, 5, 8, 2), raw(4, 0, 15, 15, 15))
	checkClose(t, with(4, 0, 1, 1, 2, 2, 1), with(4, 0, 1, 0, 2, 1, 1, 1, 2, 2, 1, 2, 2))
	checkClose(t, with(3, 0, 0, 0, 1, 1, 2), with(3, 0, 0, 0, 1, 0, 2, 1, 2))
	checkClose(t, with(3, 0, 1, 1, 2, 2, 2), with(3, 0, 1, 0, 2, 1, 2, 2, 2))
	for _, n := range ints(5, 33, 63, 64) {
		for _, l := range lists(n) {
			one, other := l[:n/3], l[n/3:2*n/3]
			g := joined(along(n, l...), with(n, other[len(other)-1], other[0]))
			checkClose(t, g, joined(ahead(n, l...), among(n, other...)))
			g = joined(along(n, l...), with(n, one[len(one)-1], one[0]))
			checkClose(t, g, joined(ahead(n, l...), among(n, one...)))
		}
	}
}

// P13.1: an edge from a node to itself is a path, and is no other one's.
func TestCloseLoops(t *testing.T) {
	checkClose(t, raw(2, 1, 0), raw(2, 1, 0))
	checkClose(t, raw(2, 0, 2), raw(2, 0, 2))
	for n := 1; n <= 64; n++ {
		for a := range n {
			checkClose(t, with(n, a, a), with(n, a, a))
		}
		for _, at := range ints(0, n/2, n-1) {
			l := mixed(n, 7)
			checkClose(t, joined(along(n, l...), with(n, at, at)), joined(ahead(n, l...), with(n, at, at)))
		}
	}
}

// P13.1: without an edge from x to itself and without a cycle through x, no edge of the closure leads from x to x.
func TestCloseNoLoops(t *testing.T) {
	r := rand.New(rand.NewSource(301))
	for n := 1; n <= 64; n++ {
		for _, l := range lists(n) {
			some := drawn(n, func(a, b int) bool { return r.Intn(3) == 0 })
			is, behind := tableOf(some), tableOf(ahead(n, l...))
			closed := must(Close(drawn(n, func(a, b int) bool { return is[a][b] && behind[a][b] })))
			has := tableOf(closed)
			for a := range n {
				for b := range n {
					if has[a][b] && !behind[a][b] {
						t.Fatalf("%s: an edge from %d to %d", brief(l), a, b)
					}
				}
			}
		}
	}
}

// P13.1: two parts without an edge between them have no path between them.
func TestCloseParts(t *testing.T) {
	checkClose(t, with(4, 0, 1, 2, 3), with(4, 0, 1, 2, 3))
	checkClose(t, with(4, 0, 1, 1, 0, 2, 3), with(4, 0, 0, 0, 1, 1, 0, 1, 1, 2, 3))
	for _, n := range ints(2, 3, 4, 5, 32, 33, 63, 64) {
		for _, l := range lists(n) {
			for _, cut := range ints(1, n/2, n-1) {
				one, other := l[:cut], l[cut:]
				checkClose(t, joined(along(n, one...), along(n, other...)), joined(ahead(n, one...), ahead(n, other...)))
				checkClose(t, joined(around(n, one...), along(n, other...)), joined(among(n, one...), ahead(n, other...)))
				checkClose(t, joined(around(n, one...), around(n, other...)), joined(among(n, one...), among(n, other...)))
				bridge := with(n, one[0], other[0])
				crossing := drawn(n, func(a, b int) bool { return slices.Contains(one, a) && slices.Contains(other, b) })
				checkClose(t, joined(joined(around(n, one...), around(n, other...)), bridge), joined(joined(among(n, one...), among(n, other...)), crossing))
			}
		}
	}
}

// P13.1: a graph that is closed already is its closure.
func TestCloseClosed(t *testing.T) {
	for n := 1; n <= 64; n++ {
		for _, l := range lists(n) {
			checkClose(t, ahead(n, l...), ahead(n, l...))
			checkClose(t, joined(ahead(n, l...), loopsOf(n)), joined(ahead(n, l...), loopsOf(n)))
			checkClose(t, among(n, l[:n/2]...), among(n, l[:n/2]...))
		}
	}
}

// P13.1: a graph that is not valid has no closure.
func TestCloseWrong(t *testing.T) {
	checkCloseWrong(t, raw(1))
	checkCloseWrong(t, raw(0, 0))
	checkCloseWrong(t, raw(2, 1, 1, 1))
	checkCloseWrong(t, raw(1, 2))
	checkCloseWrong(t, raw(2, 0, 4))
	checkCloseWrong(t, raw(-1))
	checkCloseWrong(t, graph.Graph{N: 65, Rows: make([]uint64, 65)})
	checkCloseWrong(t, graph.Graph{N: 65, Rows: make([]uint64, 64)})
	checkCloseWrong(t, graph.Graph{N: 64, Rows: make([]uint64, 63)})
	for _, g := range wrongGraphs() {
		checkCloseWrong(t, g)
	}
}

// P13.2: a closed graph: what leads to a leads on to b, and to what b leads to.
func TestMore(t *testing.T) {
	checkMore(t, raw(4, 2, 0, 8, 0), 1, 2, raw(4, 14, 12, 8, 0))
	checkMore(t, raw(4, 2, 0, 8, 0), 1, 0, raw(4, 3, 3, 8, 0))
	checkMore(t, raw(4, 2, 0, 8, 0), 0, 2, raw(4, 14, 0, 8, 0))
	checkMore(t, raw(4, 2, 0, 8, 0), 0, 3, raw(4, 10, 0, 8, 0))
	checkMore(t, raw(4, 2, 0, 8, 0), 3, 0, raw(4, 2, 0, 11, 3))
	for n := 1; n <= 64; n++ {
		for _, l := range lists(n) {
			checkMore(t, ahead(n, l...), l[n-1], l[0], fullOf(n))
			for _, cut := range ints(1, n/2, n-1) {
				if cut > 0 && cut < n {
					apart := joined(ahead(n, l[:cut]...), ahead(n, l[cut:]...))
					checkMore(t, apart, l[cut-1], l[cut], ahead(n, l...))
				}
			}
		}
	}
}

// P13.2: a graph that is not closed: only edges of c itself lead to a and from b, and those of c stay.
func TestMoreNotClosed(t *testing.T) {
	path := along(6, 0, 1, 2, 3, 4, 5)
	checkMore(t, path, 2, 0, joined(path, with(6, 2, 0, 2, 1, 1, 0, 1, 1)))
	checkMore(t, path, 0, 5, joined(path, with(6, 0, 5)))
	checkMore(t, path, 5, 0, joined(path, with(6, 5, 0, 5, 1, 4, 0, 4, 1)))
	checkMore(t, path, 3, 3, joined(path, with(6, 3, 3, 3, 4, 2, 3, 2, 4)))
	checkMore(t, path, 2, 3, joined(path, with(6, 2, 3, 2, 4, 1, 3, 1, 4)))
	checkMore(t, with(4, 0, 1, 2, 3, 3, 2), 1, 2, with(4, 0, 1, 2, 3, 3, 2, 1, 2, 1, 3, 0, 2, 0, 3))
	// a leads to itself, or b does, or each to the other one.
	checkMore(t, with(3, 0, 0), 0, 1, with(3, 0, 0, 0, 1))
	checkMore(t, with(3, 1, 1), 0, 1, with(3, 1, 1, 0, 1))
	checkMore(t, with(3, 1, 0), 0, 1, with(3, 1, 0, 0, 1, 0, 0, 1, 1))
	checkMore(t, with(3, 0, 2, 1, 2, 2, 0), 0, 1, with(3, 0, 2, 1, 2, 2, 0, 0, 1, 2, 1, 2, 2))
	for n := 3; n <= 64; n++ {
		for _, l := range lists(n) {
			a, b := n/2, n/3
			g := along(n, l...)
			want := joined(g, with(n, l[a], l[b], l[a], l[b+1], l[a-1], l[b], l[a-1], l[b+1]))
			checkMore(t, g, l[a], l[b], want)
		}
	}
}

// P13.2: a is b, with an edge from it to itself and without.
func TestMoreSame(t *testing.T) {
	checkMore(t, raw(3, 0, 0, 0), 1, 1, raw(3, 0, 2, 0))
	checkMore(t, raw(3, 0, 2, 0), 1, 1, raw(3, 0, 2, 0))
	checkMore(t, with(3, 0, 1, 1, 2), 1, 1, with(3, 0, 1, 0, 2, 1, 1, 1, 2))
	checkMore(t, with(3, 0, 1, 1, 2, 1, 1), 1, 1, with(3, 0, 1, 0, 2, 1, 1, 1, 2))
	for n := 1; n <= 64; n++ {
		for a := range n {
			checkMore(t, noneOf(n), a, a, with(n, a, a))
			checkMore(t, with(n, a, a), a, a, with(n, a, a))
			checkMore(t, loopsOf(n), a, a, loopsOf(n))
		}
		for _, l := range lists(n) {
			a := l[n/2]
			closed := ahead(n, l...)
			checkMore(t, closed, a, a, addByWords(closed, a, a))
			checkMore(t, addByWords(closed, a, a), a, a, addByWords(closed, a, a))
			path := along(n, l...)
			checkMore(t, path, a, a, moreByWords(path, a, a))
			looped := addByWords(path, a, a)
			checkMore(t, looped, a, a, moreByWords(looped, a, a))
		}
	}
}

// P13.2: an edge that is there already changes a closed graph in nothing, and adds to another one what the edge would.
func TestMoreThere(t *testing.T) {
	checkMore(t, raw(3, 6, 4, 0), 0, 2, raw(3, 6, 4, 0))
	checkMore(t, raw(3, 2, 4, 0), 0, 1, raw(3, 6, 4, 0))
	checkMore(t, raw(1, 1), 0, 0, raw(1, 1))
	for n := 1; n <= 64; n++ {
		for _, l := range lists(n) {
			a, b := l[n/3], l[n-1]
			checkMore(t, fullOf(n), a, b, fullOf(n))
			checkMore(t, lacking(fullOf(n), a, b), a, b, fullOf(n))
			if n > 1 {
				checkMore(t, ahead(n, l...), a, b, ahead(n, l...))
			}
		}
	}
}

// P13.2: one node, and 64 of them; the first and the last.
func TestMoreEnds(t *testing.T) {
	checkMore(t, raw(1, 0), 0, 0, raw(1, 1))
	checkMore(t, raw(1, 1), 0, 0, raw(1, 1))
	checkMore(t, noneOf(64), 0, 63, with(64, 0, 63))
	checkMore(t, noneOf(64), 63, 0, with(64, 63, 0))
	checkMore(t, noneOf(64), 63, 63, with(64, 63, 63))
	checkMore(t, with(64, 62, 63), 63, 0, with(64, 62, 63, 62, 0, 63, 0))
	checkMore(t, with(64, 63, 62), 0, 63, with(64, 63, 62, 0, 62, 0, 63))
	checkMore(t, fullOf(64), 63, 0, fullOf(64))
}

// P13.2: a, b, or both are no nodes.
func TestMoreWrong(t *testing.T) {
	for _, n := range ints(-1, 0, 1, 64, least, most) {
		checkMoreWrong(t, graph.Graph{}, n, n)
		checkMoreWrong(t, graph.Graph{}, 0, n)
	}
	for _, g := range fewSamples() {
		for _, wrong := range noNodes(g.N) {
			for _, node := range ints(0, g.N/2, g.N-1) {
				checkMoreWrong(t, g, wrong, node)
				checkMoreWrong(t, g, node, wrong)
			}
			checkMoreWrong(t, g, wrong, wrong)
			checkMoreWrong(t, g, wrong, -1)
			checkMoreWrong(t, g, g.N, wrong)
		}
	}
}

// P13.2: a graph that is not valid, with nodes and with others.
func TestMoreNotRight(t *testing.T) {
	for _, g := range wrongGraphs() {
		for _, a := range ints(0, 1, g.N/2, g.N-1, g.N, 64, -1, least, most) {
			for _, b := range ints(0, g.N-1, g.N, 63, -1, most) {
				checkMoreWrong(t, g, a, b)
			}
		}
	}
}

// P13.1: a graph without a cycle is not cyclic, however long its paths are.
func TestCyclicNot(t *testing.T) {
	checkCyclic(t, graph.Graph{}, false)
	checkCyclic(t, graph.Graph{Rows: rows()}, false)
	checkCyclic(t, raw(1, 0), false)
	checkCyclic(t, raw(3, 2, 4, 0), false)
	checkCyclic(t, raw(4, 6, 8, 8, 0), false)
	for n := 1; n <= 64; n++ {
		checkCyclic(t, noneOf(n), false)
		for _, l := range lists(n) {
			checkCyclic(t, along(n, l...), false)
			checkCyclic(t, ahead(n, l...), false)
		}
	}
}

// P13.1: cycles of one node, of two, of some and of all.
func TestCyclic(t *testing.T) {
	checkCyclic(t, raw(1, 1), true)
	checkCyclic(t, raw(2, 2, 1), true)
	checkCyclic(t, raw(3, 2, 4, 1), true)
	for n := 1; n <= 64; n++ {
		checkCyclic(t, fullOf(n), true)
		for a := range n {
			checkCyclic(t, with(n, a, a), true)
		}
		for _, l := range lists(n) {
			checkCyclic(t, around(n, l...), true)
			for _, size := range ints(1, 2, 3, n/2, n-1) {
				if size > 0 && size <= n {
					checkCyclic(t, around(n, l[:size]...), true)
					checkCyclic(t, around(n, l[n-size:]...), true)
				}
			}
		}
	}
}

// P13.1: a cycle far behind a path, one far ahead of it, and one apart from it.
func TestCyclicFar(t *testing.T) {
	for _, n := range ints(4, 5, 33, 63, 64) {
		for _, l := range lists(n) {
			for size := 1; size <= 3; size++ {
				checkCyclic(t, joined(along(n, l...), with(n, l[n-1], l[n-size])), true)
				checkCyclic(t, joined(along(n, l...), with(n, l[size-1], l[0])), true)
				checkCyclic(t, joined(along(n, l[size:]...), around(n, l[:size]...)), true)
			}
		}
	}
}

// P13.1: a graph that is not valid is not cyclic, whatever its rows are.
func TestCyclicWrong(t *testing.T) {
	checkCyclic(t, raw(1, 3), false)
	checkCyclic(t, raw(2, 3, 3, 3), false)
	checkCyclic(t, raw(2, 3), false)
	checkCyclic(t, raw(-1, 1), false)
	checkCyclic(t, raw(0, 1), false)
	checkCyclic(t, graph.Graph{N: 65, Rows: slices.Repeat(rows(full), 65)}, false)
	checkCyclic(t, graph.Graph{N: 64, Rows: slices.Repeat(rows(full), 63)}, false)
	checkCyclic(t, graph.Graph{N: 63, Rows: slices.Repeat(rows(full), 63)}, false)
	for _, g := range wrongGraphs() {
		checkCyclic(t, g, false)
	}
}

// P13.1: a node on a cycle leads to itself, and others do not.
func TestFrom(t *testing.T) {
	checkFrom(t, raw(1, 0), 0, 0)
	checkFrom(t, raw(1, 1), 0, 1)
	checkFrom(t, raw(2, 2, 0), 0, 2)
	checkFrom(t, raw(2, 2, 0), 1, 0)
	checkFrom(t, raw(2, 2, 1), 1, 3)
	checkFrom(t, raw(3, 2, 4, 1), 1, 7)
	// Behind a path, ahead of one, and apart from it.
	g := with(6, 0, 1, 1, 2, 2, 1, 2, 3, 4, 4)
	for a, want := range rows(set(1, 2, 3), set(1, 2, 3), set(1, 2, 3), 0, set(4), 0) {
		checkFrom(t, g, a, want)
	}
	for n := 1; n <= 64; n++ {
		all := fullOf(n).Rows[0]
		for a := range n {
			checkFrom(t, noneOf(n), a, 0)
			checkFrom(t, fullOf(n), a, all)
			checkFrom(t, loopsOf(n), a, set(a))
			checkFrom(t, with(n, a, n-1), a, set(n-1))
			checkFrom(t, drawn(n, func(x, y int) bool { return x == a && y != a }), a, all-set(a))
			checkFrom(t, drawn(n, func(x, y int) bool { return x != a && y != a }), a, 0)
		}
		for _, l := range lists(n) {
			for at, a := range l {
				checkFrom(t, along(n, l...), a, set(l[at+1:]...))
				checkFrom(t, around(n, l...), a, all)
			}
		}
	}
}

// P13.1: the last of 64 nodes.
func TestFromLast(t *testing.T) {
	checkFrom(t, with(64, 63, 0, 0, 5), 63, set(0, 5))
	checkFrom(t, with(64, 5, 62, 62, 63), 5, set(62, 63))
	checkFrom(t, with(64, 5, 62, 62, 63), 63, 0)
	checkFrom(t, with(64, 63, 63), 63, 1<<63)
	checkFrom(t, with(64, 62, 63, 63, 62), 63, 3<<62)
	checkFrom(t, fullOf(64), 63, full)
	checkFrom(t, around(64, inOrder(64)...), 63, full)
	checkFrom(t, along(64, inOrder(64)...), 0, full-1)
}

// P13.1: what is no node leads nowhere.
func TestFromWrong(t *testing.T) {
	for _, a := range ints(-1, 0, 1, 64, least, most) {
		checkFrom(t, graph.Graph{}, a, 0)
	}
	for _, g := range fewSamples() {
		for _, wrong := range noNodes(g.N) {
			checkFrom(t, g, wrong, 0)
		}
	}
	for i := range 300 {
		checkFrom(t, fullOf(64), -1-i, 0)
		checkFrom(t, fullOf(64), 64+i, 0)
		checkFrom(t, fullOf(2), 2+i, 0)
	}
}

// P13.1: of a graph that is not valid no node leads anywhere.
func TestFromNotRight(t *testing.T) {
	for _, g := range wrongGraphs() {
		for _, a := range ints(0, 1, 2, g.N/2, g.N-1, g.N, 63, 64, -1, least, most) {
			checkFrom(t, g, a, 0)
		}
	}
	for a := -1; a <= 66; a++ {
		checkFrom(t, graph.Graph{N: 65, Rows: slices.Repeat(rows(full), 65)}, a, 0)
		checkFrom(t, graph.Graph{N: 63, Rows: slices.Repeat(rows(full), 63)}, a, 0)
		checkFrom(t, graph.Graph{N: 64, Rows: slices.Repeat(rows(full), 63)}, a, 0)
		checkFrom(t, graph.Graph{N: 64, Rows: slices.Repeat(rows(full), 65)}, a, 0)
	}
}

// P13.1: all graphs of few nodes, with all nodes and what is next to them.
func TestFewByWords(t *testing.T) {
	for n := range 5 {
		eachOf(n, func(g graph.Graph) {
			closed := closeByWords(g)
			checkClose(t, g, closed)
			checkCyclic(t, g, cyclicByWords(g))
			checkFrom(t, g, -1, 0)
			for a, want := range closed.Rows {
				checkFrom(t, g, a, want)
			}
			checkFrom(t, g, n, 0)
		})
	}
}

// P13.2: all graphs of few nodes, closed or not, with all edges and those from or to what is next to the nodes.
func TestMoreFewByWords(t *testing.T) {
	for n := range 4 {
		eachOf(n, func(c graph.Graph) {
			for a := -1; a <= n; a++ {
				for b := -1; b <= n; b++ {
					if a < 0 || a == n || b < 0 || b == n {
						checkMoreWrong(t, c, a, b)
					} else {
						checkMore(t, c, a, b, moreByWords(c, a, b))
					}
				}
			}
		})
	}
}

// P13.1, P13.2: graphs of all numbers of nodes, of all kinds and by chance.
func TestManyByWords(t *testing.T) {
	r := rand.New(rand.NewSource(302))
	for _, g := range samples() {
		checkByWords(t, r, g)
	}
	for range 4000 {
		checkByWords(t, r, byChance(r, 4+r.Intn(9)))
	}
	for range 200 {
		checkByWords(t, r, byChance(r, 13+r.Intn(52)))
	}
}

// checkConsequence checks the three sentences of P13.3 for a graph, the first one with each of some edges.
func checkConsequence(t *testing.T, g graph.Graph, edges [][2]int) {
	t.Helper()
	closed := must(Close(g))
	checkClose(t, closed, closed)
	loop := false
	for x := range g.N {
		loop = loop || graph.Has(closed, x, x)
	}
	checkCyclic(t, g, loop)
	checkCyclic(t, closed, loop)
	for _, edge := range edges {
		more := must(Close(must(graph.Add(g, edge[0], edge[1]))))
		checkMore(t, closed, edge[0], edge[1], more)
	}
}

// P13.3: all graphs of few nodes.
func TestConsequenceFew(t *testing.T) {
	r := rand.New(rand.NewSource(303))
	for n := range 5 {
		var all [][2]int
		for i := range n * n {
			all = append(all, [2]int{i / n, i % n})
		}
		eachOf(n, func(g graph.Graph) {
			if n < 4 {
				checkConsequence(t, g, all)
			} else {
				checkConsequence(t, g, [][2]int{all[r.Intn(n*n)], all[r.Intn(n*n)]})
			}
		})
	}
}

// P13.3: graphs of all numbers of nodes, of all kinds and by chance.
func TestConsequenceMany(t *testing.T) {
	r := rand.New(rand.NewSource(304))
	check := func(g graph.Graph, count int) {
		t.Helper()
		var edges [][2]int
		for range min(g.N, count) {
			edges = append(edges, [2]int{r.Intn(g.N), r.Intn(g.N)})
		}
		checkConsequence(t, g, edges)
	}
	for _, g := range samples() {
		check(g, 6)
	}
	for range 4000 {
		check(byChance(r, 5+r.Intn(6)), 6)
	}
}

// P13.3: edges that are added one by one yield the closure of all of them, in any order.
func TestOneByOne(t *testing.T) {
	r := rand.New(rand.NewSource(305))
	for _, n := range ints(1, 2, 5, 32, 63, 64) {
		for range 10 {
			g, c := noneOf(n), noneOf(n)
			for range min(n*n, 2*n) {
				a, b := r.Intn(n), r.Intn(n)
				g, c = addByWords(g, a, b), must(More(c, a, b))
				checkClose(t, g, c)
				checkCyclic(t, c, cyclicByWords(g))
			}
			if !same(c, closeByWords(g)) {
				t.Fatalf("%s: %s", brief(g), brief(c))
			}
		}
	}
}

// crowded is a graph with other rows behind its own in their capacity, and all of both.
func crowded(g graph.Graph, others ...uint64) (graph.Graph, []uint64) {
	whole := append(slices.Clone(g.Rows), others...)
	return graph.Graph{N: g.N, Rows: whole[:len(g.Rows)]}, whole
}

// askAll calls all functions with a graph, and returns what they returned: first the graphs, then the sets.
func askAll(g graph.Graph) ([]graph.Graph, []uint64) {
	var l []graph.Graph
	put := func(g graph.Graph, e api.Errno) {
		if e == api.OK {
			l = append(l, g)
		}
	}
	put(Close(g))
	put(Close(g))
	Cyclic(g)
	var sets []uint64
	for _, a := range ints(0, g.N/2, g.N-1, g.N, -1, 64) {
		sets = append(sets, From(g, a))
		for _, b := range ints(0, g.N/3, g.N/2, g.N-1, g.N, -1, 64) {
			put(More(g, a, b))
		}
	}
	put(Close(g))
	return l, sets
}

// asked are graphs to be asked about: valid ones, closed ones among them, and others.
func asked() []graph.Graph {
	l := fewSamples()
	for _, g := range fewSamples() {
		l = append(l, closeByWords(g))
	}
	for i, g := range wrongGraphs() {
		if i < 20 || i%53 == 0 {
			l = append(l, g)
		}
	}
	return l
}

// P13.1, P13.2: no call changes a graph that it is given, nor what stands behind its rows in their capacity, and none reads that.
func TestLeaves(t *testing.T) {
	for _, g := range asked() {
		want, wantSets := askAll(g)
		for _, others := range [][]uint64{nil, {0, 0, 0}, {full, 1, 1 << 63}, slices.Repeat(rows(5), 70)} {
			given, whole := crowded(g, others...)
			was := slices.Clone(whole)
			got, sets := askAll(given)
			if !slices.Equal(whole, was) {
				t.Fatalf("%s was changed", brief(g))
			}
			if !slices.EqualFunc(got, want, same) || !slices.Equal(sets, wantSets) {
				t.Fatalf("%s: other answers with %s behind its rows", brief(g), brief(others))
			}
		}
	}
}

// P13.1: rows are those of the list, not what stands behind it in its capacity.
func TestCapacity(t *testing.T) {
	for n := 1; n <= 64; n++ {
		whole := append(slices.Clone(fullOf(n).Rows), 0, 0, 0)
		checkCloseWrong(t, graph.Graph{N: n, Rows: whole[:n-1]})
		checkMoreWrong(t, graph.Graph{N: n, Rows: whole[:n-1]}, 0, 0)
		checkCyclic(t, graph.Graph{N: n, Rows: whole[:n-1]}, false)
		checkFrom(t, graph.Graph{N: n, Rows: whole[:n-1]}, 0, 0)
		checkCloseWrong(t, graph.Graph{N: n, Rows: whole[:n+1]})
		checkClose(t, graph.Graph{N: n, Rows: whole[:n]}, fullOf(n))
	}
}

// spoil changes all rows of a graph, and what stands behind them in their capacity.
func spoil(g graph.Graph, row uint64) {
	all := g.Rows[:cap(g.Rows)]
	for i := range all {
		all[i] = row
	}
}

// P13.1, P13.2: results share no memory with an argument, with each other, or with what is returned later, not even in their capacity.
func TestNewMemory(t *testing.T) {
	for _, g := range asked() {
		want, wantSets := askAll(g)
		for i := range want {
			want[i].Rows = slices.Clone(want[i].Rows)
		}
		given, whole := crowded(g, 9, 8, 7)
		was := slices.Clone(whole)
		got, _ := askAll(given)
		for i := range got {
			if !same(got[i], want[i]) {
				t.Fatalf("%s: answer %d was changed by another one", brief(g), i)
			}
			spoil(got[i], 0xabcd)
			if !slices.Equal(whole, was) {
				t.Fatalf("%s: answer %d shares memory with it", brief(g), i)
			}
		}
		again, setsAgain := askAll(given)
		if !slices.EqualFunc(again, want, same) || !slices.Equal(setsAgain, wantSets) {
			t.Fatalf("%s: an answer hangs on memory of an earlier one", brief(g))
		}
	}
}

// P13.1, P13.2: a result that has the same edges as the argument is in new memory, too.
func TestNewMemoryClosed(t *testing.T) {
	for n := 1; n <= 64; n++ {
		for _, closed := range []graph.Graph{noneOf(n), fullOf(n), loopsOf(n), joined(ahead(n, inOrder(n)...), with(n, 0, n-1))} {
			given, whole := crowded(closed, 9, 8, 7)
			was := slices.Clone(whole)
			one, other := must(Close(given)), must(Close(given))
			spoil(one, 1)
			if !same(other, closed) || !slices.Equal(whole, was) {
				t.Fatalf("Close(%s) shares memory", brief(closed))
			}
			if !graph.Has(closed, 0, n-1) {
				continue
			}
			one, other = must(More(given, 0, n-1)), must(More(given, 0, n-1))
			spoil(one, 1)
			if !same(other, closed) || !slices.Equal(whole, was) {
				t.Fatalf("More(%s, 0, %d) shares memory", brief(closed), n-1)
			}
		}
	}
}

// P13.1, P13.2: nothing is kept of a graph: what becomes of it later changes no result.
func TestKeepsNothing(t *testing.T) {
	for _, g := range asked() {
		want, wantSets := askAll(g)
		given, _ := crowded(g, 9, 8, 7)
		got, sets := askAll(given)
		spoil(given, full)
		if !slices.EqualFunc(got, want, same) || !slices.Equal(sets, wantSets) {
			t.Fatalf("%s: an answer shares memory with it", brief(g))
		}
	}
	g := raw(2, 2, 0)
	checkClose(t, g, raw(2, 2, 0))
	checkCyclic(t, g, false)
	checkFrom(t, g, 1, 0)
	g.Rows[1] = 1
	checkClose(t, g, raw(2, 3, 3))
	checkCyclic(t, g, true)
	checkFrom(t, g, 1, 3)
	g.Rows[1] = 4
	checkCloseWrong(t, g)
	checkCyclic(t, g, false)
	checkFrom(t, g, 1, 0)
}

// P13.1, P13.2: an answer hangs on no earlier one.
func TestTwiceAsked(t *testing.T) {
	g := raw(3, 2, 4, 0)
	for range 3 {
		checkClose(t, g, raw(3, 6, 4, 0))
		checkCloseWrong(t, raw(3, 2, 4))
		checkClose(t, graph.Graph{}, graph.Graph{})
		checkMore(t, g, 0, 2, raw(3, 6, 4, 0))
		checkMoreWrong(t, g, 0, 3)
		checkMore(t, g, 2, 0, raw(3, 2, 7, 3))
		checkMoreWrong(t, raw(3, 8, 0, 0), 0, 1)
		checkCyclic(t, g, false)
		checkCyclic(t, raw(3, 2, 4, 1), true)
		checkCyclic(t, raw(3, 2, 4, 9), false)
		checkFrom(t, g, 0, 6)
		checkFrom(t, g, 3, 0)
		checkFrom(t, raw(3, 2, 4, 1), 2, 7)
	}
}
