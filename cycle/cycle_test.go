package cycle

import (
	"fmt"
	"math/rand"
	"slices"
	"testing"

	"inquest/graph"
)

const (
	least = -1 << 63
	most  = 1<<63 - 1
	full  = 1<<64 - 1
)

func ints(l ...int) []int { return l }

func rows(l ...uint64) []uint64 { return l }

func sets(l ...[]int) [][]int { return l }

func raw(n int, l ...uint64) graph.Graph { return graph.Graph{N: n, Rows: l} }

// power is 2 to the power of i.
func power(i int) uint64 {
	p := uint64(1)
	for range i {
		p *= 2
	}
	return p
}

// table is which edges there are: from the first index to the second one.
type table [64][64]bool

// tableOf is the edges of a valid graph, by chapter 12's words: what is odd after b halvings has b.
func tableOf(g graph.Graph) *table {
	var is table
	for a, row := range g.Rows {
		for b := 0; b <= 63; b++ {
			is[a][b] = row%2 == 1
			row /= 2
		}
	}
	return &is
}

// drawn is the graph with the edges that a function has.
func drawn(n int, has func(a, b int) bool) graph.Graph {
	g := graph.Graph{N: n}
	for a := 0; a < n; a++ {
		row := uint64(0)
		for b := 0; b < n; b++ {
			if has(a, b) {
				row += power(b)
			}
		}
		g.Rows = append(g.Rows, row)
	}
	return g
}

// with is the graph with some edges, of which each is two nodes of a list.
func with(n int, l ...int) graph.Graph {
	var is table
	for i := 0; i+1 < len(l); i += 2 {
		is[l[i]][l[i+1]] = true
	}
	return drawn(n, func(a, b int) bool { return is[a][b] })
}

// along is the graph with an edge from each node of a list to the next one.
func along(n int, l ...int) graph.Graph {
	var edges []int
	for i := 0; i+1 < len(l); i++ {
		edges = append(edges, l[i], l[i+1])
	}
	return with(n, edges...)
}

// ring is that with an edge from the last one to the first one, too.
func ring(n int, l ...int) graph.Graph { return along(n, append(slices.Clone(l), l[0])...) }

// ahead is the graph with an edge from each node of a list to all that follow it there.
func ahead(n int, l ...int) graph.Graph {
	var edges []int
	for i := range l {
		for j := i + 1; j < len(l); j++ {
			edges = append(edges, l[i], l[j])
		}
	}
	return with(n, edges...)
}

// joined is the graph with the edges of all of some.
func joined(l ...graph.Graph) graph.Graph {
	var is table
	for _, g := range l {
		for a, row := range tableOf(g) {
			for b, has := range row {
				is[a][b] = is[a][b] || has
			}
		}
	}
	return drawn(l[0].N, func(a, b int) bool { return is[a][b] })
}

// lacking is the graph with all edges of one but that from x to y.
func lacking(g graph.Graph, x, y int) graph.Graph {
	is := tableOf(g)
	return drawn(g.N, func(a, b int) bool { return is[a][b] && (a != x || b != y) })
}

// otherWay is the graph whose edges lead the other way.
func otherWay(g graph.Graph) graph.Graph {
	is := tableOf(g)
	return drawn(g.N, func(a, b int) bool { return is[b][a] })
}

func noneOf(n int) graph.Graph { return drawn(n, func(a, b int) bool { return false }) }

func fullOf(n int) graph.Graph { return drawn(n, func(a, b int) bool { return true }) }

// inOrder, against and mixed are lists of all nodes.
func inOrder(n int) []int {
	var l []int
	for i := range n {
		l = append(l, i)
	}
	return l
}

func against(n int) []int { return reversed(inOrder(n)) }

func mixed(n int, seed int64) []int { return rand.New(rand.NewSource(seed)).Perm(n) }

// orders are lists of all nodes, in several orders.
func orders(n int) [][]int {
	l := sets(inOrder(n), against(n))
	for seed := range int64(4) {
		l = append(l, mixed(n, seed+1))
	}
	return l
}

func reversed(l []int) []int {
	s := slices.Clone(l)
	slices.Reverse(s)
	return s
}

// begun is a list begun at another index, and what was ahead of that at its end.
func begun(l []int, at int) []int { return slices.Concat(l[at:], l[:at]) }

// fromLeast is a list begun at its least node.
func fromLeast(l ...int) []int { return begun(l, slices.Index(l, slices.Min(l))) }

// byChance is a graph by chance: of so few edges that cycles are rare, of some, of about half of all, or of nearly all.
func byChance(r *rand.Rand, n int) graph.Graph {
	part := []int{500, 900, 1200, 2000, 1000 * n / 2, r.Intn(1000*n + 1)}[r.Intn(6)]
	return drawn(n, func(a, b int) bool { return r.Intn(1000*n) < part })
}

// layered is a graph by chance whose edges lead from each layer to the next one, and from the last one to the first one: each cycle goes through all layers, and many are of the same length.
func layered(r *rand.Rand, n int) graph.Graph {
	layer, count := make([]int, n), 1+r.Intn(n)
	for i, x := range r.Perm(n) {
		layer[x] = i % count
		if i >= count && r.Intn(2) == 0 {
			layer[x] = r.Intn(count)
		}
	}
	part := 1 + r.Intn(4)
	return drawn(n, func(a, b int) bool { return layer[b] == (layer[a]+1)%count && r.Intn(4) < part })
}

// ringed is a graph by chance with one cycle through all or some nodes, and a few edges more.
func ringed(r *rand.Rand, n int) graph.Graph {
	many := r.Intn(4)
	more := drawn(n, func(a, b int) bool { return r.Intn(n*n) < many })
	return joined(ring(n, r.Perm(n)[:1+r.Intn(n)]...), more)
}

// anyOf is a graph by chance, of one of these sorts.
func anyOf(r *rand.Rand, n int) graph.Graph {
	return []func(*rand.Rand, int) graph.Graph{byChance, layered, ringed}[r.Intn(3)](r, n)
}

// kinds are graphs of n nodes: without edges, full, with those edges that lead one way, with paths and cycles, and by chance.
func kinds(n int) []graph.Graph {
	l := []graph.Graph{
		noneOf(n),
		fullOf(n),
		drawn(n, func(a, b int) bool { return a == b }),
		drawn(n, func(a, b int) bool { return b == (a+1)%n }),
		drawn(n, func(a, b int) bool { return b == (a+2)%n }),
		drawn(n, func(a, b int) bool { return b == (a+5)%n || a == n/2 && b == n/3 }),
		drawn(n, func(a, b int) bool { return a/2 == b/2 && a != b }),
		drawn(n, func(a, b int) bool { return a/8 == b/8 && a < b }),
		drawn(n, func(a, b int) bool { return b == 2*a || b == 2*a+1 }),
		drawn(n, func(a, b int) bool { return b == (2*a+1)%n || b == (2*a+2)%n }),
		drawn(n, func(a, b int) bool { return a == 0 }),
		drawn(n, func(a, b int) bool { return b == 0 }),
		drawn(n, func(a, b int) bool { return a == n-1 }),
		drawn(n, func(a, b int) bool { return b == n-1 }),
		drawn(n, func(a, b int) bool { return a == 0 || b == 0 }),
		drawn(n, func(a, b int) bool { return a < b }),
		drawn(n, func(a, b int) bool { return a > b || a == 0 && b == n-1 }),
		drawn(n, func(a, b int) bool { return a != b }),
	}
	for _, nodes := range orders(n) {
		l = append(l, along(n, nodes...))
		if n > 0 {
			l = append(l, ring(n, nodes...))
		}
	}
	r := rand.New(rand.NewSource(int64(500 + n)))
	for range 16 {
		if n > 0 {
			l = append(l, anyOf(r, n))
		}
	}
	return l
}

// samples are the kinds of graphs of some numbers of nodes.
func samples(counts ...int) []graph.Graph {
	var l []graph.Graph
	for _, n := range counts {
		l = append(l, kinds(n)...)
	}
	return l
}

// eachOf calls a function with each graph of n nodes.
func eachOf(n int, call func(graph.Graph)) {
	for code := uint64(0); code < power(n*n); code++ {
		g, left := graph.Graph{N: n, Rows: make([]uint64, n)}, code
		for a := range g.Rows {
			g.Rows[a] = left % power(n)
			left /= power(n)
		}
		call(g)
	}
}

// differing is all lists of different nodes, by length and then in order.
func differing(n int) [][]int {
	all := sets(nil)
	for i := 0; i < len(all); i++ {
		for x := range n {
			if !slices.Contains(all[i], x) {
				all = append(all, append(slices.Clone(all[i]), x))
			}
		}
	}
	return all
}

// numbers is all lists of up to some numbers from one to another one.
func numbers(size, from, to int) [][]int {
	all := sets(nil)
	for i := 0; len(all[i]) < size; i++ {
		for x := from; x <= to; x++ {
			all = append(all, append(slices.Clone(all[i]), x))
		}
	}
	return all
}

// isByWords tells whether a list is a cycle of a valid graph with n nodes and these edges, by the chapter's words.
func isByWords(n int, is *table, l []int) bool {
	for i, x := range l {
		if x < 0 || x >= n || slices.Contains(l[:i], x) {
			return false
		}
	}
	for i, x := range l {
		if !is[x][l[(i+1)%len(l)]] {
			return false
		}
	}
	return len(l) > 0
}

// lengths is the number of edges of a shortest path from each node to each other one and to itself; 0: there is none.
type lengths [64][64]int

// lengthsOf is those of a valid graph. Ahead of each round, paths are known that pass no nodes but those of earlier rounds.
func lengthsOf(g graph.Graph) *lengths {
	var far lengths
	for a, row := range tableOf(g) {
		for b, has := range row {
			if has {
				far[a][b] = 1
			}
		}
	}
	for by := 0; by < g.N; by++ {
		for a := 0; a < g.N; a++ {
			for b := 0; b < g.N; b++ {
				sum := far[a][by] + far[by][b]
				if far[a][by] > 0 && far[by][b] > 0 && (far[a][b] == 0 || sum < far[a][b]) {
					far[a][b] = sum
				}
			}
		}
	}
	return &far
}

// hasCycle tells whether a valid graph has one: whether nodes are left when those without an edge to what is left are taken away, one by one.
func hasCycle(g graph.Graph) bool {
	is, left := tableOf(g), inOrder(g.N)
	for {
		end := slices.IndexFunc(left, func(a int) bool {
			return !slices.ContainsFunc(left, func(b int) bool { return is[a][b] })
		})
		if end < 0 {
			return len(left) > 0
		}
		left = slices.Delete(left, end, end+1)
	}
}

// brief is how a value is printed where a test fails; a long one is cut off.
func brief(v any) string { return fmt.Sprintf("%.400s", fmt.Sprint(v)) }

func alike(a, b [][]int) bool { return slices.EqualFunc(a, b, slices.Equal[[]int]) }

func checkIs(t *testing.T, g graph.Graph, l []int, want bool) {
	t.Helper()
	if got := Is(g, l); got != want {
		t.Fatalf("Is(%s, %s) = %t", brief(g), brief(l), got)
	}
}

// checkFind checks what Find returns of a graph; no nodes: nil.
func checkFind(t *testing.T, g graph.Graph, want ...int) {
	t.Helper()
	if got := Find(g); !slices.Equal(got, want) || want == nil && got != nil {
		t.Fatalf("Find(%s) = %s, want %s", brief(g), brief(got), brief(want))
	}
}

// checkLists checks what Is returns of a valid graph and of some lists, by the chapter's words.
func checkLists(t *testing.T, g graph.Graph, lists [][]int) {
	t.Helper()
	is := tableOf(g)
	for _, l := range lists {
		checkIs(t, g, l, isByWords(g.N, is, l))
	}
}

// checkByWords checks what Find returns of a valid graph, by the chapter's words: of all lists of different nodes, given by length and then in order, the first one that is a cycle, among those that begin with the least node.
func checkByWords(t *testing.T, g graph.Graph, lists [][]int) {
	t.Helper()
	var want []int
	is := tableOf(g)
	for _, l := range lists {
		if isByWords(g.N, is, l) && (want == nil || l[0] < want[0]) {
			want = l
		}
	}
	checkFind(t, g, want...)
}

// checkByLengths checks what Find returns of a valid graph, by the lengths of its shortest paths.
func checkByLengths(t *testing.T, g graph.Graph) {
	t.Helper()
	is, far, first := tableOf(g), lengthsOf(g), 0
	for first < g.N && far[first][first] == 0 {
		first++
	}
	if first == g.N {
		checkFind(t, g)
		return
	}
	l := Find(g)
	if len(l) != far[first][first] || l[0] != first || !isByWords(g.N, is, l) {
		t.Fatalf("Find(%s) = %s, want %d nodes from %d on", brief(g), brief(l), far[first][first], first)
	}
	for i := 1; i < len(l); i++ {
		for x := range l[i] {
			if is[l[i-1]][x] && far[x][first] == len(l)-i {
				t.Fatalf("Find(%s) = %s: node %d may be %d", brief(g), brief(l), i, x)
			}
		}
	}
}

// P15.1, P15.2: the chapter's example.
func TestExample(t *testing.T) {
	g := with(3, 0, 1, 1, 2, 2, 1, 2, 0)
	checkFind(t, g, 0, 1, 2)
	checkFind(t, raw(3, 2, 4, 3), 0, 1, 2)
	checkIs(t, g, ints(0, 1, 2), true)
	checkIs(t, g, ints(1, 2, 0), true)
	checkIs(t, g, ints(2, 1), true)
	checkIs(t, g, ints(0, 2, 1), false)
}

// noNumbers are numbers that are neither a number of nodes nor a node; some are others where only their last bits are looked at.
func noNumbers() []int {
	l := ints(-1, 65, least, most, -2, -63, -64, -65, 66, 127, 128, 129, 192, 256, 257, 1000, -1<<8+2, 1<<8+2, 1<<16+2)
	return append(l, 1<<31-1, 1<<31, 1<<32-1, 1<<32, 1<<32+2, 1<<32+64, -1<<31, -1<<32, -1<<32+2, 1<<62, least+1, least+2, least+64, most-1, most-63)
}

// wrongCounts are graphs that are not valid: N is no number of nodes, or there are fewer or more rows.
func wrongCounts() []graph.Graph {
	l := []graph.Graph{raw(1), raw(0, 0), raw(0, 1), raw(1, 0, 0), raw(1, 1, 1), raw(2, 0), raw(2, 2), raw(2, 2, 1, 0), raw(3, 6, 6), raw(-1), raw(-1, 0), raw(-1, 1), raw(-2, 2, 1)}
	for _, n := range append(noNumbers(), inOrder(65)...) {
		for _, count := range ints(0, 1, 2, n-1, n+1, 63, 64, 65) {
			if count >= 0 && count <= 65 && count != n {
				l = append(l, graph.Graph{N: n, Rows: make([]uint64, count)})
				l = append(l, graph.Graph{N: n, Rows: slices.Repeat(rows(1), count)})
				l = append(l, graph.Graph{N: n, Rows: fullOf(count).Rows})
			}
		}
		if n > 64 && n <= 1000 {
			l = append(l, graph.Graph{N: n, Rows: make([]uint64, n)})
			l = append(l, graph.Graph{N: n, Rows: slices.Repeat(rows(full), n)})
		}
	}
	return l
}

// wrongRows are graphs that are not valid: some row, the first, a middle or the last one, has a number that is no node.
func wrongRows() []graph.Graph {
	l := []graph.Graph{raw(1, 3), raw(2, 2, 5), raw(2, 6, 1), raw(2, 6, 5), raw(3, 2, 4, 9), raw(1, 1<<63+1)}
	for n := 1; n <= 63; n++ {
		for _, base := range []graph.Graph{noneOf(n), fullOf(n), ring(n, inOrder(n)...)} {
			for _, at := range ints(0, n/2, n-1) {
				for _, wrong := range ints(n, (n+64)/2, 63) {
					g := graph.Graph{N: n, Rows: slices.Clone(base.Rows)}
					g.Rows[at] += power(wrong)
					l = append(l, g)
				}
			}
		}
		l = append(l, graph.Graph{N: n, Rows: slices.Repeat(rows(full), n)})
		l = append(l, graph.Graph{N: n, Rows: slices.Repeat(rows(power(n)), n)})
	}
	return l
}

// wrongGraphs are all graphs of these tests that are not valid.
func wrongGraphs() []graph.Graph { return append(wrongCounts(), wrongRows()...) }

// fewLists are lists to be asked about of a graph, among them those that are cycles of a full one and of a ring.
func fewLists(g graph.Graph) [][]int {
	l := sets(nil, ints(), ints(0), ints(1), ints(0, 1), ints(1, 0), ints(0, 0), ints(1, 1), ints(-1), ints(63), ints(64), ints(0, 1, 2), ints(2, 0, 1), ints(most), ints(least), ints(0, 64))
	l = append(l, ints(g.N), ints(g.N-1), ints(0, g.N), ints(g.N, 0), ints(g.N-1, 0), ints(0, -1), inOrder(64), inOrder(65), against(64))
	near := min(max(g.N, 1), 70)
	for _, count := range ints(len(g.Rows), near-1, near, near+1) {
		l = append(l, inOrder(count), against(count))
	}
	return l
}

// P15.1, P15.2: of a graph that is not valid, Is returns false, and Find nil.
func TestWrong(t *testing.T) {
	for _, g := range wrongGraphs() {
		checkFind(t, g)
		for _, l := range fewLists(g) {
			checkIs(t, g, l, false)
		}
	}
}

// P15.1: no list without nodes is a cycle.
func TestIsEmpty(t *testing.T) {
	checkIs(t, graph.Graph{}, nil, false)
	checkIs(t, raw(1, 1), nil, false)
	checkIs(t, raw(1, 1), ints(), false)
	for _, g := range samples(inOrder(65)...) {
		checkIs(t, g, nil, false)
		checkIs(t, g, ints(), false)
		checkIs(t, g, ints(0)[:0], false)
	}
}

// P15.1: one node, with an edge to itself, and without.
func TestIsOne(t *testing.T) {
	checkIs(t, raw(1, 1), ints(0), true)
	checkIs(t, raw(1, 0), ints(0), false)
	checkIs(t, raw(2, 2, 1), ints(0), false)
	checkIs(t, raw(2, 2, 3), ints(1), true)
	for n := 1; n <= 64; n++ {
		for x := range n {
			checkIs(t, with(n, x, x), ints(x), true)
			checkIs(t, with(n, x, x), ints((x+1)%n), n == 1)
			checkIs(t, fullOf(n), ints(x), true)
			checkIs(t, lacking(fullOf(n), x, x), ints(x), false)
		}
	}
}

// P15.1: a list that has each edge but one: the last one to the first one, or another one; whichever other edges there are.
func TestIsLacking(t *testing.T) {
	for n := 1; n <= 64; n++ {
		for _, all := range orders(n) {
			for _, size := range ints(1, 2, 3, n/2, n-1, n) {
				if size < 1 || size > n {
					continue
				}
				l := all[:size]
				one, every := ring(n, l...), fullOf(n)
				checkIs(t, one, l, true)
				checkIs(t, every, l, true)
				for _, i := range ints(0, size/2, size-2, size-1) {
					if i >= 0 {
						x, y := l[i], l[(i+1)%size]
						checkIs(t, lacking(one, x, y), l, false)
						checkIs(t, lacking(every, x, y), l, false)
					}
				}
			}
		}
	}
	for _, n := range ints(5, 63, 64) {
		for i, l := 0, mixed(n, 5); i < n; i++ {
			checkIs(t, lacking(ring(n, l...), l[i], l[(i+1)%n]), l, false)
			checkIs(t, lacking(fullOf(n), l[i], l[(i+1)%n]), l, false)
			checkIs(t, lacking(fullOf(n), l[(i+1)%n], l[i]), l, true)
		}
	}
}

// P15.1: edges the other way round only, which make a cycle of a list the other way round.
func TestIsOtherWay(t *testing.T) {
	checkIs(t, raw(3, 4, 1, 2), ints(0, 1, 2), false)
	checkIs(t, raw(3, 4, 1, 2), ints(2, 1, 0), true)
	for n := 1; n <= 64; n++ {
		for _, all := range orders(n) {
			for _, size := range ints(1, 2, 3, 4, n) {
				if size <= n {
					l := all[:size]
					g := otherWay(ring(n, l...))
					checkIs(t, g, l, size <= 2)
					checkIs(t, g, reversed(l), true)
				}
			}
		}
	}
}

// P15.1: a list of all nodes, and the same with one of them left out.
func TestIsAll(t *testing.T) {
	for _, n := range ints(1, 2, 3, 4, 32, 33, 63, 64) {
		for _, l := range orders(n) {
			checkIs(t, ring(n, l...), l, true)
			checkIs(t, fullOf(n), l, true)
			checkIs(t, noneOf(n), l, false)
			checkIs(t, along(n, l...), l, false)
			checkIs(t, drawn(n, func(a, b int) bool { return a != b }), l, n > 1)
			for i := range l {
				part := slices.Delete(slices.Clone(l), i, i+1)
				checkIs(t, fullOf(n), part, n > 1)
				checkIs(t, ring(n, l...), part, false)
			}
		}
	}
}

// P15.1: a list with a number that is no node, in place of one or beside the others.
func TestIsNoNode(t *testing.T) {
	for _, n := range ints(0, 1, 2, 3, 5, 31, 32, 33, 62, 63, 64) {
		g := fullOf(n)
		for _, wrong := range append(noNumbers(), -n, n, n+1, -n-1, 2*n, n+64, n+128, 63, 64) {
			if wrong >= 0 && wrong < n {
				continue
			}
			checkIs(t, g, ints(wrong), false)
			checkIs(t, g, ints(wrong, wrong), false)
			for _, size := range ints(1, 2, 3, n-1, n) {
				if size < 1 || size > n {
					continue
				}
				l := mixed(n, 3)[:size]
				for _, i := range ints(0, size/2, size-1) {
					instead := slices.Clone(l)
					instead[i] = wrong
					checkIs(t, g, instead, false)
					checkIs(t, g, slices.Insert(slices.Clone(l), i, wrong), false)
				}
				checkIs(t, g, append(slices.Clone(l), wrong), false)
				checkIs(t, g, l, true)
			}
		}
	}
}

// P15.1: a node that stands twice in a list, next to each other and apart, though there are all edges.
func TestIsTwice(t *testing.T) {
	checkIs(t, raw(1, 1), ints(0, 0), false)
	checkIs(t, raw(2, 2, 1), ints(0, 1, 0, 1), false)
	checkIs(t, raw(2, 3, 1), ints(0, 0, 1), false)
	checkIs(t, raw(3, 2, 5, 2), ints(0, 1, 2, 1), false)
	checkIs(t, raw(3, 2, 5, 2), ints(1, 0, 1, 2), false)
	for _, n := range ints(1, 2, 3, 4, 7, 63, 64) {
		g := fullOf(n)
		for _, size := range ints(1, 2, 3, 5, n-1, n) {
			if size < 1 || size > n {
				continue
			}
			l := mixed(n, 8)[:size]
			checkIs(t, g, l, true)
			checkIs(t, g, slices.Repeat(l, 2), false)
			checkIs(t, g, slices.Concat(l, reversed(l)), false)
			for _, from := range ints(0, size/2, size-1) {
				for to := range size + 1 {
					checkIs(t, g, slices.Insert(slices.Clone(l), to, l[from]), false)
				}
				for to := range size {
					instead := slices.Clone(l)
					instead[to] = l[from]
					checkIs(t, g, instead, to == from)
				}
			}
		}
	}
}

// P15.1: a list longer than N.
func TestIsLonger(t *testing.T) {
	for n := 0; n <= 64; n++ {
		g := fullOf(n)
		checkIs(t, g, inOrder(n+1), false)
		checkIs(t, g, append(inOrder(n), 0), false)
		checkIs(t, g, append(against(n), n-1), false)
		checkIs(t, g, slices.Repeat(inOrder(n), 3), false)
		checkIs(t, g, slices.Repeat(ints(0), n+1), false)
		checkIs(t, g, inOrder(100), false)
		if n > 0 {
			checkIs(t, ring(n, inOrder(n)...), slices.Repeat(inOrder(n), 2), false)
			checkIs(t, g, append(inOrder(n), n), false)
			checkIs(t, g, append(inOrder(n), -1), false)
			checkIs(t, g, slices.Repeat(inOrder(n), 100000/n), false)
		}
	}
}

// P15.1: a cycle of which some nodes have edges elsewhere, or edges from elsewhere.
func TestIsElsewhere(t *testing.T) {
	checkIs(t, with(4, 0, 1, 1, 0, 1, 2, 2, 3), ints(0, 1), true)
	checkIs(t, with(4, 0, 1, 1, 0, 1, 2, 2, 3), ints(1, 2), false)
	checkIs(t, with(4, 0, 1, 1, 0, 3, 0, 3, 1, 0, 0), ints(1, 0), true)
	r := rand.New(rand.NewSource(501))
	for range 2000 {
		n := 1 + r.Intn(64)
		l := r.Perm(n)[:1+r.Intn(n)]
		g := joined(ring(n, l...), byChance(r, n))
		checkIs(t, g, l, true)
		i := r.Intn(len(l))
		checkIs(t, lacking(g, l[i], l[(i+1)%len(l)]), l, false)
	}
	for n := 2; n <= 64; n++ {
		l := mixed(n, 9)
		for _, cut := range ints(1, n/2, n-1) {
			one, other := l[:cut], l[cut:]
			g := joined(ring(n, one...), ring(n, other...), with(n, one[0], other[0]), with(n, other[0], one[0]))
			checkIs(t, g, one, true)
			checkIs(t, g, other, true)
			checkIs(t, g, ints(other[0], one[0]), true)
			checkIs(t, g, l, n == 2)
		}
	}
}

// P15.2: no node, one node without its edge and with it, two, and 64 of them.
func TestFindEnds(t *testing.T) {
	checkFind(t, graph.Graph{})
	checkFind(t, graph.Graph{Rows: rows()})
	checkFind(t, raw(1, 0))
	checkFind(t, raw(1, 1), 0)
	checkFind(t, raw(2, 2, 0))
	checkFind(t, raw(2, 0, 1))
	checkFind(t, raw(2, 2, 1), 0, 1)
	checkFind(t, raw(2, 0, 2), 1)
	checkFind(t, raw(2, 2, 3), 0, 1)
	checkFind(t, with(64, 0, 63))
	checkFind(t, with(64, 63, 0))
	checkFind(t, with(64, 0, 63, 63, 0), 0, 63)
	checkFind(t, with(64, 63, 63), 63)
	checkFind(t, with(64, 62, 63, 63, 62), 62, 63)
	checkFind(t, graph.Graph{N: 64, Rows: slices.Repeat(rows(full), 64)}, 0)
	for n := 1; n <= 64; n++ {
		checkFind(t, noneOf(n))
		checkFind(t, fullOf(n), 0)
		if n > 1 {
			checkFind(t, drawn(n, func(a, b int) bool { return a != b }), 0, 1)
			checkFind(t, lacking(fullOf(n), 0, 0), 0, 1)
		}
	}
}

// P15.2: a path through all nodes, in order, against the order and mixed, with and without the edges that pass nodes over.
func TestFindPaths(t *testing.T) {
	for n := 1; n <= 64; n++ {
		for _, l := range orders(n) {
			checkFind(t, along(n, l...))
			checkFind(t, ahead(n, l...))
			checkFind(t, otherWay(ahead(n, l...)))
		}
	}
}

// P15.2: one cycle through all nodes, or through some of them.
func TestFindRings(t *testing.T) {
	for n := 1; n <= 64; n++ {
		for _, l := range orders(n) {
			checkFind(t, ring(n, l...), fromLeast(l...)...)
			for _, size := range ints(1, 2, 3, n/2, n-1) {
				if size < 1 || size > n {
					continue
				}
				for _, part := range sets(l[:size], l[n-size:], l[(n-size)/2:][:size]) {
					checkFind(t, ring(n, part...), fromLeast(part...)...)
					checkFind(t, joined(along(n, l...), ring(n, part...)), fromLeast(part...)...)
				}
			}
		}
	}
}

// P15.2: a cycle that lesser nodes lead to, or that leads to them, but that they are not on.
func TestFindBesideLeast(t *testing.T) {
	checkFind(t, raw(3, 2, 4, 2), 1, 2)
	checkFind(t, with(3, 0, 1, 0, 2, 1, 2, 2, 1), 1, 2)
	checkFind(t, with(3, 1, 0, 2, 0, 1, 2, 2, 1), 1, 2)
	checkFind(t, with(5, 0, 3, 1, 3, 2, 4, 3, 4, 4, 3), 3, 4)
	checkFind(t, with(4, 0, 1, 1, 2, 2, 3, 3, 3), 3)
	for n := 2; n <= 64; n++ {
		for _, lesser := range ints(1, 2, n/2, n-1) {
			if lesser >= n {
				continue
			}
			for _, l := range orders(n - lesser) {
				for i := range l {
					l[i] += lesser
				}
				into := drawn(n, func(a, b int) bool { return a < lesser && b > a })
				out := drawn(n, func(a, b int) bool { return b < lesser && b < a })
				checkFind(t, joined(ring(n, l...), with(n, 0, l[0])), fromLeast(l...)...)
				checkFind(t, joined(ring(n, l...), with(n, l[0], 0)), fromLeast(l...)...)
				checkFind(t, joined(ring(n, l...), into), fromLeast(l...)...)
				checkFind(t, joined(ring(n, l...), out), fromLeast(l...)...)
			}
		}
	}
}

// P15.2: a longer cycle through the least node that is on any, beside shorter ones through greater nodes, apart or with nodes of it.
func TestFindLongerThroughLeast(t *testing.T) {
	checkFind(t, with(5, 0, 1, 1, 2, 2, 0, 3, 4, 4, 3), 0, 1, 2)
	checkFind(t, with(5, 0, 1, 1, 2, 2, 0, 3, 3), 0, 1, 2)
	checkFind(t, with(4, 0, 3, 3, 2, 2, 1, 1, 0, 1, 2, 2, 3, 1, 1), 0, 3, 2, 1)
	checkFind(t, with(4, 0, 1, 1, 2, 2, 3, 3, 0, 3, 2), 0, 1, 2, 3)
	for _, n := range ints(4, 5, 6, 9, 33, 63, 64) {
		for _, all := range orders(n) {
			l := fromLeast(all...)
			for _, size := range ints(2, n/2, n-1) {
				long, others := ring(n, l[:size]...), l[size:]
				checkFind(t, joined(long, ring(n, others...)), l[:size]...)
				checkFind(t, joined(long, with(n, others[0], others[0])), l[:size]...)
				checkFind(t, joined(long, drawn(n, func(a, b int) bool { return slices.Contains(others, a) })), l[:size]...)
				back := with(n, l[size-1], others[0], others[0], l[size-1])
				checkFind(t, joined(long, back, with(n, l[1], l[1])), l[:size]...)
			}
			// All edges but those of the least node, to which only the last one leads, and which leads to the second one: the way between these is one edge.
			every := drawn(n, func(a, b int) bool { return a > 0 && b > 0 || a == 0 && b == l[1] || b == 0 && a == l[n-1] })
			checkFind(t, every, 0, l[1], l[n-1])
			// The ring's edges, and all that lead back but to the least node.
			back := drawn(n, func(a, b int) bool { return b > 0 && slices.Index(l, a) > slices.Index(l, b) })
			checkFind(t, joined(ring(n, l...), back), l...)
		}
	}
}

// P15.2: of the cycles that begin with the least node, the shortest one, though lesser nodes follow on a longer one, or on a path that leads nowhere.
func TestFindShortest(t *testing.T) {
	checkFind(t, with(6, 0, 1, 1, 2, 2, 0, 0, 5, 5, 0), 0, 5)
	checkFind(t, with(7, 0, 1, 1, 2, 2, 3, 3, 0, 0, 5, 5, 6, 6, 0), 0, 5, 6)
	checkFind(t, with(7, 0, 1, 1, 2, 0, 5, 5, 1, 5, 6, 6, 0), 0, 5, 6)
	checkFind(t, with(5, 0, 1, 1, 1, 0, 2, 2, 2, 2, 0), 0, 2)
	checkFind(t, with(5, 0, 1, 1, 2, 2, 1, 0, 3, 3, 4, 4, 0), 0, 3, 4)
	for _, n := range ints(4, 5, 8, 33, 63, 64) {
		for _, all := range orders(n) {
			l := fromLeast(all...)
			for short := 1; short < n; short++ {
				cut := with(n, l[short-1], 0)
				checkFind(t, joined(ring(n, l...), cut), l[:short]...)
				if short > 1 {
					checkFind(t, joined(ahead(n, l...), cut), 0, l[short-1])
				}
			}
			for _, short := range ints(2, n/3, n/2) {
				if short < 2 {
					continue
				}
				// The greatest nodes are the shorter cycle, the others the longer one, of one node more.
				one, other := ints(0), ints(0)
				for i := 1; i < short; i++ {
					one, other = append(one, n-i), append(other, i)
				}
				other = append(other, short)
				if short < n-short {
					checkFind(t, joined(ring(n, one...), ring(n, other...)), one...)
					checkFind(t, joined(ring(n, one...), along(n, other...)), one...)
				}
			}
		}
	}
}

// P15.2: two cycles of the same length from one node, that part at the first, at a middle or at the last node, and meet again or not.
func TestFindSameLength(t *testing.T) {
	checkFind(t, with(4, 0, 1, 0, 2, 1, 3, 2, 3, 3, 0), 0, 1, 3)
	checkFind(t, with(4, 0, 1, 1, 2, 1, 3, 2, 0, 3, 0), 0, 1, 2)
	checkFind(t, with(5, 0, 1, 1, 4, 4, 0, 0, 2, 2, 3, 3, 0), 0, 1, 4)
	checkFind(t, with(5, 0, 2, 2, 1, 1, 0, 0, 3, 3, 4, 4, 0), 0, 2, 1)
	for _, n := range ints(5, 8, 33, 63, 64) {
		for seed := range int64(12) {
			l := fromLeast(mixed(n, seed+20)...)
			for size := 2; size <= n/2+1; size++ {
				one, others := l[:size], l[size:]
				for _, at := range ints(1, size/2, size-1) {
					if at < 1 {
						continue
					}
					for _, many := range ints(1, size-at) {
						if many > len(others) {
							continue
						}
						other := slices.Clone(one)
						copy(other[at:], others[:many])
						want := one
						if slices.Compare(other, one) < 0 {
							want = other
						}
						checkFind(t, joined(ring(n, one...), ring(n, other...)), want...)
						checkFind(t, joined(ring(n, other...), ring(n, one...), with(n, l[n-1], one[1])), want...)
					}
				}
			}
		}
	}
}

// P15.2: many cycles of the same length: each layer of nodes leads to all of the next one.
func TestFindLayers(t *testing.T) {
	for n := 1; n <= 64; n++ {
		for count := 1; count <= n; count++ {
			// Layer i has the nodes i, i + count, i + 2 * count and so on.
			checkFind(t, drawn(n, func(a, b int) bool { return b%count == (a+1)%count }), inOrder(count)...)
			// Layer i has those from i * size on.
			if n%count == 0 {
				size := n / count
				var want []int
				for i := range count {
					want = append(want, i*size)
				}
				checkFind(t, drawn(n, func(a, b int) bool { return b/size == (a/size+1)%count }), want...)
				back := drawn(n, func(a, b int) bool { return b/size == (a/size+count-1)%count })
				checkFind(t, back, append(ints(0), reversed(want[1:])...)...)
			}
		}
	}
}

// P15.2: an edge from a node to itself beside longer cycles through it.
func TestFindLoops(t *testing.T) {
	checkFind(t, with(3, 0, 1, 1, 0, 0, 0), 0)
	checkFind(t, with(3, 0, 1, 1, 0, 1, 1), 0, 1)
	checkFind(t, with(3, 0, 1, 1, 2, 2, 1, 1, 1), 1)
	for n := 1; n <= 64; n++ {
		for _, l := range orders(n) {
			want := fromLeast(l...)
			checkFind(t, joined(ring(n, l...), with(n, 0, 0)), 0)
			checkFind(t, joined(ring(n, l...), with(n, n-1, n-1)), want...)
			for _, size := range ints(1, n/2, n) {
				if size < 1 {
					continue
				}
				part := l[:size]
				x := slices.Min(part)
				checkFind(t, joined(ring(n, part...), with(n, x, x)), x)
				checkFind(t, joined(along(n, part...), with(n, x, x)), x)
				checkFind(t, joined(ring(n, part...), drawn(n, func(a, b int) bool { return a == b && a >= x })), x)
				if size > 1 {
					checkFind(t, joined(ring(n, part...), drawn(n, func(a, b int) bool { return a == b && a > x })), fromLeast(part...)...)
				}
			}
		}
	}
}

// P15.2: two cycles that share a node, which is the least one of all, or of one of them, or another one.
func TestFindShared(t *testing.T) {
	checkFind(t, with(3, 0, 1, 1, 0, 1, 2, 2, 1), 0, 1)
	checkFind(t, with(5, 0, 2, 2, 0, 2, 4, 4, 2), 0, 2)
	checkFind(t, with(5, 4, 0, 0, 4, 4, 1, 1, 4), 0, 4)
	checkFind(t, with(5, 1, 2, 2, 3, 3, 1, 1, 4, 4, 1), 1, 4)
	checkFind(t, with(6, 1, 5, 5, 2, 2, 1, 5, 3, 3, 4, 4, 5), 1, 5, 2)
	for _, n := range ints(3, 4, 5, 8, 33, 63, 64) {
		for _, all := range orders(n) {
			for _, l := range sets(all, fromLeast(all...), begun(all, n/2)) {
				for at := 1; at < n-1; at++ {
					// A cycle through both ends would have the shared node twice.
					one, other := fromLeast(l[:at+1]...), fromLeast(l[at:]...)
					want := one
					if other[0] < one[0] || other[0] == one[0] && (len(other) < len(one) || len(other) == len(one) && slices.Compare(other, one) < 0) {
						want = other
					}
					checkFind(t, joined(ring(n, one...), ring(n, other...)), want...)
				}
			}
		}
	}
}

// P15.2: cycles whose nodes are far apart in number, among nodes that lead into them and that they lead to.
func TestFindFarApart(t *testing.T) {
	checkFind(t, with(64, 0, 63, 63, 1, 1, 62, 62, 0), 0, 63, 1, 62)
	checkFind(t, with(64, 0, 63, 63, 1, 1, 62, 62, 0, 62, 63), 0, 63, 1, 62)
	checkFind(t, with(64, 0, 31, 31, 32, 32, 63, 63, 0, 0, 32), 0, 32, 63)
	for _, part := range sets(ints(0, 63), ints(63, 0, 32), ints(1, 62, 31), ints(7, 23, 61, 40), ints(0, 16, 32, 48, 63), ints(5, 58), ints(63, 1, 62, 2, 61, 3)) {
		cycle, of := ring(64, part...), func(x int) bool { return slices.Contains(part, x) }
		others := slices.DeleteFunc(inOrder(64), of)
		into := drawn(64, func(a, b int) bool { return !of(a) && of(b) })
		out := drawn(64, func(a, b int) bool { return of(a) && !of(b) })
		want := fromLeast(part...)
		checkFind(t, cycle, want...)
		checkFind(t, joined(cycle, into), want...)
		checkFind(t, joined(cycle, out), want...)
		checkFind(t, joined(cycle, out, along(64, others...)), want...)
		if others[0] < want[0] {
			want = others
		}
		checkFind(t, joined(cycle, ring(64, others...)), want...)
		checkFind(t, joined(cycle, into, ring(64, others...)), want...)
	}
}

// P15.1, P15.2: all graphs of few nodes, held against the chapter's words: all lists of different nodes, and all short ones of numbers that may be no nodes, or come twice.
func TestFewByWords(t *testing.T) {
	for n := range 4 {
		all, others := differing(n), numbers(n+1, -1, n)
		eachOf(n, func(g graph.Graph) {
			checkLists(t, g, all)
			checkLists(t, g, others)
			checkByWords(t, g, all)
		})
	}
	all := differing(4)
	eachOf(4, func(g graph.Graph) {
		checkLists(t, g, all)
		checkByWords(t, g, all)
	})
}

// P15.1, P15.2: graphs of a few nodes by chance, held against the chapter's words.
func TestSomeByWords(t *testing.T) {
	r := rand.New(rand.NewSource(502))
	for _, n := range ints(5, 6, 7) {
		all := differing(n)
		for _, g := range kinds(n) {
			checkLists(t, g, all)
			checkByWords(t, g, all)
		}
		for range []int{5: 3000, 6: 700, 7: 60}[n] {
			g := anyOf(r, n)
			checkLists(t, g, all)
			checkByWords(t, g, all)
		}
	}
}

// P15.2: graphs of all numbers of nodes, of all kinds and by chance: lengths, and at each node whether a lesser one is on a cycle as short.
func TestManyByLengths(t *testing.T) {
	for _, g := range samples(inOrder(65)...) {
		checkByLengths(t, g)
	}
	r := rand.New(rand.NewSource(503))
	for range 2500 {
		checkByLengths(t, anyOf(r, 1+r.Intn(64)))
	}
	for range 20000 {
		checkByLengths(t, anyOf(r, 2+r.Intn(12)))
	}
}

// P15.1: lists by chance of graphs of up to 64 nodes: paths that go on as long as there are edges, whether they lead back or not, and the same with one node changed.
func TestIsByChance(t *testing.T) {
	r := rand.New(rand.NewSource(504))
	for range 5000 {
		n := 1 + r.Intn(64)
		g := anyOf(r, n)
		is, l := tableOf(g), ints(r.Intn(n))
		for range r.Intn(n) {
			last := l[len(l)-1]
			next := slices.DeleteFunc(r.Perm(n), func(x int) bool { return !is[last][x] || slices.Contains(l, x) })
			if len(next) == 0 {
				break
			}
			l = append(l, next[0])
		}
		for len(l) > 0 {
			checkIs(t, g, l, isByWords(n, is, l))
			other := slices.Clone(l)
			other[r.Intn(len(l))] = r.Intn(n + 1)
			checkIs(t, g, other, isByWords(n, is, other))
			l = l[:len(l)-1]
		}
	}
}

// checkConsequence checks the sentences of P15.3 for what Find returns of a valid graph.
func checkConsequence(t *testing.T, g graph.Graph) {
	t.Helper()
	l := Find(g)
	if (len(l) > 0) != hasCycle(g) {
		t.Fatalf("Find(%s) = %s", brief(g), brief(l))
	}
	for at := range l {
		checkIs(t, g, begun(l, at), true)
	}
}

// P15.3: all graphs of few nodes: each cycle, begun at each other one of its nodes, is a cycle, and so is what Find returns, if there is any.
func TestConsequenceFew(t *testing.T) {
	for n := range 5 {
		all := differing(n)
		eachOf(n, func(g graph.Graph) {
			checkConsequence(t, g)
			for _, l := range all {
				for at := 1; at < len(l); at++ {
					checkIs(t, g, begun(l, at), Is(g, l))
				}
			}
		})
	}
}

// P15.3: graphs of all numbers of nodes, of all kinds and by chance.
func TestConsequenceMany(t *testing.T) {
	for _, g := range samples(inOrder(65)...) {
		checkConsequence(t, g)
	}
	r := rand.New(rand.NewSource(505))
	for range 3000 {
		n := 1 + r.Intn(64)
		checkConsequence(t, anyOf(r, n))
		l := r.Perm(n)[:1+r.Intn(n)]
		g := joined(ring(n, l...), byChance(r, n))
		for at := range l {
			checkIs(t, g, begun(l, at), true)
		}
	}
}

// crowded is a graph with other rows behind its own in their capacity, and all of both.
func crowded(g graph.Graph, others ...uint64) (graph.Graph, []uint64) {
	whole := append(slices.Clone(g.Rows), others...)
	return graph.Graph{N: g.N, Rows: whole[:len(g.Rows)]}, whole
}

// crowdedList is a list with other numbers behind its own in its capacity, and all of both.
func crowdedList(l []int, others ...int) ([]int, []int) {
	whole := append(slices.Clone(l), others...)
	return whole[:len(l)], whole
}

// spoil changes all numbers of a list, and what stands behind them in its capacity.
func spoil(l []int) {
	all := l[:cap(l)]
	for i := range all {
		all[i] = -77
	}
}

// asked are graphs to be asked about: valid ones and others.
func asked() []graph.Graph {
	l := samples(0, 1, 2, 3, 5, 33, 63, 64)
	for i, g := range wrongGraphs() {
		if i < 20 || i%53 == 0 {
			l = append(l, g)
		}
	}
	return l
}

// listsFor are lists to be asked about of a graph: what Find returns among them, as it is and with a number more.
func listsFor(g graph.Graph) [][]int {
	found := Find(g)
	l := append(fewLists(g), found, append(slices.Clone(found), 0), append(slices.Clone(found), g.N))
	return append(l, slices.Repeat(found, 2), reversed(found))
}

// P15.1, P15.2: no call changes a graph that it is given, nor what stands behind its rows in their capacity, and none reads that.
func TestLeavesGraph(t *testing.T) {
	for _, g := range asked() {
		want, lists := Find(g), listsFor(g)
		var is []bool
		for _, l := range lists {
			is = append(is, Is(g, l))
		}
		for _, others := range [][]uint64{nil, {0, 0, 0}, {full, 1, 1 << 63}, slices.Repeat(rows(5), 70)} {
			given, whole := crowded(g, others...)
			was := slices.Clone(whole)
			checkFind(t, given, want...)
			for i, l := range lists {
				checkIs(t, given, l, is[i])
			}
			if !slices.Equal(whole, was) {
				t.Fatalf("%s was changed", brief(g))
			}
		}
	}
}

// P15.1: no call changes a list that it is given, nor what stands behind its numbers in its capacity, and none reads that.
func TestLeavesList(t *testing.T) {
	for _, g := range asked() {
		for _, l := range listsFor(g) {
			want := Is(g, l)
			for _, others := range sets(nil, ints(0), ints(0, 1, 2), ints(63, -1, 64), slices.Repeat(ints(5), 70)) {
				given, whole := crowdedList(l, others...)
				was := slices.Clone(whole)
				checkIs(t, g, given, want)
				if !slices.Equal(whole, was) {
					t.Fatalf("Is(%s, %s) changed the list to %s", brief(g), brief(was), brief(whole))
				}
			}
		}
	}
}

// P15.1, P15.2: rows are those of the list, not what stands behind it in its capacity.
func TestCapacity(t *testing.T) {
	for n := 1; n <= 64; n++ {
		whole := append(slices.Clone(fullOf(n).Rows), 0, 0, 0)
		for _, count := range ints(n-1, n+1) {
			checkFind(t, graph.Graph{N: n, Rows: whole[:count]})
			checkIs(t, graph.Graph{N: n, Rows: whole[:count]}, ints(0), false)
		}
		checkFind(t, graph.Graph{N: n, Rows: whole[:n]}, 0)
		checkIs(t, graph.Graph{N: n, Rows: whole[:n]}, ints(0), true)
	}
}

// P15.2: no result shares memory with another one or with the argument, not even in its capacity.
func TestNewMemory(t *testing.T) {
	for _, g := range asked() {
		want := slices.Clone(Find(g))
		given, whole := crowded(g, 9, 8, 7)
		was := slices.Clone(whole)
		got := sets(Find(given), Find(given), Find(g), Find(given))
		for i := range got {
			if !slices.Equal(got[i], want) {
				t.Fatalf("%s: result %d was changed by another one", brief(g), i)
			}
			spoil(got[i])
		}
		if !slices.Equal(whole, was) {
			t.Fatalf("%s: a result shares memory with it", brief(g))
		}
		checkFind(t, given, want...)
	}
}

// P15.2: no result shares memory with that of a call with another graph.
func TestNewMemoryOfOthers(t *testing.T) {
	graphs := asked()
	var got, want [][]int
	for _, g := range graphs {
		l := Find(g)
		got, want = append(got, l), append(want, slices.Clone(l))
	}
	if !alike(got, want) {
		t.Fatal("a result was changed by a later call")
	}
	for i := range got {
		spoil(append(got[i], -78, -79))
		spoil(got[i])
		if !alike(got[i+1:], want[i+1:]) {
			t.Fatalf("%s: its result shares memory with a later one", brief(graphs[i]))
		}
	}
}

// P15.1, P15.2: nothing is kept of an argument: what becomes of it later changes no result, but is seen by the next call.
func TestKeepsNothing(t *testing.T) {
	for _, g := range asked() {
		want := slices.Clone(Find(g))
		given, whole := crowded(g, 9, 8, 7)
		got := Find(given)
		for i := range whole {
			whole[i] = full
		}
		if !slices.Equal(got, want) {
			t.Fatalf("%s: a result shares memory with it", brief(g))
		}
	}
	g, l := raw(2, 2, 0), ints(0, 1)
	checkFind(t, g)
	checkIs(t, g, l, false)
	g.Rows[1] = 1
	checkFind(t, g, 0, 1)
	checkIs(t, g, l, true)
	l[1] = 0
	checkIs(t, g, l, false)
	g.Rows[1] = 4
	checkFind(t, g)
	checkIs(t, g, ints(0, 1), false)
	g.Rows[1] = 2
	checkFind(t, g, 1)
}

// P15.1, P15.2: what a call returns does not depend on earlier ones.
func TestTwiceAsked(t *testing.T) {
	g := raw(3, 2, 4, 3)
	for range 3 {
		checkFind(t, g, 0, 1, 2)
		checkIs(t, g, ints(1, 2), true)
		checkFind(t, raw(3, 2, 4))
		checkIs(t, raw(3, 2, 4), ints(1, 2), false)
		checkFind(t, graph.Graph{})
		checkFind(t, raw(3, 2, 4, 2), 1, 2)
		checkFind(t, raw(3, 2, 4, 9))
		checkFind(t, fullOf(64), 0)
		checkIs(t, fullOf(64), inOrder(64), true)
		checkFind(t, raw(3, 0, 2, 0), 1)
	}
}
