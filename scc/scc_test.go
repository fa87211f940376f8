package scc

import (
	"fmt"
	"math/rand"
	"slices"
	"testing"

	"inquest/api"
	"inquest/graph"
)

const (
	least = -1 << 63
	most  = 1<<63 - 1
	full  = 1<<64 - 1
)

func ints(l ...int) []int { return l }

func rows(l ...uint64) []uint64 { return l }

func sets(l ...[]int) [][]int { return l }

func raw(n int, l ...uint64) graph.Graph { return graph.Graph{N: n, Rows: l} }

// power is 2 to the power of i.
func power(i int) uint64 {
	p := uint64(1)
	for range i {
		p *= 2
	}
	return p
}

// table is which edges, or paths, there are: from the first index to the second one.
type table [64][64]bool

// tableOf is the edges of a valid graph, by chapter 12's words: what is odd after b halvings has b.
func tableOf(g graph.Graph) table {
	var is table
	for a, row := range g.Rows {
		for b := 0; b <= 63; b++ {
			is[a][b] = row%2 == 1
			row /= 2
		}
	}
	return is
}

// drawn is the graph with the edges that a function has.
func drawn(n int, has func(a, b int) bool) graph.Graph {
	g := graph.Graph{N: n}
	for a := 0; a < n; a++ {
		row := uint64(0)
		for b := 0; b < n; b++ {
			if has(a, b) {
				row += power(b)
			}
		}
		g.Rows = append(g.Rows, row)
	}
	return g
}

// with is the graph with some edges, of which each is two nodes of a list.
func with(n int, l ...int) graph.Graph {
	var is table
	for i := 0; i+1 < len(l); i += 2 {
		is[l[i]][l[i+1]] = true
	}
	return drawn(n, func(a, b int) bool { return is[a][b] })
}

// along is the graph with an edge from each node of a list to the next one.
func along(n int, l ...int) graph.Graph {
	var edges []int
	for i := 0; i+1 < len(l); i++ {
		edges = append(edges, l[i], l[i+1])
	}
	return with(n, edges...)
}

// around is that with an edge from the last one to the first one, too.
func around(n int, l ...int) graph.Graph { return along(n, append(slices.Clone(l), l[0])...) }

// ahead is the graph with an edge from each node of a list to all that follow it there.
func ahead(n int, l ...int) graph.Graph {
	var edges []int
	for i := range l {
		for j := i + 1; j < len(l); j++ {
			edges = append(edges, l[i], l[j])
		}
	}
	return with(n, edges...)
}

// joined is the graph with the edges of all of some.
func joined(l ...graph.Graph) graph.Graph {
	var is table
	for _, g := range l {
		for a, row := range tableOf(g) {
			for b, has := range row {
				is[a][b] = is[a][b] || has
			}
		}
	}
	return drawn(l[0].N, func(a, b int) bool { return is[a][b] })
}

// turned is the graph whose edges lead the other way.
func turned(g graph.Graph) graph.Graph {
	is := tableOf(g)
	return drawn(g.N, func(a, b int) bool { return is[b][a] })
}

func noneOf(n int) graph.Graph { return drawn(n, func(a, b int) bool { return false }) }

func fullOf(n int) graph.Graph { return drawn(n, func(a, b int) bool { return true }) }

func loopsOf(n int) graph.Graph { return drawn(n, func(a, b int) bool { return a == b }) }

// inOrder, against and mixed are lists of all nodes.
func inOrder(n int) []int {
	var l []int
	for i := range n {
		l = append(l, i)
	}
	return l
}

func against(n int) []int {
	l := inOrder(n)
	slices.Reverse(l)
	return l
}

func mixed(n int, seed int64) []int { return rand.New(rand.NewSource(seed)).Perm(n) }

// lists are lists of all nodes, in several orders.
func lists(n int) [][]int {
	l := sets(inOrder(n), against(n))
	for seed := range int64(4) {
		l = append(l, mixed(n, seed+1))
	}
	return l
}

// rising is a list's numbers in increasing order.
func rising(l ...int) []int {
	s := slices.Clone(l)
	slices.Sort(s)
	return s
}

// compsOf is all components of a graph with n nodes, of which some parts are given; each other node is one of its own.
func compsOf(n int, parts ...[]int) [][]int {
	var l [][]int
	for x := range n {
		at := slices.IndexFunc(parts, func(part []int) bool { return slices.Contains(part, x) })
		if at < 0 {
			l = append(l, ints(x))
		} else if x == slices.Min(parts[at]) {
			l = append(l, rising(parts[at]...))
		}
	}
	return l
}

// pathsByWords is which paths a valid graph has, by chapter 13's words: an edge is one, and so is a path with an edge behind it.
func pathsByWords(g graph.Graph) table {
	var paths table
	is := tableOf(g)
	for a := 0; a < g.N; a++ {
		var ends []int
		reach := func(x int) {
			for y := 0; y < g.N; y++ {
				if is[x][y] && !paths[a][y] {
					paths[a][y] = true
					ends = append(ends, y)
				}
			}
		}
		reach(a)
		for i := 0; i < len(ends); i++ {
			reach(ends[i])
		}
	}
	return paths
}

// compsByWords is all components of a valid graph, by the chapter's words: each node with those that are strongly connected to it.
func compsByWords(g graph.Graph) [][]int {
	var comps [][]int
	paths := pathsByWords(g)
	for x := 0; x < g.N; x++ {
		var comp []int
		for y := 0; y < g.N; y++ {
			if x == y || paths[x][y] && paths[y][x] {
				comp = append(comp, y)
			}
		}
		if comp[0] == x {
			comps = append(comps, comp)
		}
	}
	return comps
}

// innerByWords is all nodes of a valid graph with a path to themselves.
func innerByWords(g graph.Graph) []int {
	var inner []int
	paths := pathsByWords(g)
	for x := 0; x < g.N; x++ {
		if paths[x][x] {
			inner = append(inner, x)
		}
	}
	return inner
}

// whichByWords is, for each of n nodes, the index of its component in a list of them.
func whichByWords(n int, comps [][]int) []int {
	var which []int
	for x := 0; x < n; x++ {
		which = append(which, slices.IndexFunc(comps, func(comp []int) bool { return slices.Contains(comp, x) }))
	}
	return which
}

// byChance is a graph by chance: of so few edges that components are small, of some, of about half of all, or of nearly all.
func byChance(r *rand.Rand, n int) graph.Graph {
	part := []int{500, 800, 1200, 2000, 1000 * n / 2, r.Intn(1000*n + 1)}[r.Intn(6)]
	return drawn(n, func(a, b int) bool { return r.Intn(1000*n) < part })
}

// partsByChance is a graph whose components are chosen by chance, and these: each of them is a cycle with some edges more, and edges between them lead one way only.
func partsByChance(r *rand.Rand, n int) (graph.Graph, [][]int) {
	var parts [][]int
	for l := r.Perm(n); len(l) > 0; {
		size := 1 + r.Intn(min(len(l), 1+r.Intn(n)))
		parts = append(parts, l[:size])
		l = l[size:]
	}
	place := make([]int, n)
	graphs := []graph.Graph{noneOf(n)}
	for i, part := range parts {
		for _, x := range part {
			place[x] = i
		}
		if len(part) > 1 {
			graphs = append(graphs, around(n, part...))
		}
	}
	many := r.Intn(2 * n)
	graphs = append(graphs, drawn(n, func(a, b int) bool { return place[a] <= place[b] && r.Intn(2*n) < many }))
	return joined(graphs...), compsOf(n, parts...)
}

// kinds are graphs of n nodes: without edges, full, with those edges that lead one way, with paths and cycles, and by chance.
func kinds(n int) []graph.Graph {
	l := []graph.Graph{
		noneOf(n),
		fullOf(n),
		loopsOf(n),
		drawn(n, func(a, b int) bool { return b == (a+1)%n }),
		drawn(n, func(a, b int) bool { return b == (a+2)%n }),
		drawn(n, func(a, b int) bool { return b == (a+5)%n || a == n/2 && b == n/3 }),
		drawn(n, func(a, b int) bool { return a/2 == b/2 && a != b }),
		drawn(n, func(a, b int) bool { return a/8 == b/8 && a < b }),
		drawn(n, func(a, b int) bool { return b == 2*a || b == 2*a+1 }),
		drawn(n, func(a, b int) bool { return a == 0 }),
		drawn(n, func(a, b int) bool { return b == 0 }),
		drawn(n, func(a, b int) bool { return a == n-1 }),
		drawn(n, func(a, b int) bool { return b == n-1 }),
		drawn(n, func(a, b int) bool { return a == n-1 && b == 0 }),
		drawn(n, func(a, b int) bool { return a == 0 || b == 0 }),
		drawn(n, func(a, b int) bool { return a < b }),
		drawn(n, func(a, b int) bool { return a >= b }),
		drawn(n, func(a, b int) bool { return a != b }),
	}
	for _, nodes := range lists(n) {
		l = append(l, along(n, nodes...))
	}
	r := rand.New(rand.NewSource(int64(400 + n)))
	for range 8 {
		l = append(l, byChance(r, n))
		if n > 0 {
			g, _ := partsByChance(r, n)
			l = append(l, g)
		}
	}
	return l
}

// samples are the kinds of graphs of some numbers of nodes.
func samples(counts ...int) []graph.Graph {
	var l []graph.Graph
	for _, n := range counts {
		l = append(l, kinds(n)...)
	}
	return l
}

// fewSamples are those of few numbers of nodes.
func fewSamples() []graph.Graph { return samples(0, 1, 2, 3, 5, 33, 63, 64) }

// eachOf calls a function with each graph of n nodes.
func eachOf(n int, call func(graph.Graph)) {
	for code := uint64(0); code < power(n*n); code++ {
		g, left := graph.Graph{N: n, Rows: make([]uint64, n)}, code
		for a := range g.Rows {
			g.Rows[a] = left % power(n)
			left /= power(n)
		}
		call(g)
	}
}

// brief is how a value is printed where a test fails; a long one is cut off.
func brief(v any) string { return fmt.Sprintf("%.400s", fmt.Sprint(v)) }

func alike(a, b [][]int) bool { return slices.EqualFunc(a, b, slices.Equal[[]int]) }

// check checks what the functions return of a graph; which nodes are in which component tells the test itself.
func check(t *testing.T, g graph.Graph, comps [][]int, inner []int) {
	t.Helper()
	if got := Comps(g); !alike(got, comps) {
		t.Fatalf("Comps(%s) = %s, want %s", brief(g), brief(got), brief(comps))
	}
	if got, want := Which(g), whichByWords(g.N, comps); !slices.Equal(got, want) {
		t.Fatalf("Which(%s) = %s, want %s", brief(g), brief(got), brief(want))
	}
	if got := Inner(g); !slices.Equal(got, inner) {
		t.Fatalf("Inner(%s) = %s, want %s", brief(g), brief(got), brief(inner))
	}
}

func checkByWords(t *testing.T, g graph.Graph) {
	t.Helper()
	check(t, g, compsByWords(g), innerByWords(g))
}

func checkNil(t *testing.T, g graph.Graph) {
	t.Helper()
	if comps, which, inner := Comps(g), Which(g), Inner(g); comps != nil || which != nil || inner != nil {
		t.Fatalf("of %s: %s, %s, %s, want nil", brief(g), brief(comps), brief(which), brief(inner))
	}
}

// P14.1, P14.2: the chapter's example.
func TestExample(t *testing.T) {
	g := with(3, 0, 1, 1, 0, 1, 2)
	check(t, g, sets(ints(0, 1), ints(2)), ints(0, 1))
	check(t, raw(3, 2, 5, 0), sets(ints(0, 1), ints(2)), ints(0, 1))
	if got := Which(g); !slices.Equal(got, ints(0, 0, 1)) {
		t.Fatal(got)
	}
}

// noCounts are numbers of nodes that no graph has; some are others where only their last bits are looked at.
func noCounts() []int {
	l := ints(-1, 65, least, most, -2, -63, -64, -65, 66, 127, 128, 129, 192, 256, 257, 1000, -1<<8+2, 1<<8+2, 1<<16+2)
	return append(l, 1<<31-1, 1<<31, 1<<32-1, 1<<32, 1<<32+2, 1<<32+64, -1<<31, -1<<32, -1<<32+2, 1<<62, least+1, least+2, least+64, most-1, most-63)
}

// wrongCounts are graphs that are not valid: N is no number of nodes, or there are fewer or more rows.
func wrongCounts() []graph.Graph {
	l := []graph.Graph{raw(1), raw(0, 0), raw(0, 1), raw(1, 0, 0), raw(1, 1, 1), raw(2, 0), raw(2, 2), raw(2, 2, 1, 0), raw(3, 6, 6), raw(-1), raw(-1, 0), raw(-1, 1), raw(-2, 2, 1)}
	for _, n := range append(noCounts(), inOrder(65)...) {
		for _, count := range ints(0, 1, 2, n-1, n+1, 63, 64, 65) {
			if count >= 0 && count <= 65 && count != n {
				l = append(l, graph.Graph{N: n, Rows: make([]uint64, count)})
				l = append(l, graph.Graph{N: n, Rows: slices.Repeat(rows(1), count)})
			}
		}
		if n > 64 && n <= 1000 {
			l = append(l, graph.Graph{N: n, Rows: make([]uint64, n)})
			l = append(l, graph.Graph{N: n, Rows: slices.Repeat(rows(full), n)})
		}
	}
	return l
}

// wrongRows are graphs that are not valid: some row, the first, a middle or the last one, has a number that is no node.
func wrongRows() []graph.Graph {
	var l []graph.Graph
	for n := 1; n <= 63; n++ {
		for _, base := range []graph.Graph{noneOf(n), fullOf(n), along(n, inOrder(n)...)} {
			for _, at := range ints(0, n/2, n-1) {
				for _, wrong := range ints(n, (n+64)/2, 63) {
					g := graph.Graph{N: n, Rows: slices.Clone(base.Rows)}
					g.Rows[at] += power(wrong)
					l = append(l, g)
				}
			}
		}
		l = append(l, graph.Graph{N: n, Rows: slices.Repeat(rows(full), n)})
		l = append(l, graph.Graph{N: n, Rows: slices.Repeat(rows(power(n)), n)})
	}
	return l
}

// wrongGraphs are all graphs of these tests that are not valid.
func wrongGraphs() []graph.Graph { return append(wrongCounts(), wrongRows()...) }

// Of a graph that is not valid, all functions return nil.
func TestWrong(t *testing.T) {
	checkNil(t, raw(-1))
	checkNil(t, raw(1))
	checkNil(t, raw(0, 0))
	checkNil(t, raw(2, 1, 1, 1))
	checkNil(t, raw(1, 2))
	checkNil(t, raw(2, 0, 4))
	checkNil(t, raw(2, 4, 0))
	checkNil(t, graph.Graph{N: 65, Rows: make([]uint64, 65)})
	checkNil(t, graph.Graph{N: 65, Rows: make([]uint64, 64)})
	checkNil(t, graph.Graph{N: 64, Rows: make([]uint64, 63)})
	checkNil(t, graph.Graph{N: 64, Rows: slices.Repeat(rows(full), 65)})
	for _, g := range wrongGraphs() {
		checkNil(t, g)
	}
}

// P14.1, P14.2: no node, one node without its edge and with it, and 64 of them.
func TestEnds(t *testing.T) {
	check(t, graph.Graph{}, nil, nil)
	check(t, graph.Graph{Rows: rows()}, nil, nil)
	check(t, raw(1, 0), sets(ints(0)), nil)
	check(t, raw(1, 1), sets(ints(0)), ints(0))
	check(t, raw(2, 2, 0), sets(ints(0), ints(1)), nil)
	check(t, raw(2, 0, 1), sets(ints(0), ints(1)), nil)
	check(t, raw(2, 2, 1), sets(ints(0, 1)), ints(0, 1))
	check(t, with(64, 0, 63), compsOf(64), nil)
	check(t, with(64, 63, 0), compsOf(64), nil)
	check(t, with(64, 0, 63, 63, 0), compsOf(64, ints(0, 63)), ints(0, 63))
	check(t, with(64, 62, 63, 63, 62), compsOf(64, ints(62, 63)), ints(62, 63))
	check(t, with(64, 63, 63), compsOf(64), ints(63))
	check(t, graph.Graph{N: 64, Rows: slices.Repeat(rows(full), 64)}, sets(inOrder(64)), inOrder(64))
}

// P14.1, P14.2: no edge, each node's own, and all.
func TestNoneAndFull(t *testing.T) {
	for n := 1; n <= 64; n++ {
		check(t, noneOf(n), compsOf(n), nil)
		check(t, loopsOf(n), compsOf(n), inOrder(n))
		check(t, fullOf(n), sets(inOrder(n)), inOrder(n))
		if n > 1 {
			check(t, drawn(n, func(a, b int) bool { return a != b }), sets(inOrder(n)), inOrder(n))
		}
	}
}

// P14.1, P14.2: a path through all nodes, with and without the edges that pass nodes over, whichever way it leads.
func TestPaths(t *testing.T) {
	for n := 1; n <= 64; n++ {
		for _, l := range lists(n) {
			check(t, along(n, l...), compsOf(n), nil)
			check(t, ahead(n, l...), compsOf(n), nil)
		}
	}
}

// P14.1, P14.2: one cycle through all nodes, or through some of them: the first, the last or middle ones of a list.
func TestCycles(t *testing.T) {
	for n := 2; n <= 64; n++ {
		for _, l := range lists(n) {
			check(t, around(n, l...), sets(inOrder(n)), inOrder(n))
			for _, size := range ints(2, 3, n/2, n-1) {
				if size < 2 || size > n {
					continue
				}
				for _, part := range sets(l[:size], l[n-size:], l[(n-size)/2:][:size]) {
					check(t, around(n, part...), compsOf(n, part), rising(part...))
					check(t, joined(along(n, l...), around(n, part...)), compsOf(n, part), rising(part...))
				}
			}
		}
	}
}

// P14.1, P14.2: two cycles, apart, with an edge between them, either way, and with edges both ways.
func TestTwoCycles(t *testing.T) {
	for _, n := range ints(4, 5, 8, 33, 63, 64) {
		for _, l := range lists(n) {
			for _, cut := range ints(2, n/2, n-2) {
				one, other := l[:cut], l[cut:]
				both := joined(around(n, one...), around(n, other...))
				for _, from := range ints(0, len(one)/2, len(one)-1) {
					for _, to := range ints(0, len(other)/2, len(other)-1) {
						x, y := one[from], other[to]
						check(t, joined(both, with(n, x, y)), compsOf(n, one, other), inOrder(n))
						check(t, joined(both, with(n, y, x)), compsOf(n, one, other), inOrder(n))
						check(t, joined(both, with(n, x, y, y, x)), sets(inOrder(n)), inOrder(n))
						check(t, joined(both, with(n, x, other[0], other[0], x, one[0], y)), sets(inOrder(n)), inOrder(n))
						check(t, joined(both, with(n, one[0], other[0], x, y)), compsOf(n, one, other), inOrder(n))
						check(t, joined(both, with(n, one[0], other[0], y, x)), sets(inOrder(n)), inOrder(n))
					}
				}
				check(t, both, compsOf(n, one, other), inOrder(n))
			}
		}
	}
}

// P14.1, P14.2: cycles that share a node, two or many of them, and a chain in which each shares one with the next.
func TestSharedNodes(t *testing.T) {
	check(t, with(3, 0, 1, 1, 0, 1, 2, 2, 1), sets(ints(0, 1, 2)), ints(0, 1, 2))
	check(t, with(5, 0, 2, 2, 0, 2, 4, 4, 2), sets(ints(0, 2, 4), ints(1), ints(3)), ints(0, 2, 4))
	for _, n := range ints(3, 4, 5, 8, 33, 63, 64) {
		for _, l := range lists(n) {
			for _, at := range ints(1, n/2, n-2) {
				g := joined(around(n, l[:at+1]...), around(n, l[at:]...))
				check(t, g, sets(inOrder(n)), inOrder(n))
			}
			star, chain, some := noneOf(n), noneOf(n), l[:n-1]
			for i := range some[1:] {
				star = joined(star, with(n, l[0], l[i+1], l[i+1], l[0]))
				chain = joined(chain, with(n, l[i], l[i+1], l[i+1], l[i]))
			}
			check(t, star, compsOf(n, some), rising(some...))
			check(t, chain, compsOf(n, some), rising(some...))
			check(t, joined(chain, with(n, l[n-1], l[0])), compsOf(n, some), rising(some...))
			check(t, joined(star, with(n, l[0], l[n-1])), compsOf(n, some), rising(some...))
		}
	}
}

// P14.1, P14.2: cycles whose nodes are far apart in number, among nodes that lead into them and that they lead to.
func TestFarApart(t *testing.T) {
	for _, part := range sets(ints(0, 63), ints(63, 0, 32), ints(1, 62, 31), ints(7, 23, 61, 40), ints(0, 16, 32, 48, 63), ints(5, 58)) {
		cycle, of := around(64, part...), func(x int) bool { return slices.Contains(part, x) }
		others := slices.DeleteFunc(inOrder(64), of)
		into := drawn(64, func(a, b int) bool { return !of(a) && of(b) })
		out := drawn(64, func(a, b int) bool { return of(a) && !of(b) })
		check(t, cycle, compsOf(64, part), rising(part...))
		check(t, joined(cycle, into), compsOf(64, part), rising(part...))
		check(t, joined(cycle, out), compsOf(64, part), rising(part...))
		check(t, joined(cycle, around(64, others...)), compsOf(64, part, others), inOrder(64))
		check(t, joined(cycle, into, around(64, others...)), compsOf(64, part, others), inOrder(64))
		check(t, joined(cycle, into, out), sets(inOrder(64)), inOrder(64))
	}
}

// P14.1: components in the order of their least nodes, in whichever order edges lead from one to another.
func TestOrderOfComps(t *testing.T) {
	// A search from node 0 meets 5 first, then 2, then 4; and node 1 is left for the end.
	check(t, with(6, 0, 5, 5, 2, 2, 4), compsOf(6), nil)
	check(t, with(6, 0, 5, 5, 3, 3, 5, 3, 2, 2, 4, 4, 2), sets(ints(0), ints(1), ints(2, 4), ints(3, 5)), ints(2, 3, 4, 5))
	check(t, with(6, 0, 3, 3, 4, 4, 3, 3, 1, 1, 5, 5, 1, 0, 2), sets(ints(0), ints(1, 5), ints(2), ints(3, 4)), ints(1, 3, 4, 5))
	check(t, with(4, 1, 0, 2, 1, 3, 2), compsOf(4), nil)
	for _, n := range ints(6, 7, 12, 33, 63, 64) {
		for _, count := range ints(2, 3, 5, n/2) {
			// Nodes with the same rest are a cycle; one alone leads to itself.
			parts := make([][]int, count)
			for x := range n {
				parts[x%count] = append(parts[x%count], x)
			}
			cycles := drawn(n, func(a, b int) bool { return b == a+count || b == a%count && a+count >= n })
			for _, l := range lists(count) {
				place := make([]int, count)
				for i, part := range l {
					place[part] = i
				}
				next := drawn(n, func(a, b int) bool { return place[b%count] == place[a%count]+1 && (a/count+b/count)%3 == 0 })
				all := drawn(n, func(a, b int) bool { return place[a%count] < place[b%count] })
				check(t, joined(cycles, next), parts, inOrder(n))
				check(t, joined(cycles, all), parts, inOrder(n))
				check(t, all, compsOf(n), nil)
			}
		}
	}
}

// P14.1: a node that is reached twice or more often, by paths of the same and of different lengths, is in one component.
func TestReachedTwice(t *testing.T) {
	check(t, with(4, 0, 1, 0, 2, 1, 3, 2, 3), compsOf(4), nil)
	check(t, with(4, 0, 1, 0, 2, 0, 3, 1, 3, 2, 3, 1, 2), compsOf(4), nil)
	check(t, with(4, 0, 1, 0, 2, 1, 3, 2, 3, 3, 0), sets(inOrder(4)), inOrder(4))
	check(t, with(5, 0, 1, 0, 2, 1, 3, 2, 3, 3, 4, 4, 3), sets(ints(0), ints(1), ints(2), ints(3, 4)), ints(3, 4))
	check(t, with(5, 0, 1, 0, 2, 1, 3, 2, 3, 3, 1, 3, 4), sets(ints(0), ints(1, 3), ints(2), ints(4)), ints(1, 3))
	for _, n := range ints(4, 7, 34, 64) {
		for _, l := range lists(n) {
			// Both nodes in the middle of each square are led to from its first one, and lead to its last one.
			var edges []int
			for i := 0; i+3 < n; i += 3 {
				edges = append(edges, l[i], l[i+1], l[i], l[i+2], l[i+1], l[i+3], l[i+2], l[i+3])
			}
			squares := with(n, edges...)
			check(t, squares, compsOf(n), nil)
			check(t, joined(squares, with(n, l[n-1], l[0])), sets(inOrder(n)), inOrder(n))
			part := ints(l[n-1], l[n-2], l[n-4])
			check(t, joined(squares, with(n, l[n-1], l[n-4])), compsOf(n, append(part, l[n-3])), rising(append(part, l[n-3])...))
			check(t, joined(squares, with(n, l[n-1], l[n-2])), compsOf(n, part[:2]), rising(part[:2]...))
		}
	}
}

// P14.1: many edges back to nodes whose component is done already join no components.
func TestEdgesToDone(t *testing.T) {
	check(t, with(3, 1, 0, 2, 0, 2, 1), compsOf(3), nil)
	check(t, with(5, 0, 1, 1, 0, 2, 0, 2, 1, 2, 3, 3, 0, 3, 1, 3, 2, 4, 0, 4, 2), sets(ints(0, 1), ints(2, 3), ints(4)), inOrder(4))
	// Node 3 leads to 1, whose search began from 0 as well.
	check(t, with(4, 0, 1, 1, 2, 2, 1, 0, 3, 3, 1, 3, 2), sets(ints(0), ints(1, 2), ints(3)), ints(1, 2))
	check(t, with(5, 0, 1, 1, 2, 2, 1, 0, 3, 3, 1, 3, 2, 3, 4, 4, 0), sets(ints(0, 3, 4), ints(1, 2)), inOrder(5))
	for n := 1; n <= 64; n++ {
		for _, l := range lists(n) {
			check(t, turned(ahead(n, l...)), compsOf(n), nil)
		}
	}
	for _, n := range ints(4, 9, 33, 63, 64) {
		for _, l := range lists(n) {
			for _, size := range ints(2, 3, n/2) {
				graphs, place := []graph.Graph{noneOf(n)}, make([]int, n)
				parts := slices.Collect(slices.Chunk(l, size))
				var inner []int
				for i, part := range parts {
					for _, x := range part {
						place[x] = i
					}
					if len(part) > 1 {
						graphs, inner = append(graphs, around(n, part...)), append(inner, part...)
					}
				}
				cycles := joined(graphs...)
				back := drawn(n, func(a, b int) bool { return place[a] > place[b] })
				check(t, joined(cycles, back), compsOf(n, parts...), rising(inner...))
				check(t, joined(cycles, turned(back)), compsOf(n, parts...), rising(inner...))
			}
		}
	}
}

// P14.1: a component whose nodes only several cycles together connect, and edges that make a cycle of what was none.
func TestCyclesTogether(t *testing.T) {
	check(t, with(6, 0, 1, 1, 2, 2, 3, 3, 1, 3, 4, 4, 5, 5, 2), sets(ints(0), ints(1, 2, 3, 4, 5)), ints(1, 2, 3, 4, 5))
	check(t, with(5, 0, 1, 1, 2, 2, 3, 3, 4, 4, 2, 3, 1, 2, 0), sets(inOrder(5)), inOrder(5))
	for _, n := range ints(2, 5, 33, 63, 64) {
		for _, l := range lists(n) {
			path := along(n, l...)
			for _, back := range ints(1, 2, 3, n/2, n-1) {
				if back < n {
					every := drawn(n, func(a, b int) bool { return slices.Index(l, a) == slices.Index(l, b)+back })
					check(t, joined(path, every), sets(inOrder(n)), inOrder(n))
				}
			}
			for _, from := range ints(0, n/3, n/2, n-1) {
				for _, to := range ints(0, n/4, n/2) {
					if to < from {
						part := l[to : from+1]
						check(t, joined(path, with(n, l[from], l[to])), compsOf(n, part), rising(part...))
						check(t, joined(ahead(n, l...), with(n, l[from], l[to])), compsOf(n, part), rising(part...))
					}
				}
			}
		}
	}
}

// P14.1: the nodes of a component increase, components come in the order of their least nodes, each node is in one, and Which has N indices.
func TestForm(t *testing.T) {
	r := rand.New(rand.NewSource(401))
	for range 600 {
		g, _ := partsByChance(r, 1+r.Intn(64))
		comps, which := Comps(g), Which(g)
		count, before := 0, -1
		for i, comp := range comps {
			if len(comp) == 0 || comp[0] <= before {
				t.Fatalf("Comps(%s) = %s: component %d is empty or too late", brief(g), brief(comps), i)
			}
			before = comp[0]
			for j, x := range comp {
				if j > 0 && comp[j-1] >= x || x < 0 || x >= g.N || which[x] != i {
					t.Fatalf("of %s: %s, %s: node %d", brief(g), brief(comps), brief(which), x)
				}
			}
			count += len(comp)
		}
		if count != g.N || len(which) != g.N {
			t.Fatalf("of %s: %s, %s", brief(g), brief(comps), brief(which))
		}
	}
}

// P14.2: an edge from a node to itself: of each node, and beside paths and cycles.
func TestInnerLoops(t *testing.T) {
	for n := 1; n <= 64; n++ {
		for a := range n {
			check(t, with(n, a, a), compsOf(n), ints(a))
		}
		l := mixed(n, 7)
		for _, at := range ints(0, n/2, n-1) {
			check(t, joined(along(n, l...), with(n, at, at)), compsOf(n), ints(at))
			check(t, joined(ahead(n, l...), with(n, at, at)), compsOf(n), ints(at))
		}
		some := slices.DeleteFunc(inOrder(n), func(x int) bool { return x%3 == 1 })
		check(t, drawn(n, func(a, b int) bool { return a == b && a%3 != 1 }), compsOf(n), some)
	}
	check(t, with(3, 0, 1, 1, 0, 0, 0, 2, 2), sets(ints(0, 1), ints(2)), ints(0, 1, 2))
	check(t, with(3, 0, 1, 1, 0, 2, 2, 2, 1), sets(ints(0, 1), ints(2)), ints(0, 1, 2))
}

// P14.2: a node between two cycles, or ahead of or behind them, is on none of them.
func TestInnerBetween(t *testing.T) {
	check(t, with(5, 0, 1, 1, 0, 1, 2, 2, 3, 3, 4, 4, 3), sets(ints(0, 1), ints(2), ints(3, 4)), ints(0, 1, 3, 4))
	check(t, with(3, 0, 0, 0, 1, 1, 2, 2, 2), compsOf(3), ints(0, 2))
	check(t, with(3, 1, 0, 1, 1, 1, 2), compsOf(3), ints(1))
	for _, n := range ints(5, 6, 33, 63, 64) {
		for _, l := range lists(n) {
			for _, at := range ints(2, n/2, n-3) {
				one, other := l[:at], l[at+1:]
				both := joined(around(n, one...), around(n, other...))
				without := rising(append(slices.Clone(one), other...)...)
				x := l[at]
				check(t, both, compsOf(n, one, other), without)
				check(t, joined(both, with(n, one[0], x, x, other[0])), compsOf(n, one, other), without)
				check(t, joined(both, with(n, x, one[0], x, other[0])), compsOf(n, one, other), without)
				check(t, joined(both, with(n, one[0], x, other[0], x)), compsOf(n, one, other), without)
				check(t, joined(both, with(n, one[0], x, x, other[0], x, x)), compsOf(n, one, other), inOrder(n))
				check(t, joined(both, with(n, one[0], x, x, one[1])), compsOf(n, l[:at+1], other), inOrder(n))
			}
		}
	}
}

// P14.1, P14.2: all graphs of few nodes, held against the chapter's words.
func TestFewByWords(t *testing.T) {
	for n := range 5 {
		eachOf(n, func(g graph.Graph) { checkByWords(t, g) })
	}
}

// P14.1, P14.2: graphs of all numbers of nodes, of all kinds and by chance, held against the chapter's words.
func TestManyByWords(t *testing.T) {
	for _, g := range samples(inOrder(65)...) {
		checkByWords(t, g)
	}
	r := rand.New(rand.NewSource(402))
	for range 6000 {
		checkByWords(t, byChance(r, 5+r.Intn(8)))
	}
	for range 300 {
		checkByWords(t, byChance(r, 13+r.Intn(52)))
	}
}

// P14.1: graphs whose components were chosen by chance.
func TestPartsByChance(t *testing.T) {
	r := rand.New(rand.NewSource(403))
	for range 1500 {
		g, comps := partsByChance(r, 1+r.Intn(64))
		check(t, g, comps, innerByWords(g))
	}
}

// checkConsequence checks the sentences of P14.3 for a valid graph.
func checkConsequence(t *testing.T, g graph.Graph) {
	t.Helper()
	comps, inner := Comps(g), Inner(g)
	in := make([]int, g.N)
	for _, comp := range comps {
		for _, x := range comp {
			in[x]++
			if (len(comp) > 1 || graph.Has(g, x, x)) && !slices.Contains(inner, x) {
				t.Fatalf("Inner(%s) = %s lacks %d", brief(g), brief(inner), x)
			}
		}
	}
	if slices.ContainsFunc(in, func(count int) bool { return count != 1 }) {
		t.Fatalf("Comps(%s) = %s: not each node is in one", brief(g), brief(comps))
	}
	other, e := graph.Turn(g)
	if e != api.OK {
		t.Fatalf("Turn(%s): %d", brief(g), e)
	}
	check(t, other, comps, inner)
	check(t, turned(g), comps, inner)
}

// P14.3: all graphs of few nodes.
func TestConsequenceFew(t *testing.T) {
	for n := range 5 {
		eachOf(n, func(g graph.Graph) { checkConsequence(t, g) })
	}
}

// P14.3: graphs of all numbers of nodes, of all kinds and by chance.
func TestConsequenceMany(t *testing.T) {
	for _, g := range samples(inOrder(65)...) {
		checkConsequence(t, g)
	}
	r := rand.New(rand.NewSource(404))
	for range 3000 {
		checkConsequence(t, byChance(r, 5+r.Intn(60)))
	}
}

// crowded is a graph with other rows behind its own in their capacity, and all of both.
func crowded(g graph.Graph, others ...uint64) (graph.Graph, []uint64) {
	whole := append(slices.Clone(g.Rows), others...)
	return graph.Graph{N: g.N, Rows: whole[:len(g.Rows)]}, whole
}

// askAll calls each function twice with a graph, and returns all lists of nodes and indices that they returned.
func askAll(g graph.Graph) [][]int {
	var l [][]int
	for range 2 {
		l = append(l, Comps(g)...)
		l = append(l, Which(g), Inner(g))
	}
	return l
}

// copied is lists in memory of their own.
func copied(l [][]int) [][]int {
	var c [][]int
	for _, nodes := range l {
		c = append(c, slices.Clone(nodes))
	}
	return c
}

// spoil changes all numbers of a list, and what stands behind them in its capacity.
func spoil(l []int) {
	all := l[:cap(l)]
	for i := range all {
		all[i] = -77
	}
}

// asked are graphs to be asked about: valid ones and others.
func asked() []graph.Graph {
	l := fewSamples()
	for i, g := range wrongGraphs() {
		if i < 20 || i%53 == 0 {
			l = append(l, g)
		}
	}
	return l
}

// P14.1, P14.2: no call changes a graph that it is given, nor what stands behind its rows in their capacity, and none reads that.
func TestLeaves(t *testing.T) {
	for _, g := range asked() {
		want := copied(askAll(g))
		for _, others := range [][]uint64{nil, {0, 0, 0}, {full, 1, 1 << 63}, slices.Repeat(rows(5), 70)} {
			given, whole := crowded(g, others...)
			was := slices.Clone(whole)
			got := askAll(given)
			if !slices.Equal(whole, was) {
				t.Fatalf("%s was changed", brief(g))
			}
			if !alike(got, want) {
				t.Fatalf("%s: other answers with %s behind its rows", brief(g), brief(others))
			}
		}
	}
}

// P14.1, P14.2: rows are those of the list, not what stands behind it in its capacity.
func TestCapacity(t *testing.T) {
	for n := 1; n <= 64; n++ {
		whole := append(slices.Clone(fullOf(n).Rows), 0, 0, 0)
		checkNil(t, graph.Graph{N: n, Rows: whole[:n-1]})
		checkNil(t, graph.Graph{N: n, Rows: whole[:n+1]})
		check(t, graph.Graph{N: n, Rows: whole[:n]}, sets(inOrder(n)), inOrder(n))
	}
}

// P14.1, P14.2: no list of a result shares memory with another one, with one of another call or with the argument, not even in its capacity.
func TestNewMemory(t *testing.T) {
	for _, g := range asked() {
		want := copied(askAll(g))
		given, whole := crowded(g, 9, 8, 7)
		was := slices.Clone(whole)
		got := askAll(given)
		for i := range got {
			if !slices.Equal(got[i], want[i]) {
				t.Fatalf("%s: list %d was changed by another one", brief(g), i)
			}
			spoil(got[i])
		}
		if !slices.Equal(whole, was) {
			t.Fatalf("%s: an answer shares memory with it", brief(g))
		}
		if !alike(askAll(given), want) {
			t.Fatalf("%s: an answer hangs on memory of an earlier one", brief(g))
		}
	}
}

// P14.1: an append to one component, or to the list of them, changes no other one.
func TestAppend(t *testing.T) {
	for _, g := range fewSamples() {
		one, other := Comps(g), Comps(g)
		want := copied(other)
		for i := range one {
			more := append(one[i], -77, -78, -79)
			more[0] = -80
			if !alike(one[i+1:], want[i+1:]) {
				t.Fatalf("%s: component %d shares memory with another one", brief(g), i)
			}
		}
		one = append(one, ints(-81))
		for i := range one {
			one[i] = ints(-82)
		}
		if !alike(other, want) {
			t.Fatalf("%s: two answers share memory", brief(g))
		}
	}
}

// P14.1, P14.2: nothing is kept of a graph: what becomes of it later changes no result.
func TestKeepsNothing(t *testing.T) {
	for _, g := range asked() {
		want := copied(askAll(g))
		given, whole := crowded(g, 9, 8, 7)
		got := askAll(given)
		for i := range whole {
			whole[i] = full
		}
		if !alike(got, want) {
			t.Fatalf("%s: an answer shares memory with it", brief(g))
		}
	}
	g := raw(2, 2, 0)
	check(t, g, sets(ints(0), ints(1)), nil)
	g.Rows[1] = 1
	check(t, g, sets(ints(0, 1)), ints(0, 1))
	g.Rows[1] = 4
	checkNil(t, g)
	g.Rows[1] = 2
	check(t, g, sets(ints(0), ints(1)), ints(1))
}

// P14.1, P14.2: an answer hangs on no earlier one.
func TestTwiceAsked(t *testing.T) {
	g := raw(3, 2, 5, 0)
	for range 3 {
		check(t, g, sets(ints(0, 1), ints(2)), ints(0, 1))
		checkNil(t, raw(3, 2, 5))
		check(t, graph.Graph{}, nil, nil)
		check(t, raw(3, 2, 4, 1), sets(ints(0, 1, 2)), ints(0, 1, 2))
		checkNil(t, raw(3, 2, 4, 9))
		check(t, fullOf(64), sets(inOrder(64)), inOrder(64))
		check(t, raw(3, 0, 2, 0), compsOf(3), ints(1))
	}
}
