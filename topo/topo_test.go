package topo

import (
	"fmt"
	"math/rand"
	"slices"
	"testing"

	"inquest/graph"
)

const (
	least = -1 << 63
	most  = 1<<63 - 1
	full  = 1<<64 - 1
)

func ints(l ...int) []int { return l }

func rows(l ...uint64) []uint64 { return l }

func sets(l ...[]int) [][]int { return l }

func raw(n int, l ...uint64) graph.Graph { return graph.Graph{N: n, Rows: l} }

// power is 2 to the power of i.
func power(i int) uint64 {
	p := uint64(1)
	for range i {
		p *= 2
	}
	return p
}

// table is which edges there are: from the first index to the second one.
type table [64][64]bool

// tableOf is the edges of a valid graph, by chapter 12's words: what is odd after b halvings has b.
func tableOf(g graph.Graph) *table {
	var is table
	for a, row := range g.Rows {
		for b := 0; b <= 63; b++ {
			is[a][b] = row%2 == 1
			row /= 2
		}
	}
	return &is
}

// drawn is the graph with the edges that a function has.
func drawn(n int, has func(a, b int) bool) graph.Graph {
	g := graph.Graph{N: n}
	for a := 0; a < n; a++ {
		row := uint64(0)
		for b := 0; b < n; b++ {
			if has(a, b) {
				row += power(b)
			}
		}
		g.Rows = append(g.Rows, row)
	}
	return g
}

// with is the graph with some edges, of which each is two nodes of a list.
func with(n int, l ...int) graph.Graph {
	var is table
	for i := 0; i+1 < len(l); i += 2 {
		is[l[i]][l[i+1]] = true
	}
	return drawn(n, func(a, b int) bool { return is[a][b] })
}

// along is the graph with an edge from each node of a list to the next one.
func along(n int, l ...int) graph.Graph {
	var edges []int
	for i := 0; i+1 < len(l); i++ {
		edges = append(edges, l[i], l[i+1])
	}
	return with(n, edges...)
}

// ring is that with an edge from the last one to the first one, too.
func ring(n int, l ...int) graph.Graph { return along(n, append(slices.Clone(l), l[0])...) }

// ahead is the graph with an edge from each node of a list to all that follow it there.
func ahead(n int, l ...int) graph.Graph {
	var edges []int
	for i := range l {
		for j := i + 1; j < len(l); j++ {
			edges = append(edges, l[i], l[j])
		}
	}
	return with(n, edges...)
}

// joined is the graph with the edges of all of some.
func joined(l ...graph.Graph) graph.Graph {
	var is table
	for _, g := range l {
		for a, row := range tableOf(g) {
			for b, has := range row {
				is[a][b] = is[a][b] || has
			}
		}
	}
	return drawn(l[0].N, func(a, b int) bool { return is[a][b] })
}

// lacking is the graph with all edges of one but that from x to y.
func lacking(g graph.Graph, x, y int) graph.Graph {
	is := tableOf(g)
	return drawn(g.N, func(a, b int) bool { return is[a][b] && (a != x || b != y) })
}

// otherWay is the graph whose edges lead the other way.
func otherWay(g graph.Graph) graph.Graph {
	is := tableOf(g)
	return drawn(g.N, func(a, b int) bool { return is[b][a] })
}

func noneOf(n int) graph.Graph { return drawn(n, func(a, b int) bool { return false }) }

func fullOf(n int) graph.Graph { return drawn(n, func(a, b int) bool { return true }) }

// inOrder, against and mixed are lists of all nodes.
func inOrder(n int) []int {
	var l []int
	for i := range n {
		l = append(l, i)
	}
	return l
}

func against(n int) []int { return reversed(inOrder(n)) }

func mixed(n int, seed int64) []int { return rand.New(rand.NewSource(seed)).Perm(n) }

// orders are lists of all nodes, in several orders.
func orders(n int) [][]int {
	l := sets(inOrder(n), against(n))
	for seed := range int64(4) {
		l = append(l, mixed(n, seed+1))
	}
	return l
}

func reversed(l []int) []int {
	s := slices.Clone(l)
	slices.Reverse(s)
	return s
}

// begun is a list begun at another index, and what was ahead of that at its end.
func begun(l []int, at int) []int { return slices.Concat(l[at:], l[:at]) }

// swapped is a list with two numbers exchanged.
func swapped(l []int, i, j int) []int {
	s := slices.Clone(l)
	s[i], s[j] = s[j], s[i]
	return s
}

// changed is a list with another number in place of one.
func changed(l []int, i, x int) []int {
	s := slices.Clone(l)
	s[i] = x
	return s
}

// onward is a graph by chance with edges, few or many, that lead from each node of an order by chance to those that follow it, and that order.
func onward(r *rand.Rand, n int) (graph.Graph, []int) {
	l, at := r.Perm(n), make([]int, n)
	for i, x := range l {
		at[x] = i
	}
	part := []int{300, 700, 1500, 4000, 1000 * n / 2, 1000 * n}[r.Intn(6)]
	return drawn(n, func(a, b int) bool { return at[a] < at[b] && r.Intn(1000*n) < part }), l
}

// nearly is that with one edge more, which may lead back.
func nearly(r *rand.Rand, n int) graph.Graph {
	g, _ := onward(r, n)
	return joined(g, with(n, r.Intn(n), r.Intn(n)))
}

// chained is a graph by chance of a few paths, each through nodes of its own, and a few edges from one to another one.
func chained(r *rand.Rand, n int) graph.Graph {
	l := r.Perm(n)
	g := along(n, l...)
	for range r.Intn(4) {
		i := r.Intn(n)
		g = lacking(g, l[i], l[(i+1)%n])
	}
	i, j := r.Intn(n), r.Intn(n)
	return joined(g, with(n, l[min(i, j)], l[max(i, j)]))
}

// byChance is a graph by chance: of so few edges that cycles are rare, of some, or of about half of all.
func byChance(r *rand.Rand, n int) graph.Graph {
	part := []int{300, 500, 900, 1200, 1000 * n / 2}[r.Intn(5)]
	return drawn(n, func(a, b int) bool { return r.Intn(1000*n) < part })
}

// anyOf is a graph by chance, of one of these sorts; most have an order.
func anyOf(r *rand.Rand, n int) graph.Graph {
	switch r.Intn(6) {
	case 0:
		return byChance(r, n)
	case 1:
		return nearly(r, n)
	case 2:
		return chained(r, n)
	}
	g, _ := onward(r, n)
	return g
}

// kinds are graphs of n nodes: without edges, full, with those edges that lead one way, with paths and cycles, and by chance.
func kinds(n int) []graph.Graph {
	l := []graph.Graph{
		noneOf(n),
		fullOf(n),
		drawn(n, func(a, b int) bool { return a == b }),
		drawn(n, func(a, b int) bool { return a == b && a == n-1 }),
		drawn(n, func(a, b int) bool { return b == a+1 }),
		drawn(n, func(a, b int) bool { return b == a-1 }),
		drawn(n, func(a, b int) bool { return b == (a+1)%n }),
		drawn(n, func(a, b int) bool { return b == a+2 || b == a-5 && a%2 == 0 }),
		drawn(n, func(a, b int) bool { return a/2 == b/2 && a > b }),
		drawn(n, func(a, b int) bool { return a/8 == b/8 && a < b }),
		drawn(n, func(a, b int) bool { return a/8 == b/8 && a > b }),
		drawn(n, func(a, b int) bool { return a%8 == b%8 && a > b }),
		drawn(n, func(a, b int) bool { return b == 2*a+1 || b == 2*a+2 }),
		drawn(n, func(a, b int) bool { return a == 2*b+1 || a == 2*b+2 }),
		drawn(n, func(a, b int) bool { return a == 0 && b > 0 }),
		drawn(n, func(a, b int) bool { return b == 0 && a > 0 }),
		drawn(n, func(a, b int) bool { return a == n-1 && b < a }),
		drawn(n, func(a, b int) bool { return b == n-1 && a < b }),
		drawn(n, func(a, b int) bool { return a == n/2 && b < a }),
		drawn(n, func(a, b int) bool { return b == n/2 && a > b }),
		drawn(n, func(a, b int) bool { return a < b }),
		drawn(n, func(a, b int) bool { return a > b }),
		drawn(n, func(a, b int) bool { return a > b || a == 0 && b == n-1 }),
		drawn(n, func(a, b int) bool { return a%2 == 0 && b%2 == 1 }),
		drawn(n, func(a, b int) bool { return a%2 == 1 && b%2 == 0 }),
		drawn(n, func(a, b int) bool { return a != b }),
	}
	for _, nodes := range orders(n) {
		l = append(l, along(n, nodes...), ahead(n, nodes...))
		if n > 0 {
			l = append(l, ring(n, nodes...))
		}
	}
	r := rand.New(rand.NewSource(int64(600 + n)))
	for range 16 {
		if n > 0 {
			l = append(l, anyOf(r, n))
		}
	}
	return l
}

// samples are the kinds of graphs of some numbers of nodes.
func samples(counts ...int) []graph.Graph {
	var l []graph.Graph
	for _, n := range counts {
		l = append(l, kinds(n)...)
	}
	return l
}

// eachOf calls a function with each graph of n nodes.
func eachOf(n int, call func(graph.Graph)) {
	for code := uint64(0); code < power(n*n); code++ {
		g, left := graph.Graph{N: n, Rows: make([]uint64, n)}, code
		for a := range g.Rows {
			g.Rows[a] = left % power(n)
			left /= power(n)
		}
		call(g)
	}
}

// allOrders is all lists of all of n nodes, each once, in order: compared element by element.
func allOrders(n int) [][]int {
	all := sets(nil)
	for range n {
		var longer [][]int
		for _, l := range all {
			for x := range n {
				if !slices.Contains(l, x) {
					longer = append(longer, append(slices.Clone(l), x))
				}
			}
		}
		all = longer
	}
	return all
}

// numbers is all lists of up to some numbers from one to another one.
func numbers(size, from, to int) [][]int {
	all := sets(nil)
	for i := 0; len(all[i]) < size; i++ {
		for x := from; x <= to; x++ {
			all = append(all, append(slices.Clone(all[i]), x))
		}
	}
	return all
}

// isByWords tells whether a list is an order of a valid graph with n nodes and these edges, by the chapter's words.
func isByWords(n int, is *table, l []int) bool {
	for x := range n {
		if !slices.Contains(l, x) {
			return false
		}
	}
	if len(l) != n {
		return false
	}
	for i, x := range l {
		for _, y := range l[:i+1] {
			if is[x][y] {
				return false
			}
		}
	}
	return true
}

// orderByWords is what Order returns of a valid graph with n nodes and these edges, by the words of P16.2, position by position.
func orderByWords(n int, is *table) ([]int, bool) {
	var l []int
	for len(l) < n {
		x := slices.IndexFunc(inOrder(n), func(x int) bool {
			for y := range n {
				if is[y][x] && !slices.Contains(l, y) {
					return false
				}
			}
			return !slices.Contains(l, x)
		})
		if x < 0 {
			return nil, false
		}
		l = append(l, x)
	}
	return l, true
}

// hasCycle tells whether a valid graph has one: whether a path leads back to its first node. Ahead of each round, paths are known that pass no nodes but those of earlier rounds.
func hasCycle(g graph.Graph) bool {
	is := tableOf(g)
	for by := range g.N {
		for a := range g.N {
			for b := range g.N {
				is[a][b] = is[a][b] || is[a][by] && is[by][b]
			}
		}
	}
	return slices.ContainsFunc(inOrder(g.N), func(x int) bool { return is[x][x] })
}

// brief is how a value is printed where a test fails; a long one is cut off.
func brief(v any) string { return fmt.Sprintf("%.400s", fmt.Sprint(v)) }

func alike(a, b [][]int) bool { return slices.EqualFunc(a, b, slices.Equal[[]int]) }

func checkIs(t *testing.T, g graph.Graph, l []int, want bool) {
	t.Helper()
	if got := Is(g, l); got != want {
		t.Fatalf("Is(%s, %s) = %t", brief(g), brief(l), got)
	}
}

// checkNone checks that Order returns nil and false of a graph.
func checkNone(t *testing.T, g graph.Graph) {
	t.Helper()
	if l, ok := Order(g); l != nil || ok {
		t.Fatalf("Order(%s) = %s, %t", brief(g), brief(l), ok)
	}
}

// checkOrder checks that Order returns a list of a graph, and true.
func checkOrder(t *testing.T, g graph.Graph, want ...int) {
	t.Helper()
	if l, ok := Order(g); !slices.Equal(l, want) || !ok {
		t.Fatalf("Order(%s) = %s, %t, want %s", brief(g), brief(l), ok, brief(want))
	}
}

// checkAnswer checks both results of Order: a list and true, or nil and false.
func checkAnswer(t *testing.T, g graph.Graph, want []int, ok bool) {
	t.Helper()
	if ok {
		checkOrder(t, g, want...)
	} else {
		checkNone(t, g)
	}
}

// checkLists checks what Is returns of a valid graph and of some lists, by the chapter's words.
func checkLists(t *testing.T, g graph.Graph, lists [][]int) {
	t.Helper()
	is := tableOf(g)
	for _, l := range lists {
		checkIs(t, g, l, isByWords(g.N, is, l))
	}
}

// checkByWords checks what Order returns of a valid graph, by the words of P16.2 and, of all lists of all nodes, given in order, by those of P16.3: the first one that is an order.
func checkByWords(t *testing.T, g graph.Graph, lists [][]int) {
	t.Helper()
	is := tableOf(g)
	want, ok := orderByWords(g.N, is)
	checkAnswer(t, g, want, ok)
	for _, l := range lists {
		if isByWords(g.N, is, l) {
			checkOrder(t, g, l...)
			return
		}
	}
	checkNone(t, g)
}

// checkSteps checks what Order returns of a valid graph, position by position, and that it is an order.
func checkSteps(t *testing.T, g graph.Graph) {
	t.Helper()
	is := tableOf(g)
	want, ok := orderByWords(g.N, is)
	checkAnswer(t, g, want, ok)
	if ok {
		checkIs(t, g, want, true)
	}
}

// P16.1, P16.2: the chapter's example.
func TestExample(t *testing.T) {
	g := with(3, 2, 0)
	checkOrder(t, g, 1, 2, 0)
	checkOrder(t, raw(3, 0, 0, 1), 1, 2, 0)
	for _, l := range sets(ints(1, 2, 0), ints(2, 0, 1), ints(2, 1, 0)) {
		checkIs(t, g, l, true)
	}
	for _, l := range sets(ints(0, 1, 2), ints(0, 2, 1), ints(1, 0, 2)) {
		checkIs(t, g, l, false)
	}
}

// noNumbers are numbers that are neither a number of nodes nor a node; some are others where only their last bits are looked at.
func noNumbers() []int {
	l := ints(-1, 65, least, most, -2, -63, -64, -65, 66, 127, 128, 129, 192, 256, 257, 1000, -1<<8+2, 1<<8+2, 1<<16+2)
	return append(l, 1<<31-1, 1<<31, 1<<32-1, 1<<32, 1<<32+2, 1<<32+64, -1<<31, -1<<32, -1<<32+2, 1<<62, least+1, least+2, least+64, most-1, most-63)
}

// wrongCounts are graphs that are not valid: N is no number of nodes, or there are fewer or more rows.
func wrongCounts() []graph.Graph {
	l := []graph.Graph{raw(1), raw(0, 0), raw(0, 1), raw(1, 0, 0), raw(1, 1, 1), raw(2, 0), raw(2, 2), raw(2, 2, 1, 0), raw(3, 6, 6), raw(-1), raw(-1, 0), raw(-1, 1), raw(-2, 2, 1)}
	for _, n := range append(noNumbers(), inOrder(65)...) {
		for _, count := range ints(0, 1, 2, n-1, n+1, 63, 64, 65) {
			if count >= 0 && count <= 65 && count != n {
				l = append(l, graph.Graph{N: n, Rows: make([]uint64, count)})
				l = append(l, graph.Graph{N: n, Rows: slices.Repeat(rows(1), count)})
				if count <= 64 {
					l = append(l, graph.Graph{N: n, Rows: ahead(count, inOrder(count)...).Rows})
				}
			}
		}
		if n > 64 && n <= 1000 {
			l = append(l, graph.Graph{N: n, Rows: make([]uint64, n)})
			l = append(l, graph.Graph{N: n, Rows: slices.Repeat(rows(full), n)})
		}
	}
	return l
}

// wrongRows are graphs that are not valid: some row, the first, a middle or the last one, has a number that is no node.
func wrongRows() []graph.Graph {
	l := []graph.Graph{raw(1, 3), raw(2, 2, 5), raw(2, 6, 1), raw(2, 6, 5), raw(3, 2, 4, 9), raw(1, 1<<63+1)}
	for n := 1; n <= 63; n++ {
		for _, base := range []graph.Graph{noneOf(n), along(n, inOrder(n)...), ahead(n, against(n)...)} {
			for _, at := range ints(0, n/2, n-1) {
				for _, wrong := range ints(n, (n+64)/2, 63) {
					g := graph.Graph{N: n, Rows: slices.Clone(base.Rows)}
					g.Rows[at] += power(wrong)
					l = append(l, g)
				}
			}
		}
		l = append(l, graph.Graph{N: n, Rows: slices.Repeat(rows(full), n)})
		l = append(l, graph.Graph{N: n, Rows: slices.Repeat(rows(power(n)), n)})
	}
	return l
}

// wrongGraphs are all graphs of these tests that are not valid.
func wrongGraphs() []graph.Graph { return append(wrongCounts(), wrongRows()...) }

// fewLists are lists to be asked about of a graph, among them all of its nodes, and as many numbers as it has rows.
func fewLists(g graph.Graph) [][]int {
	l := sets(nil, ints(), ints(0), ints(1), ints(0, 1), ints(1, 0), ints(0, 0), ints(-1), ints(63), ints(64), ints(0, 1, 2), ints(2, 1, 0), ints(most), ints(least), ints(0, 64))
	l = append(l, ints(g.N), ints(g.N-1), ints(0, g.N), ints(g.N, 0), ints(0, -1), inOrder(64), inOrder(65), against(64))
	near := min(max(g.N, 1), 70)
	for _, count := range ints(len(g.Rows), near-1, near, near+1) {
		l = append(l, inOrder(count), against(count))
	}
	return l
}

// P16.1, P16.2: of a graph that is not valid, Is returns false, of the empty list too, and Order nil and false.
func TestWrong(t *testing.T) {
	for _, g := range wrongGraphs() {
		checkNone(t, g)
		for _, l := range fewLists(g) {
			checkIs(t, g, l, false)
		}
	}
}

// P16.1, P16.2: the same of graphs by chance whose rows would have an order, but for one number or one row.
func TestWrongByChance(t *testing.T) {
	r := rand.New(rand.NewSource(601))
	for range 3000 {
		n := 1 + r.Intn(63)
		g, l := onward(r, n)
		checkIs(t, g, l, true)
		i, x := r.Intn(n), n+r.Intn(64-n)
		g.Rows[i] += power(x)
		for _, l := range sets(l, append(slices.Clone(l), x), changed(l, i, x), nil) {
			checkIs(t, g, l, false)
		}
		checkNone(t, g)
		g.Rows[i] -= power(x)
		for _, wrong := range []graph.Graph{{N: n, Rows: g.Rows[:i]}, {N: n, Rows: append(slices.Clone(g.Rows), 0)}, {N: n - 1, Rows: g.Rows}, {N: -n, Rows: g.Rows}} {
			checkIs(t, wrong, l, false)
			checkIs(t, wrong, l[:n-1], false)
			checkIs(t, wrong, nil, false)
			checkNone(t, wrong)
		}
	}
}

// P16.1: the graph without nodes has one order, the empty list, and only that.
func TestIsNoNodes(t *testing.T) {
	for _, g := range []graph.Graph{{}, {Rows: rows()}, {Rows: rows(5)[:0]}} {
		checkIs(t, g, nil, true)
		checkIs(t, g, ints(), true)
		checkIs(t, g, ints(0)[:0], true)
		for _, x := range append(noNumbers(), 0, 1, 63, 64) {
			checkIs(t, g, ints(x), false)
			checkIs(t, g, ints(x, x), false)
		}
	}
}

// P16.1: one node, with an edge to itself, and without.
func TestIsOne(t *testing.T) {
	checkIs(t, raw(1, 0), ints(0), true)
	checkIs(t, raw(1, 1), ints(0), false)
	checkIs(t, raw(1, 0), nil, false)
	checkIs(t, raw(1, 1), nil, false)
	checkIs(t, raw(1, 0), ints(0, 0), false)
	for _, x := range append(noNumbers(), 1, 2, 63, 64) {
		checkIs(t, raw(1, 0), ints(x), false)
		checkIs(t, raw(1, 0), ints(x, 0), false)
		checkIs(t, raw(1, 0), ints(0, x), false)
	}
}

// P16.1: a list that lacks a node, whichever edges there are.
func TestIsLacks(t *testing.T) {
	for n := 1; n <= 64; n++ {
		for _, l := range orders(n) {
			for _, g := range []graph.Graph{noneOf(n), along(n, l...), ahead(n, l...)} {
				checkIs(t, g, l, true)
				checkIs(t, g, nil, false)
				checkIs(t, g, ints(), false)
				for _, i := range ints(0, n/2, n-1) {
					checkIs(t, g, slices.Delete(slices.Clone(l), i, i+1), false)
					checkIs(t, g, l[:i], false)
					checkIs(t, g, l[i+1:], false)
				}
			}
		}
	}
}

// P16.1: a node that stands twice in a list, beside all of the others, or in place of one.
func TestIsTwice(t *testing.T) {
	checkIs(t, raw(2, 0, 0), ints(0, 0), false)
	checkIs(t, raw(2, 0, 0), ints(1, 1), false)
	checkIs(t, raw(2, 2, 0), ints(0, 0), false)
	checkIs(t, raw(3, 0, 0, 1), ints(2, 0, 0), false)
	checkIs(t, raw(3, 0, 0, 1), ints(1, 2, 0, 1), false)
	for _, n := range ints(1, 2, 3, 4, 7, 63, 64) {
		l := mixed(n, 8)
		for _, g := range []graph.Graph{noneOf(n), along(n, l...)} {
			checkIs(t, g, slices.Repeat(l, 2), false)
			checkIs(t, g, slices.Concat(l, reversed(l)), false)
			for from := range n {
				for to := range n + 1 {
					checkIs(t, g, slices.Insert(slices.Clone(l), to, l[from]), false)
				}
				for to := range n {
					checkIs(t, g, changed(l, to, l[from]), to == from)
				}
			}
		}
	}
}

// P16.1: a list longer than N.
func TestIsLonger(t *testing.T) {
	for n := 0; n <= 64; n++ {
		g := noneOf(n)
		checkIs(t, g, inOrder(n), true)
		checkIs(t, g, inOrder(n+1), false)
		checkIs(t, g, against(n+1), false)
		checkIs(t, g, append(inOrder(n), 0), false)
		checkIs(t, g, append(inOrder(n), n), false)
		checkIs(t, g, append(inOrder(n), -1), false)
		checkIs(t, g, append(against(n), n-1), false)
		checkIs(t, g, slices.Repeat(ints(0), n+1), false)
		checkIs(t, g, inOrder(100), n == 100)
		if n > 0 {
			checkIs(t, g, slices.Repeat(inOrder(n), 3), false)
			checkIs(t, g, slices.Repeat(inOrder(n), 100000/n), n == 100000)
		}
	}
}

// P16.1: a list with a number that is no node, in place of one or beside all of them.
func TestIsNoNode(t *testing.T) {
	for _, n := range ints(1, 2, 3, 5, 31, 32, 33, 62, 63, 64) {
		l := mixed(n, 3)
		for _, g := range []graph.Graph{noneOf(n), along(n, l...), ahead(n, l...)} {
			for _, wrong := range append(noNumbers(), -n, n, n+1, -n-1, 2*n, n+64, n+128, 63, 64) {
				if wrong >= 0 && wrong < n {
					continue
				}
				for _, i := range ints(0, n/2, n-1) {
					checkIs(t, g, changed(l, i, wrong), false)
					checkIs(t, g, slices.Insert(slices.Clone(l), i, wrong), false)
				}
				checkIs(t, g, append(slices.Clone(l), wrong), false)
				checkIs(t, g, slices.Repeat(ints(wrong), n), false)
				// Those that a node is, where only the last bits of a number are looked at.
				checkIs(t, g, changed(l, slices.Index(l, wrong&63%n), wrong), false)
			}
			checkIs(t, g, l, true)
		}
	}
}

// P16.1: each edge the other way round, next to each other and far apart, alone and among all others.
func TestIsOtherWay(t *testing.T) {
	checkIs(t, with(2, 0, 1), ints(0, 1), true)
	checkIs(t, with(2, 0, 1), ints(1, 0), false)
	checkIs(t, with(2, 1, 0), ints(0, 1), false)
	checkIs(t, with(2, 1, 0), ints(1, 0), true)
	for _, n := range ints(2, 3, 4, 5, 33, 63, 64) {
		for _, l := range orders(n) {
			every := ahead(n, l...)
			for i := range n {
				for j := i + 1; j < n; j++ {
					if j > i+2 && i > 1 && j < n-2 && (i+j)%7 > 0 {
						continue
					}
					on, back := with(n, l[i], l[j]), with(n, l[j], l[i])
					checkIs(t, on, l, true)
					checkIs(t, back, l, false)
					checkIs(t, joined(lacking(every, l[i], l[j]), back), l, false)
					checkIs(t, lacking(every, l[i], l[j]), l, true)
					checkIs(t, on, swapped(l, i, j), false)
					checkIs(t, back, swapped(l, i, j), true)
					checkIs(t, lacking(every, l[i], l[j]), swapped(l, i, j), j == i+1)
				}
			}
			checkIs(t, every, l, true)
			checkIs(t, every, reversed(l), false)
			checkIs(t, otherWay(every), l, false)
			checkIs(t, otherWay(every), reversed(l), true)
		}
	}
}

// P16.1: a list begun at another node, of a path through all nodes and of a cycle.
func TestIsBegun(t *testing.T) {
	for n := 1; n <= 64; n++ {
		for _, l := range orders(n) {
			for at := range n {
				checkIs(t, along(n, l...), begun(l, at), at == 0)
				checkIs(t, ring(n, l...), begun(l, at), false)
			}
		}
	}
}

// P16.1: an edge from a node to itself.
func TestIsLoop(t *testing.T) {
	for n := 1; n <= 64; n++ {
		l := mixed(n, 4)
		for i, x := range l {
			checkIs(t, with(n, x, x), l, false)
			if n < 8 || i%9 == 0 || i == n-1 {
				checkIs(t, with(n, x, x), inOrder(n), false)
				checkIs(t, joined(ahead(n, l...), with(n, x, x)), l, false)
				checkIs(t, drawn(n, func(a, b int) bool { return a == b && a != x }), l, n == 1)
			}
		}
	}
}

// P16.1: a graph without edges, with all orders of its nodes.
func TestIsNoEdges(t *testing.T) {
	for n := range 8 {
		all := allOrders(n)
		for _, l := range all {
			checkIs(t, noneOf(n), l, true)
		}
		if want := []int{1, 1, 2, 6, 24, 120, 720, 5040}[n]; len(all) != want {
			t.Fatalf("%d orders of %d nodes", len(all), n)
		}
	}
	for n := 8; n <= 64; n++ {
		for seed := range int64(20) {
			checkIs(t, noneOf(n), mixed(n, seed), true)
		}
	}
}

// P16.2: no node, one node without its edge and with it, two, and 64 of them.
func TestOrderEnds(t *testing.T) {
	checkOrder(t, graph.Graph{})
	checkOrder(t, graph.Graph{Rows: rows()})
	checkOrder(t, raw(1, 0), 0)
	checkNone(t, raw(1, 1))
	checkOrder(t, raw(2, 0, 0), 0, 1)
	checkOrder(t, raw(2, 2, 0), 0, 1)
	checkOrder(t, raw(2, 0, 1), 1, 0)
	checkNone(t, raw(2, 2, 1))
	checkNone(t, raw(2, 1, 0))
	checkNone(t, raw(2, 0, 2))
	checkNone(t, raw(2, 2, 2))
	checkOrder(t, with(64, 0, 63), inOrder(64)...)
	checkOrder(t, with(64, 63, 0), append(inOrder(64)[1:], 0)...)
	checkOrder(t, with(64, 63, 62), append(inOrder(62), 63, 62)...)
	checkNone(t, with(64, 63, 0, 0, 63))
	checkNone(t, with(64, 63, 63))
	checkNone(t, graph.Graph{N: 64, Rows: slices.Repeat(rows(full), 64)})
}

// P16.2: no edge: the nodes in order.
func TestOrderNoEdge(t *testing.T) {
	for n := 0; n <= 64; n++ {
		checkOrder(t, noneOf(n), inOrder(n)...)
		checkOrder(t, graph.Graph{N: n, Rows: make([]uint64, n)}, inOrder(n)...)
	}
}

// P16.2: a path through all nodes, in order, against the order and mixed, with and without the edges that pass nodes over; and without one of its edges.
func TestOrderPaths(t *testing.T) {
	for n := 1; n <= 64; n++ {
		for _, l := range orders(n) {
			checkOrder(t, along(n, l...), l...)
			checkOrder(t, ahead(n, l...), l...)
			checkOrder(t, otherWay(ahead(n, l...)), reversed(l)...)
			for _, i := range ints(0, n/2, n-2) {
				if i < 0 || i+1 >= n {
					continue
				}
				checkSteps(t, lacking(along(n, l...), l[i], l[i+1]))
				want := l
				if l[i] > l[i+1] {
					want = swapped(l, i, i+1)
				}
				checkOrder(t, lacking(ahead(n, l...), l[i], l[i+1]), want...)
			}
		}
	}
}

// P16.2: all edges that lead from lesser to greater nodes, all that lead from greater to lesser ones, and either with a node of its own left out.
func TestOrderFull(t *testing.T) {
	for n := 0; n <= 64; n++ {
		up, down := drawn(n, func(a, b int) bool { return a < b }), drawn(n, func(a, b int) bool { return a > b })
		checkOrder(t, up, inOrder(n)...)
		checkOrder(t, down, against(n)...)
		checkAnswer(t, fullOf(n), nil, n == 0)
		for _, x := range ints(0, n/2, n-1) {
			if x < 0 || x >= n {
				continue
			}
			free := func(g graph.Graph) graph.Graph {
				is := tableOf(g)
				return drawn(n, func(a, b int) bool { return is[a][b] && a != x && b != x })
			}
			checkOrder(t, free(up), inOrder(n)...)
			// It is free from the start, as is the greatest of the others.
			others := slices.DeleteFunc(against(n), func(y int) bool { return y == x })
			want := append(ints(x), others...)
			if x == n-1 {
				want = append(others, x)
			}
			checkOrder(t, free(down), want...)
		}
	}
}

// P16.2: a cycle through all nodes, through a few of them, and of one node, with all others free, or ahead of it, or behind it.
func TestOrderRings(t *testing.T) {
	for n := 1; n <= 64; n++ {
		for _, l := range orders(n) {
			checkNone(t, ring(n, l...))
			for _, size := range ints(1, 2, 3, n/2, n-1) {
				if size < 1 || size > n {
					continue
				}
				for _, part := range sets(l[:size], l[n-size:], l[(n-size)/2:][:size]) {
					cycle, of := ring(n, part...), func(x int) bool { return slices.Contains(part, x) }
					checkNone(t, cycle)
					checkNone(t, joined(along(n, l...), cycle))
					checkNone(t, joined(cycle, drawn(n, func(a, b int) bool { return of(a) && !of(b) })))
					checkNone(t, joined(cycle, drawn(n, func(a, b int) bool { return !of(a) && of(b) })))
					checkIs(t, cycle, l, false)
					if size > 1 {
						checkSteps(t, lacking(cycle, part[size-1], part[0]))
					}
				}
			}
		}
		for x := range n {
			checkNone(t, with(n, x, x))
		}
	}
}

// P16.2: a node that comes free only behind greater ones, and then comes at once.
func TestOrderFreeLate(t *testing.T) {
	checkOrder(t, with(3, 2, 0, 1, 0), 1, 2, 0)
	checkOrder(t, with(3, 2, 1, 1, 0), 2, 1, 0)
	checkOrder(t, with(4, 2, 0), 1, 2, 0, 3)
	checkOrder(t, with(4, 2, 0, 3, 1), 2, 0, 3, 1)
	checkOrder(t, with(5, 3, 0, 2, 1), 2, 1, 3, 0, 4)
	for n := 2; n <= 64; n++ {
		for x := range n {
			for _, y := range ints(x+1, (x+n)/2, n-1) {
				if y <= x || y >= n {
					continue
				}
				// Only y leads to x: all up to y but x, then x, then the others.
				want := slices.Concat(inOrder(x), inOrder(y + 1)[x+1:], ints(x), inOrder(n)[y+1:])
				checkOrder(t, with(n, y, x), want...)
			}
		}
	}
	for _, n := range ints(4, 6, 33, 63, 64) {
		// Each node of the lesser half waits for one of the greater half.
		half := n / 2
		var same, crossed []int
		for x := range half {
			same = append(same, half+x, x)
			crossed = append(crossed, n-1-x, x)
		}
		want, back := slices.Clone(same), inOrder(n - half)[half:]
		for x := half - 1; x >= 0; x-- {
			back = append(back, n-1-x, x)
		}
		if n%2 == 1 {
			want = append(want, n-1)
		}
		checkOrder(t, with(n, same...), want...)
		checkOrder(t, with(n, crossed...), back...)
	}
}

// P16.2: a node to which edges lead from many, from all others or from all but some, which are lesser or greater.
func TestOrderFromMany(t *testing.T) {
	for n := 2; n <= 64; n++ {
		for _, x := range ints(0, 1, n/3, n/2, n-2, n-1) {
			if x < 0 || x >= n {
				continue
			}
			others := slices.DeleteFunc(inOrder(n), func(y int) bool { return y == x })
			many := drawn(n, func(a, b int) bool { return b == x && a != x })
			checkOrder(t, many, append(slices.Clone(others), x)...)
			checkOrder(t, otherWay(many), append(ints(x), others...)...)
			for _, i := range ints(0, len(others)/2, len(others)-1) {
				y := others[i]
				less := lacking(many, y, x)
				want := append(slices.Clone(others), x)
				if i == len(others)-1 && x < y {
					want = append(slices.Clone(others[:i]), x, y)
				}
				checkOrder(t, less, want...)
				checkNone(t, joined(less, with(n, x, y), with(n, y, x)))
				moved := append(slices.DeleteFunc(slices.Clone(others), func(z int) bool { return z == y }), x, y)
				checkOrder(t, joined(less, with(n, x, y)), moved...)
			}
		}
	}
}

// P16.2: two parts that have nothing to do with each other.
func TestOrderParts(t *testing.T) {
	checkOrder(t, with(4, 2, 0, 3, 1), 2, 0, 3, 1)
	checkOrder(t, with(4, 0, 2, 1, 3), 0, 1, 2, 3)
	checkOrder(t, with(6, 5, 3, 3, 1, 4, 2, 2, 0), 4, 2, 0, 5, 3, 1)
	checkOrder(t, with(6, 5, 3, 3, 0, 4, 2, 2, 1), 4, 2, 1, 5, 3, 0)
	checkNone(t, with(4, 0, 1, 2, 3, 3, 2))
	checkNone(t, with(4, 0, 1, 1, 0, 2, 3))
	for n := 2; n <= 64; n++ {
		for seed := range int64(6) {
			l := mixed(n, seed+30)
			for _, cut := range ints(1, n/2, n-1) {
				one, other := l[:cut], l[cut:]
				g := joined(along(n, one...), along(n, other...))
				checkOrder(t, g, merged(one, other)...)
				checkOrder(t, joined(ahead(n, one...), ahead(n, other...)), merged(one, other)...)
				checkNone(t, joined(along(n, one...), ring(n, other...)))
				checkNone(t, joined(ring(n, one...), along(n, other...)))
				checkOrder(t, joined(g, with(n, one[cut-1], other[0])), l...)
			}
		}
	}
}

// merged is two lists as one: ahead of each number of the one that is left, those of the other one that are left and less, from the first one on.
func merged(a, b []int) []int {
	var l []int
	for len(a) > 0 && len(b) > 0 {
		if a[0] > b[0] {
			a, b = b, a
		}
		l, a = append(l, a[0]), a[1:]
	}
	return slices.Concat(l, a, b)
}

// P16.1 to P16.3: all graphs of few nodes, held against the chapter's words: all lists of all nodes, each once, and all short ones of numbers that may be no nodes, or come twice.
func TestFewByWords(t *testing.T) {
	for n := range 4 {
		all, others := allOrders(n), numbers(n+1, -1, n)
		eachOf(n, func(g graph.Graph) {
			checkLists(t, g, all)
			checkLists(t, g, others)
			checkByWords(t, g, all)
		})
	}
	all := allOrders(4)
	eachOf(4, func(g graph.Graph) {
		checkLists(t, g, all)
		checkByWords(t, g, all)
	})
}

// P16.1 to P16.3: graphs of a few nodes by chance, held against the chapter's words.
func TestSomeByWords(t *testing.T) {
	r := rand.New(rand.NewSource(602))
	for _, n := range ints(5, 6, 7) {
		all := allOrders(n)
		for _, g := range kinds(n) {
			checkLists(t, g, all)
			checkByWords(t, g, all)
		}
		for range []int{5: 3000, 6: 700, 7: 60}[n] {
			g := anyOf(r, n)
			checkLists(t, g, all)
			checkByWords(t, g, all)
		}
	}
}

// P16.2: graphs of all numbers of nodes, of all kinds and by chance, position by position.
func TestManyBySteps(t *testing.T) {
	for _, g := range samples(inOrder(65)...) {
		checkSteps(t, g)
	}
	r := rand.New(rand.NewSource(603))
	for range 1500 {
		checkSteps(t, anyOf(r, 1+r.Intn(64)))
	}
	for range 10000 {
		checkSteps(t, anyOf(r, 2+r.Intn(12)))
	}
}

// P16.1: lists by chance of graphs of up to 64 nodes: an order, and the same with two nodes exchanged, one moved, and one in place of another one.
func TestIsByChance(t *testing.T) {
	r := rand.New(rand.NewSource(604))
	for range 3000 {
		n := 1 + r.Intn(64)
		g, l := onward(r, n)
		checkIs(t, g, l, true)
		i, j := r.Intn(n), r.Intn(n)
		moved := slices.Insert(slices.Delete(slices.Clone(l), i, i+1), j, l[i])
		checkLists(t, g, sets(swapped(l, i, j), moved, changed(l, i, j), begun(l, i), r.Perm(n)))
		checkLists(t, anyOf(r, n), sets(l, inOrder(n), against(n)))
	}
}

// checkConsequence checks the sentences of P16.3 of a valid graph: there is an order just if there is no cycle, what Order returns is one, and no node of it can be exchanged for a lesser one that follows it, with those ahead of it left as they are.
func checkConsequence(t *testing.T, g graph.Graph) {
	t.Helper()
	l, ok := Order(g)
	if ok == hasCycle(g) {
		t.Fatalf("Order(%s) = %s, %t", brief(g), brief(l), ok)
	}
	if !ok {
		return
	}
	checkIs(t, g, l, true)
	is := tableOf(g)
	for i := range l {
		for _, x := range l[i+1:] {
			if x < l[i] && !slices.ContainsFunc(l[i:], func(y int) bool { return is[y][x] }) {
				t.Fatalf("Order(%s) = %s: position %d may have %d", brief(g), brief(l), i, x)
			}
		}
	}
}

// P16.3: graphs of few nodes, all of them, and of all numbers of nodes, of all kinds and by chance.
func TestConsequence(t *testing.T) {
	for n := range 5 {
		eachOf(n, func(g graph.Graph) { checkConsequence(t, g) })
	}
	for _, g := range samples(inOrder(65)...) {
		checkConsequence(t, g)
	}
	r := rand.New(rand.NewSource(605))
	for range 2000 {
		checkConsequence(t, anyOf(r, 1+r.Intn(64)))
	}
}

// P16.3: what Order returns is not greater than any other order: than that by which edges were drawn, and than those that come of it by exchanging neighbours.
func TestLeast(t *testing.T) {
	r := rand.New(rand.NewSource(606))
	for range 3000 {
		n := 1 + r.Intn(64)
		g, l := onward(r, n)
		got, ok := Order(g)
		for range 2 * n {
			if !ok || slices.Compare(got, l) > 0 {
				t.Fatalf("Order(%s) = %s, %t, though %s is less", brief(g), brief(got), ok, brief(l))
			}
			if i := r.Intn(n); i+1 < n && !graph.Has(g, l[i], l[i+1]) {
				l[i], l[i+1] = l[i+1], l[i]
			}
		}
		checkIs(t, g, l, true)
	}
}

// crowded is a graph with other rows behind its own in their capacity, and all of both.
func crowded(g graph.Graph, others ...uint64) (graph.Graph, []uint64) {
	whole := append(slices.Clone(g.Rows), others...)
	return graph.Graph{N: g.N, Rows: whole[:len(g.Rows)]}, whole
}

// crowdedList is a list with other numbers behind its own in its capacity, and all of both.
func crowdedList(l []int, others ...int) ([]int, []int) {
	whole := append(slices.Clone(l), others...)
	return whole[:len(l)], whole
}

// spoil changes all numbers of a list, and what stands behind them in its capacity.
func spoil(l []int) {
	all := l[:cap(l)]
	for i := range all {
		all[i] = -77
	}
}

// asked are graphs to be asked about: valid ones and others.
func asked() []graph.Graph {
	l := samples(0, 1, 2, 3, 5, 33, 63, 64)
	for i, g := range wrongGraphs() {
		if i < 20 || i%53 == 0 {
			l = append(l, g)
		}
	}
	return l
}

// listsFor are lists to be asked about of a graph: what Order returns among them, as it is and with a number more.
func listsFor(g graph.Graph) [][]int {
	found, _ := Order(g)
	l := append(fewLists(g), found, append(slices.Clone(found), 0), append(slices.Clone(found), g.N))
	return append(l, slices.Repeat(found, 2), reversed(found))
}

// P16.1, P16.2: no call changes a graph that it is given, nor what stands behind its rows in their capacity, and none reads that.
func TestLeavesGraph(t *testing.T) {
	for _, g := range asked() {
		want, ok := Order(g)
		lists := listsFor(g)
		var is []bool
		for _, l := range lists {
			is = append(is, Is(g, l))
		}
		for _, others := range [][]uint64{nil, {0, 0, 0}, {full, 1, 1 << 63}, slices.Repeat(rows(5), 70)} {
			given, whole := crowded(g, others...)
			was := slices.Clone(whole)
			checkAnswer(t, given, want, ok)
			for i, l := range lists {
				checkIs(t, given, l, is[i])
			}
			if !slices.Equal(whole, was) {
				t.Fatalf("%s was changed", brief(g))
			}
		}
	}
}

// P16.1: no call changes a list that it is given, nor what stands behind its numbers in its capacity, and none reads that.
func TestLeavesList(t *testing.T) {
	for _, g := range asked() {
		for _, l := range listsFor(g) {
			want := Is(g, l)
			for _, others := range sets(nil, ints(0), ints(0, 1, 2), ints(63, -1, 64), slices.Repeat(ints(5), 70)) {
				given, whole := crowdedList(l, others...)
				was := slices.Clone(whole)
				checkIs(t, g, given, want)
				if !slices.Equal(whole, was) {
					t.Fatalf("Is(%s, %s) changed the list to %s", brief(g), brief(was), brief(whole))
				}
			}
		}
	}
}

// P16.1, P16.2: rows and nodes are those of the lists, not what stands behind them in their capacity.
func TestCapacity(t *testing.T) {
	for n := 1; n <= 64; n++ {
		whole, l := make([]uint64, n+3), inOrder(n+3)
		for _, count := range ints(n-1, n+1) {
			checkNone(t, graph.Graph{N: n, Rows: whole[:count]})
			checkIs(t, graph.Graph{N: n, Rows: whole[:count]}, l[:n], false)
			checkIs(t, graph.Graph{N: n, Rows: whole[:n]}, l[:count], false)
		}
		checkOrder(t, graph.Graph{N: n, Rows: whole[:n]}, l[:n]...)
		checkIs(t, graph.Graph{N: n, Rows: whole[:n]}, l[:n], true)
	}
}

// P16.2: no result shares memory with another one or with the argument, not even in its capacity.
func TestNewMemory(t *testing.T) {
	for _, g := range asked() {
		first, ok := Order(g)
		want := slices.Clone(first)
		given, whole := crowded(g, 9, 8, 7)
		was := slices.Clone(whole)
		var got [][]int
		for _, g := range []graph.Graph{given, given, g, given} {
			l, _ := Order(g)
			got = append(got, l)
		}
		for i := range got {
			if !slices.Equal(got[i], want) {
				t.Fatalf("%s: result %d was changed by another one", brief(g), i)
			}
			spoil(got[i])
		}
		if !slices.Equal(whole, was) {
			t.Fatalf("%s: a result shares memory with it", brief(g))
		}
		checkAnswer(t, given, want, ok)
	}
}

// P16.2: no result shares memory with that of a call with another graph.
func TestNewMemoryOfOthers(t *testing.T) {
	graphs := asked()
	var got, want [][]int
	for _, g := range graphs {
		l, _ := Order(g)
		got, want = append(got, l), append(want, slices.Clone(l))
	}
	if !alike(got, want) {
		t.Fatal("a result was changed by a later call")
	}
	for i := range got {
		spoil(append(got[i], -78, -79))
		spoil(got[i])
		if !alike(got[i+1:], want[i+1:]) {
			t.Fatalf("%s: its result shares memory with a later one", brief(graphs[i]))
		}
	}
}

// P16.1, P16.2: nothing is kept of an argument: what becomes of it later changes no result, but is seen by the next call.
func TestKeepsNothing(t *testing.T) {
	for _, g := range asked() {
		first, _ := Order(g)
		want := slices.Clone(first)
		given, whole := crowded(g, 9, 8, 7)
		got, _ := Order(given)
		for i := range whole {
			whole[i] = full
		}
		if !slices.Equal(got, want) {
			t.Fatalf("%s: a result shares memory with it", brief(g))
		}
	}
	g, l := raw(2, 2, 0), ints(0, 1)
	checkOrder(t, g, 0, 1)
	checkIs(t, g, l, true)
	g.Rows[1] = 1
	checkNone(t, g)
	checkIs(t, g, l, false)
	g.Rows[0] = 0
	checkOrder(t, g, 1, 0)
	checkIs(t, g, l, false)
	l[0], l[1] = 1, 0
	checkIs(t, g, l, true)
	l[1] = 1
	checkIs(t, g, l, false)
	g.Rows[1] = 4
	checkNone(t, g)
	checkIs(t, g, ints(0, 1), false)
	g.Rows[1] = 0
	checkOrder(t, g, 0, 1)
}

// P16.1, P16.2: what a call returns does not depend on earlier ones.
func TestTwiceAsked(t *testing.T) {
	g := raw(3, 0, 0, 1)
	for range 3 {
		checkOrder(t, g, 1, 2, 0)
		checkIs(t, g, ints(2, 0, 1), true)
		checkIs(t, g, ints(0, 1, 2), false)
		checkNone(t, raw(3, 0, 0))
		checkIs(t, raw(3, 0, 0), ints(2, 0, 1), false)
		checkOrder(t, graph.Graph{})
		checkOrder(t, raw(3, 0, 0, 0), 0, 1, 2)
		checkNone(t, raw(3, 2, 4, 1))
		checkNone(t, raw(3, 2, 4, 9))
		checkOrder(t, noneOf(64), inOrder(64)...)
		checkIs(t, noneOf(64), inOrder(64), true)
		checkNone(t, fullOf(64))
		checkOrder(t, raw(3, 6, 4, 0), 0, 1, 2)
	}
}
