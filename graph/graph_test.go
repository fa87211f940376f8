package graph

import (
	"fmt"
	"math/rand"
	"slices"
	"testing"

	"inquest/api"
)

const (
	least = -1 << 63
	most  = 1<<63 - 1
	full  = 1<<64 - 1
)

func ints(l ...int) []int { return l }

func rows(l ...uint64) []uint64 { return l }

func raw(n int, l ...uint64) Graph { return Graph{N: n, Rows: l} }

// ends are edges, of which each is two nodes of a list.
func ends(l ...int) []Edge {
	var edges []Edge
	for i := 0; i+1 < len(l); i += 2 {
		edges = append(edges, Edge{A: l[i], B: l[i+1]})
	}
	return edges
}

// power is 2 to the power of i.
func power(i int) uint64 {
	p := uint64(1)
	for range i {
		p *= 2
	}
	return p
}

// table is which edges there are: from the first index to the second one.
type table [64][64]bool

// tableOf is the edges of a valid graph, by the chapter's words: what is odd after b halvings has b.
func tableOf(g Graph) table {
	var is table
	for a, row := range g.Rows {
		for b := 0; b <= 63; b++ {
			is[a][b] = row%2 == 1
			row /= 2
		}
	}
	return is
}

// drawn is the graph with the edges that a function has.
func drawn(n int, has func(a, b int) bool) Graph {
	g := Graph{N: n}
	for a := 0; a < n; a++ {
		row := uint64(0)
		for b := 0; b < n; b++ {
			if has(a, b) {
				row += power(b)
			}
		}
		g.Rows = append(g.Rows, row)
	}
	return g
}

// with is the graph with some edges.
func with(n int, l ...int) Graph {
	edges := ends(l...)
	return drawn(n, func(a, b int) bool { return slices.Contains(edges, Edge{A: a, B: b}) })
}

func noneOf(n int) Graph { return drawn(n, func(a, b int) bool { return false }) }

func fullOf(n int) Graph { return drawn(n, func(a, b int) bool { return true }) }

func loopsOf(n int) Graph { return drawn(n, func(a, b int) bool { return a == b }) }

// unionByWords, composeByWords, turnByWords, addByWords and edgesByWords are what the functions return of valid graphs, by the chapter's words.
func unionByWords(a, b Graph) Graph {
	one, other := tableOf(a), tableOf(b)
	return drawn(a.N, func(x, y int) bool { return one[x][y] || other[x][y] })
}

func composeByWords(a, b Graph) Graph {
	one, other := tableOf(a), tableOf(b)
	return drawn(a.N, func(x, z int) bool {
		for y := 0; y < a.N; y++ {
			if one[x][y] && other[y][z] {
				return true
			}
		}
		return false
	})
}

func turnByWords(g Graph) Graph {
	is := tableOf(g)
	return drawn(g.N, func(y, x int) bool { return is[x][y] })
}

func addByWords(g Graph, a, b int) Graph {
	is := tableOf(g)
	return drawn(g.N, func(x, y int) bool { return is[x][y] || x == a && y == b })
}

func edgesByWords(g Graph) []Edge {
	var l []Edge
	is := tableOf(g)
	for a := 0; a < g.N; a++ {
		for b := 0; b < g.N; b++ {
			if is[a][b] {
				l = append(l, Edge{A: a, B: b})
			}
		}
	}
	return l
}

// byChance is a graph by chance: of few edges, of about half of all, or of nearly all.
func byChance(r *rand.Rand, n int) Graph {
	part := []int{3, 50, 97, r.Intn(101), 150 / (n + 1)}[r.Intn(5)]
	return drawn(n, func(a, b int) bool { return r.Intn(100) < part })
}

// kinds are graphs of n nodes: without edges, full, with those edges that lead one way, with one row or column, and by chance.
func kinds(n int) []Graph {
	l := []Graph{
		noneOf(n),
		fullOf(n),
		loopsOf(n),
		drawn(n, func(a, b int) bool { return b == a+1 }),
		drawn(n, func(a, b int) bool { return b == (a+1)%n }),
		drawn(n, func(a, b int) bool { return a == b+1 }),
		drawn(n, func(a, b int) bool { return a < b }),
		drawn(n, func(a, b int) bool { return a >= b }),
		drawn(n, func(a, b int) bool { return a != b }),
		drawn(n, func(a, b int) bool { return a == 0 }),
		drawn(n, func(a, b int) bool { return b == 0 }),
		drawn(n, func(a, b int) bool { return a == n-1 }),
		drawn(n, func(a, b int) bool { return b == n-1 }),
		drawn(n, func(a, b int) bool { return a == 0 && b == n-1 }),
		drawn(n, func(a, b int) bool { return a == n-1 && b == 0 }),
	}
	r := rand.New(rand.NewSource(int64(200 + n)))
	for range 6 {
		l = append(l, byChance(r, n))
	}
	return l
}

// samples are the kinds of graphs of each number of nodes.
func samples() []Graph {
	var l []Graph
	for n := 0; n <= 64; n++ {
		l = append(l, kinds(n)...)
	}
	return l
}

// fewSamples are those of some numbers of nodes.
func fewSamples() []Graph {
	var l []Graph
	for _, n := range ints(0, 1, 2, 3, 31, 32, 33, 63, 64) {
		l = append(l, kinds(n)...)
	}
	return l
}

// eachOf calls a function with each graph of n nodes.
func eachOf(n int, call func(Graph)) {
	for code := uint64(0); code < power(n*n); code++ {
		g, left := Graph{N: n, Rows: make([]uint64, n)}, code
		for a := range g.Rows {
			g.Rows[a] = left % power(n)
			left /= power(n)
		}
		call(g)
	}
}

// noCounts are numbers of nodes that no graph has; some are others where only their last bits are looked at.
func noCounts() []int {
	l := ints(-2, -63, -64, -65, 66, 127, 128, 129, 192, 255, 256, 257, 1000, -1<<8+2, 1<<8+2, 1<<16, 1<<16+2, 1<<31-1, 1<<31, 1<<32-1, 1<<32, 1<<32+2, 1<<32+64, -1<<31, -1<<32, -1<<32+2, 1<<62, least+1, least+2, least+64, most-1, most-63, most-64)
	return append(ints(-1, 65, least, most), l...)
}

// noNodes are numbers that are no nodes of a graph with n of them.
func noNodes(n int) []int {
	return append(noCounts(), n, n+1, n+64, 64, n+256, n+1<<32, n-1-1<<32, -n-1)
}

// rowsOf are as many empty rows.
func rowsOf(n int) []uint64 { return make([]uint64, n) }

// wrongCounts are graphs that are not valid, since the number of nodes is none, or is not that of the rows.
func wrongCounts() []Graph {
	l := []Graph{raw(1), {N: 1, Rows: rows()}, raw(0, 0), raw(0, 0, 0), raw(1, 0, 0), raw(2, 0), raw(2, 2), raw(2, 0, 0, 0), raw(3, 6, 6), raw(-1), {N: -1, Rows: rows()}, raw(-1, 0), raw(-2, 0, 0)}
	for n := 0; n <= 64; n++ {
		for _, count := range ints(0, n-2, n-1, n+1, n+2, 63, 64, 65, 66, 128) {
			if count >= 0 && count != n {
				l = append(l, Graph{N: n, Rows: rowsOf(count)})
			}
		}
	}
	for _, n := range noCounts() {
		for _, count := range ints(0, 1, 2, 64, 65) {
			l = append(l, Graph{N: n, Rows: rowsOf(count)})
		}
		if n > 0 && n <= 1000 {
			l = append(l, Graph{N: n, Rows: rowsOf(n)})
			l = append(l, Graph{N: n, Rows: slices.Repeat(rows(full), n)})
		}
	}
	return l
}

// wrongRows are graphs that are not valid, since some row, the first, a middle or the last one, has a number that is no node.
func wrongRows() []Graph {
	var l []Graph
	for n := 1; n <= 63; n++ {
		for _, base := range []Graph{noneOf(n), fullOf(n)} {
			for _, at := range ints(0, n/2, n-1) {
				for _, wrong := range ints(n, min(n+1, 63), (n+64)/2, 63) {
					g := Graph{N: n, Rows: slices.Clone(base.Rows)}
					g.Rows[at] += power(wrong)
					l = append(l, g)
				}
			}
		}
		l = append(l, Graph{N: n, Rows: slices.Repeat(rows(full), n)})
		l = append(l, Graph{N: n, Rows: slices.Repeat(rows(power(n)), n)})
	}
	return l
}

// wrongGraphs are all graphs of these tests that are not valid.
func wrongGraphs() []Graph { return append(wrongCounts(), wrongRows()...) }

// fewWrong are some of each kind of these.
func fewWrong() []Graph {
	var l []Graph
	for i, g := range wrongGraphs() {
		if i < 20 || i%53 == 0 {
			l = append(l, g)
		}
	}
	return l
}

// brief is how a value is printed where a test fails; a long one is cut off.
func brief(v any) string { return fmt.Sprintf("%.400s", fmt.Sprint(v)) }

func same(a, b Graph) bool { return a.N == b.N && slices.Equal(a.Rows, b.Rows) }

// checkGraph checks that a call returned a graph.
func checkGraph(t *testing.T, call string, got Graph, e api.Errno, want Graph) {
	t.Helper()
	if e != api.OK || !same(got, want) {
		t.Fatalf("%s = %s, %d, want %s", call, brief(got), e, brief(want))
	}
}

// checkWrong checks that a call returned ErrArg and the zero graph.
func checkWrong(t *testing.T, call string, got Graph, e api.Errno) {
	t.Helper()
	if e != api.ErrArg || got.N != 0 || len(got.Rows) != 0 {
		t.Fatalf("%s = %s, %d, want the zero graph and ErrArg", call, brief(got), e)
	}
}

func name(function string, arguments ...any) string {
	return function + brief(arguments)
}

func checkNew(t *testing.T, n int, want Graph) {
	t.Helper()
	g, e := New(n)
	checkGraph(t, name("New", n), g, e, want)
}

func checkNewWrong(t *testing.T, n int) {
	t.Helper()
	g, e := New(n)
	checkWrong(t, name("New", n), g, e)
}

func checkRight(t *testing.T, g Graph, want bool) {
	t.Helper()
	if got := Right(g); got != want {
		t.Fatalf("Right(%s) = %v", brief(g), got)
	}
}

func checkHas(t *testing.T, g Graph, a, b int, want bool) {
	t.Helper()
	if got := Has(g, a, b); got != want {
		t.Fatalf("Has(%s, %d, %d) = %v", brief(g), a, b, got)
	}
}

func checkEdges(t *testing.T, g Graph, want ...Edge) {
	t.Helper()
	if got := Edges(g); !slices.Equal(got, want) {
		t.Fatalf("Edges(%s) = %s, want %s", brief(g), brief(got), brief(want))
	}
}

func checkNoEdges(t *testing.T, g Graph) {
	t.Helper()
	if got := Edges(g); got != nil {
		t.Fatalf("Edges(%s) = %s, want nil", brief(g), brief(got))
	}
}

func checkAdd(t *testing.T, g Graph, a, b int, want Graph) {
	t.Helper()
	got, e := Add(g, a, b)
	if e != api.OK || !same(got, want) {
		checkGraph(t, name("Add", g, a, b), got, e, want)
	}
}

func checkAddWrong(t *testing.T, g Graph, a, b int) {
	t.Helper()
	got, e := Add(g, a, b)
	if e != api.ErrArg || !same(got, Graph{}) {
		checkWrong(t, name("Add", g, a, b), got, e)
	}
}

func checkUnion(t *testing.T, a, b, want Graph) {
	t.Helper()
	got, e := Union(a, b)
	if e != api.OK || !same(got, want) {
		checkGraph(t, name("Union", a, b), got, e, want)
	}
}

func checkCompose(t *testing.T, a, b, want Graph) {
	t.Helper()
	got, e := Compose(a, b)
	if e != api.OK || !same(got, want) {
		checkGraph(t, name("Compose", a, b), got, e, want)
	}
}

// checkBothWrong checks that two graphs can be neither united nor composed, in either order.
func checkBothWrong(t *testing.T, a, b Graph) {
	t.Helper()
	for range 2 {
		got, e := Union(a, b)
		if e != api.ErrArg || !same(got, Graph{}) {
			checkWrong(t, name("Union", a, b), got, e)
		}
		got, e = Compose(a, b)
		if e != api.ErrArg || !same(got, Graph{}) {
			checkWrong(t, name("Compose", a, b), got, e)
		}
		a, b = b, a
	}
}

func checkTurn(t *testing.T, g, want Graph) {
	t.Helper()
	got, e := Turn(g)
	if e != api.OK || !same(got, want) {
		checkGraph(t, name("Turn", g), got, e, want)
	}
}

func checkTurnWrong(t *testing.T, g Graph) {
	t.Helper()
	got, e := Turn(g)
	checkWrong(t, name("Turn", g), got, e)
}

// must is what a call returned that must not fail.
func must(g Graph, e api.Errno) Graph {
	if e != api.OK {
		panic(e)
	}
	return g
}

// P12.1, P12.2: the chapter's example.
func TestExample(t *testing.T) {
	g := must(Add(must(Add(must(New(3)), 0, 1)), 1, 2))
	checkEdges(t, g, ends(0, 1, 1, 2)...)
	checkEdges(t, must(Compose(g, g)), ends(0, 2)...)
	checkCompose(t, g, g, raw(3, 4, 0, 0))
}

// P12.1: a graph with n nodes and no edges.
func TestNew(t *testing.T) {
	checkNew(t, 0, raw(0))
	checkNew(t, 1, raw(1, 0))
	checkNew(t, 3, raw(3, 0, 0, 0))
	checkNew(t, 63, Graph{N: 63, Rows: rowsOf(63)})
	checkNew(t, 64, Graph{N: 64, Rows: rowsOf(64)})
	for n := 0; n <= 64; n++ {
		checkNew(t, n, noneOf(n))
		g := must(New(n))
		checkRight(t, g, true)
		checkEdges(t, g)
		for a := -1; a <= 64; a++ {
			for b := -1; b <= 64; b++ {
				checkHas(t, g, a, b, false)
			}
		}
	}
}

// P12.1: New of what is not 0 to 64.
func TestNewWrong(t *testing.T) {
	for _, n := range ints(-1, 65, least, most) {
		checkNewWrong(t, n)
	}
	for _, n := range noCounts() {
		checkNewWrong(t, n)
	}
	for i := 1; i <= 1000; i++ {
		checkNewWrong(t, -i)
		checkNewWrong(t, 64+i)
	}
	for i := 7; i <= 62; i++ {
		for j := range 65 {
			checkNewWrong(t, 1<<i+j)
			checkNewWrong(t, j-1<<i-65)
		}
	}
}

// P12.1: valid graphs: of no node, nil rows and empty ones, of one, and of as many as there may be.
func TestRight(t *testing.T) {
	checkRight(t, Graph{}, true)
	checkRight(t, Graph{N: 0, Rows: rows()}, true)
	checkRight(t, raw(1, 0), true)
	checkRight(t, raw(1, 1), true)
	checkRight(t, raw(2, 3, 3), true)
	checkRight(t, raw(3, 7, 0, 7), true)
	checkRight(t, Graph{N: 63, Rows: slices.Repeat(rows(full/2), 63)}, true)
	checkRight(t, Graph{N: 64, Rows: slices.Repeat(rows(full), 64)}, true)
	checkRight(t, Graph{N: 64, Rows: slices.Repeat(rows(1<<63), 64)}, true)
	for _, g := range samples() {
		checkRight(t, g, true)
	}
	for n := range 5 {
		eachOf(n, func(g Graph) { checkRight(t, g, true) })
	}
}

// P12.1: as many nodes as there are rows, and not too many of them.
func TestRightCounts(t *testing.T) {
	checkRight(t, raw(1), false)
	checkRight(t, Graph{N: 1, Rows: rows()}, false)
	checkRight(t, raw(0, 0), false)
	checkRight(t, raw(-1), false)
	checkRight(t, raw(-1, 0), false)
	checkRight(t, raw(65), false)
	checkRight(t, Graph{N: 64, Rows: rowsOf(63)}, false)
	checkRight(t, Graph{N: 64, Rows: rowsOf(65)}, false)
	checkRight(t, Graph{N: 65, Rows: rowsOf(64)}, false)
	checkRight(t, Graph{N: 65, Rows: rowsOf(65)}, false)
	checkRight(t, Graph{N: 66, Rows: rowsOf(66)}, false)
	checkRight(t, Graph{N: least}, false)
	checkRight(t, Graph{N: most}, false)
	for _, g := range wrongCounts() {
		checkRight(t, g, false)
	}
	for n := -70; n <= 140; n++ {
		for count := range 141 {
			checkRight(t, Graph{N: n, Rows: rowsOf(count)}, n == count && n <= 64)
		}
	}
}

// P12.1: a row has nodes only: not N, not 63, in no place.
func TestRightRows(t *testing.T) {
	checkRight(t, raw(1, 2), false)
	checkRight(t, raw(2, 4, 0), false)
	checkRight(t, raw(2, 0, 4), false)
	checkRight(t, raw(3, 0, 1<<63, 0), false)
	checkRight(t, raw(3, 7, 7, 15), false)
	for _, g := range wrongRows() {
		checkRight(t, g, false)
	}
	for n := 1; n <= 64; n++ {
		for at := range n {
			g := noneOf(n)
			for b := 0; b <= 63; b++ {
				g.Rows[at] = power(b)
				checkRight(t, g, b < n)
			}
		}
	}
}

// P12.1: rows are those of the list, not what stands behind it in its capacity.
func TestRightCapacity(t *testing.T) {
	for n := 0; n <= 64; n++ {
		for _, other := range rows(0, 1, full) {
			whole := append(rowsOf(n), slices.Repeat(rows(other), 5)...)
			checkRight(t, Graph{N: n, Rows: whole[:n]}, true)
			checkRight(t, Graph{N: n + 1, Rows: whole[:n]}, false)
			checkRight(t, Graph{N: n, Rows: whole[:n+1]}, false)
			if n > 0 {
				checkRight(t, Graph{N: n, Rows: whole[:n-1]}, false)
				checkRight(t, Graph{N: n, Rows: whole[:0]}, false)
			}
		}
	}
}

// P12.1: the edges of a graph, and no others.
func TestHas(t *testing.T) {
	g := raw(3, 2, 6, 0)
	for a := range 3 {
		for b := range 3 {
			checkHas(t, g, a, b, a == 0 && b == 1 || a == 1 && b == 1 || a == 1 && b == 2)
		}
	}
	checkHas(t, raw(1, 1), 0, 0, true)
	checkHas(t, raw(1, 0), 0, 0, false)
	checkHas(t, Graph{}, 0, 0, false)
	corner := with(64, 63, 63, 0, 63)
	checkHas(t, corner, 63, 63, true)
	checkHas(t, corner, 0, 63, true)
	checkHas(t, corner, 63, 0, false)
	for _, g := range samples() {
		is := tableOf(g)
		for a := -1; a <= 64; a++ {
			for b := -1; b <= 64; b++ {
				node := a >= 0 && a < g.N && b >= 0 && b < g.N
				checkHas(t, g, a, b, node && is[a][b])
			}
		}
	}
}

// P12.1: no edge from or to what is no node.
func TestHasWrong(t *testing.T) {
	for _, g := range fewSamples() {
		for _, wrong := range noNodes(g.N) {
			for _, node := range ints(0, g.N/2, g.N-1, 63) {
				checkHas(t, g, wrong, node, false)
				checkHas(t, g, node, wrong, false)
			}
			checkHas(t, g, wrong, wrong, false)
			checkHas(t, g, wrong, -1, false)
			checkHas(t, g, -1, wrong, false)
		}
	}
}

// P12.1: a graph that is not valid has no edge, whatever the nodes are.
func TestHasNotRight(t *testing.T) {
	for _, g := range wrongGraphs() {
		for _, a := range ints(0, 1, 2, g.N/2, g.N-1, g.N, 63, 64, -1, least, most) {
			for _, b := range ints(0, 1, g.N-1, g.N, 63, 64, -1, least, most) {
				checkHas(t, g, a, b, false)
			}
		}
	}
	for a := -1; a <= 66; a++ {
		for b := -1; b <= 66; b++ {
			checkHas(t, Graph{N: 65, Rows: slices.Repeat(rows(full), 65)}, a, b, false)
			checkHas(t, Graph{N: 63, Rows: slices.Repeat(rows(full), 63)}, a, b, false)
			checkHas(t, Graph{N: 64, Rows: slices.Repeat(rows(full), 63)}, a, b, false)
		}
	}
}

// P12.1: all edges, by A and then by B.
func TestEdges(t *testing.T) {
	checkEdges(t, Graph{})
	checkEdges(t, Graph{Rows: rows()})
	checkEdges(t, raw(1, 0))
	checkEdges(t, raw(1, 1), ends(0, 0)...)
	checkEdges(t, raw(3, 0, 0, 0))
	checkEdges(t, raw(3, 2, 6, 0), ends(0, 1, 1, 1, 1, 2)...)
	checkEdges(t, raw(3, 4, 0, 3), ends(0, 2, 2, 0, 2, 1)...)
	checkEdges(t, raw(2, 3, 3), ends(0, 0, 0, 1, 1, 0, 1, 1)...)
	checkEdges(t, with(64, 63, 63, 63, 0, 0, 63, 0, 0), ends(0, 0, 0, 63, 63, 0, 63, 63)...)
	for n := 1; n <= 64; n++ {
		for a := range n {
			for _, b := range ints(0, n/2, n-1, (a+1)%n) {
				checkEdges(t, with(n, a, b), Edge{A: a, B: b})
			}
		}
	}
	for _, g := range samples() {
		checkEdges(t, g, edgesByWords(g)...)
	}
	l := Edges(fullOf(64))
	if len(l) != 64*64 {
		t.Fatal(len(l))
	}
	for i, edge := range l {
		if edge.A != i/64 || edge.B != i%64 {
			t.Fatal(i, edge)
		}
	}
}

// P12.1: a graph that is not valid has no edges.
func TestEdgesWrong(t *testing.T) {
	for _, g := range wrongGraphs() {
		checkNoEdges(t, g)
	}
	checkNoEdges(t, raw(1, 3))
	checkNoEdges(t, raw(2, 1, 1, 1))
	checkNoEdges(t, raw(3, 1, 1))
}

// P12.2: an edge that is new, and one that is there already; from a node to itself, at the first node and the last one.
func TestAdd(t *testing.T) {
	checkAdd(t, raw(3, 0, 0, 0), 0, 1, raw(3, 2, 0, 0))
	checkAdd(t, raw(3, 2, 0, 0), 1, 2, raw(3, 2, 4, 0))
	checkAdd(t, raw(3, 2, 4, 0), 1, 1, raw(3, 2, 6, 0))
	checkAdd(t, raw(3, 2, 6, 0), 1, 1, raw(3, 2, 6, 0))
	checkAdd(t, raw(1, 0), 0, 0, raw(1, 1))
	checkAdd(t, raw(1, 1), 0, 0, raw(1, 1))
	for _, n := range ints(1, 2, 3, 31, 32, 33, 63, 64) {
		for _, a := range ints(0, n/2, n-1) {
			for _, b := range ints(0, a, n/3, n-1) {
				checkAdd(t, noneOf(n), a, b, with(n, a, b))
				checkAdd(t, with(n, a, b), a, b, with(n, a, b))
				checkAdd(t, fullOf(n), a, b, fullOf(n))
				lacking := drawn(n, func(x, y int) bool { return x != a || y != b })
				checkAdd(t, lacking, a, b, fullOf(n))
			}
		}
	}
	r := rand.New(rand.NewSource(201))
	for _, g := range samples() {
		for range min(g.N, 8) {
			a, b := r.Intn(g.N), r.Intn(g.N)
			checkAdd(t, g, a, b, addByWords(g, a, b))
			checkAdd(t, g, a, a, addByWords(g, a, a))
		}
	}
}

// P12.2: each edge of graphs of few nodes.
func TestAddEach(t *testing.T) {
	for n := range 4 {
		eachOf(n, func(g Graph) {
			for a := -1; a <= n; a++ {
				for b := -1; b <= n; b++ {
					if a < 0 || a == n || b < 0 || b == n {
						checkAddWrong(t, g, a, b)
					} else {
						checkAdd(t, g, a, b, addByWords(g, a, b))
					}
				}
			}
		})
	}
}

// P12.2: an edge from or to what is no node.
func TestAddWrong(t *testing.T) {
	checkAddWrong(t, Graph{}, 0, 0)
	for _, g := range append(fewSamples(), noneOf(62)) {
		for _, wrong := range noNodes(g.N) {
			for _, node := range ints(0, g.N/2, g.N-1) {
				checkAddWrong(t, g, wrong, node)
				checkAddWrong(t, g, node, wrong)
			}
			checkAddWrong(t, g, wrong, wrong)
			checkAddWrong(t, g, wrong, -1)
			checkAddWrong(t, g, -1, wrong)
			checkAddWrong(t, g, 64, wrong)
		}
	}
}

// P12.2: an edge of a graph that is not valid, with nodes and with others.
func TestAddNotRight(t *testing.T) {
	for _, g := range wrongGraphs() {
		for _, a := range ints(0, 1, g.N/2, g.N-1, g.N, 64, -1, least, most) {
			for _, b := range ints(0, g.N-1, g.N, 63, 64, -1, least, most) {
				checkAddWrong(t, g, a, b)
			}
		}
	}
}

// P12.2: the edges of two graphs, in common and not.
func TestUnion(t *testing.T) {
	checkUnion(t, raw(3, 2, 0, 0), raw(3, 0, 3, 2), raw(3, 2, 3, 2))
	checkUnion(t, raw(3, 2, 6, 0), raw(3, 2, 3, 4), raw(3, 2, 7, 4))
	checkUnion(t, raw(1, 0), raw(1, 0), raw(1, 0))
	checkUnion(t, raw(1, 1), raw(1, 0), raw(1, 1))
	checkUnion(t, raw(1, 0), raw(1, 1), raw(1, 1))
	checkUnion(t, Graph{}, Graph{}, Graph{})
	checkUnion(t, Graph{}, Graph{Rows: rows()}, Graph{})
	checkUnion(t, with(64, 0, 63, 63, 63), with(64, 63, 0, 63, 63), with(64, 0, 63, 63, 0, 63, 63))
	for _, g := range samples() {
		checkUnion(t, g, g, g)
		checkUnion(t, g, noneOf(g.N), g)
		checkUnion(t, noneOf(g.N), g, g)
		checkUnion(t, g, fullOf(g.N), fullOf(g.N))
		checkUnion(t, fullOf(g.N), g, fullOf(g.N))
	}
}

// P12.2: the union of any two kinds of graphs, and of any two of few nodes.
func TestUnionByWords(t *testing.T) {
	for _, n := range ints(0, 1, 2, 3, 4, 5, 8, 31, 32, 33, 62, 63, 64) {
		for _, a := range kinds(n) {
			for _, b := range kinds(n) {
				checkUnion(t, a, b, unionByWords(a, b))
			}
		}
	}
	for n := range 3 {
		eachOf(n, func(a Graph) {
			eachOf(n, func(b Graph) { checkUnion(t, a, b, unionByWords(a, b)) })
		})
	}
}

// P12.2: an edge of the one and then one of the other; which is the one matters.
func TestCompose(t *testing.T) {
	chain := raw(3, 2, 4, 0)
	checkCompose(t, chain, chain, raw(3, 4, 0, 0))
	checkCompose(t, raw(3, 2, 6, 0), raw(3, 2, 6, 0), raw(3, 6, 6, 0))
	checkCompose(t, with(3, 0, 1), with(3, 1, 2), with(3, 0, 2))
	checkCompose(t, with(3, 1, 2), with(3, 0, 1), with(3))
	checkCompose(t, with(3, 0, 1), with(3, 0, 1), with(3))
	checkCompose(t, with(2, 0, 1), with(2, 1, 0), with(2, 0, 0))
	checkCompose(t, with(2, 1, 0), with(2, 0, 1), with(2, 1, 1))
	// An edge from a node to itself, of the one, of the other, of both.
	checkCompose(t, with(2, 0, 0), with(2, 0, 1), with(2, 0, 1))
	checkCompose(t, with(2, 0, 1), with(2, 1, 1), with(2, 0, 1))
	checkCompose(t, with(2, 1, 1), with(2, 1, 1), with(2, 1, 1))
	checkCompose(t, with(2, 0, 0), with(2, 1, 1), with(2))
	// Several y for the same x and z, and several z for the same y.
	checkCompose(t, with(5, 0, 1, 0, 2, 0, 3), with(5, 1, 4, 2, 4, 3, 4), with(5, 0, 4))
	checkCompose(t, with(5, 0, 1, 0, 2), with(5, 1, 3, 1, 4, 2, 4, 2, 0), with(5, 0, 0, 0, 3, 0, 4))
	checkCompose(t, with(4, 0, 2, 1, 2, 3, 2), with(4, 2, 0, 2, 3), with(4, 0, 0, 0, 3, 1, 0, 1, 3, 3, 0, 3, 3))
	// At both ends.
	checkCompose(t, with(64, 0, 63), with(64, 63, 0), with(64, 0, 0))
	checkCompose(t, with(64, 63, 63), with(64, 63, 63), with(64, 63, 63))
	checkCompose(t, with(64, 63, 0, 63, 63), with(64, 0, 1, 63, 62), with(64, 63, 1, 63, 62))
	checkCompose(t, raw(1, 1), raw(1, 1), raw(1, 1))
	checkCompose(t, raw(1, 1), raw(1, 0), raw(1, 0))
	checkCompose(t, raw(1, 0), raw(1, 1), raw(1, 0))
	checkCompose(t, Graph{}, Graph{}, Graph{})
	checkCompose(t, Graph{Rows: rows()}, Graph{}, Graph{})
}

// P12.2: compositions with a graph without edges, with a full one, and with that of all edges from a node to itself.
func TestComposeEnds(t *testing.T) {
	for _, g := range samples() {
		none, loops := noneOf(g.N), loopsOf(g.N)
		checkCompose(t, g, none, none)
		checkCompose(t, none, g, none)
		checkCompose(t, g, loops, g)
		checkCompose(t, loops, g, g)
		is := tableOf(g)
		out, in := [64]bool{}, [64]bool{}
		for a := range g.N {
			for b := range g.N {
				out[a] = out[a] || is[a][b]
				in[b] = in[b] || is[a][b]
			}
		}
		checkCompose(t, g, fullOf(g.N), drawn(g.N, func(a, b int) bool { return out[a] }))
		checkCompose(t, fullOf(g.N), g, drawn(g.N, func(a, b int) bool { return in[b] }))
	}
}

// P12.2: the composition of any two kinds of graphs, and of any two of few nodes.
func TestComposeByWords(t *testing.T) {
	order := 0
	for _, n := range ints(0, 1, 2, 3, 4, 5, 8, 31, 32, 33, 62, 63, 64) {
		for _, a := range kinds(n) {
			for _, b := range kinds(n) {
				want := composeByWords(a, b)
				checkCompose(t, a, b, want)
				if !same(want, composeByWords(b, a)) {
					order++
				}
			}
		}
	}
	if order < 1000 {
		t.Error(order)
	}
	for n := range 3 {
		eachOf(n, func(a Graph) {
			eachOf(n, func(b Graph) { checkCompose(t, a, b, composeByWords(a, b)) })
		})
	}
	r := rand.New(rand.NewSource(202))
	for range 3000 {
		n := 3 + r.Intn(6)
		a, b := byChance(r, n), byChance(r, n)
		checkCompose(t, a, b, composeByWords(a, b))
	}
}

// P12.2: graphs of different numbers of nodes are neither united nor composed.
func TestDifferent(t *testing.T) {
	for m := 0; m <= 64; m++ {
		for n := 0; n < m; n++ {
			checkBothWrong(t, noneOf(m), noneOf(n))
		}
	}
	for _, a := range fewSamples() {
		for _, b := range fewSamples() {
			if a.N != b.N {
				checkBothWrong(t, a, b)
			}
		}
	}
}

// P12.2: the first, the second, or both graphs are not valid.
func TestBothNotRight(t *testing.T) {
	for _, g := range wrongGraphs() {
		checkBothWrong(t, g, g)
		// A graph with as many nodes, and one with as many rows.
		for _, n := range ints(g.N, len(g.Rows), 0, 1, 2, 64) {
			if n >= 0 && n <= 64 {
				checkBothWrong(t, g, noneOf(n))
			}
		}
	}
	for _, a := range fewWrong() {
		for _, b := range fewWrong() {
			checkBothWrong(t, a, b)
		}
		for _, n := range ints(0, 1, 2, 3, 33, 63, 64) {
			for _, b := range kinds(n) {
				checkBothWrong(t, a, b)
			}
		}
	}
}

// P12.2: all edges the other way round.
func TestTurn(t *testing.T) {
	checkTurn(t, raw(3, 2, 6, 0), raw(3, 0, 3, 2))
	checkTurn(t, with(3, 0, 1), with(3, 1, 0))
	checkTurn(t, with(3, 0, 1, 0, 2), with(3, 1, 0, 2, 0))
	checkTurn(t, with(3, 1, 0, 2, 0), with(3, 0, 1, 0, 2))
	checkTurn(t, with(2, 0, 1, 1, 0), with(2, 0, 1, 1, 0))
	checkTurn(t, with(2, 1, 1), with(2, 1, 1))
	checkTurn(t, Graph{}, Graph{})
	checkTurn(t, Graph{Rows: rows()}, Graph{})
	checkTurn(t, raw(1, 0), raw(1, 0))
	checkTurn(t, raw(1, 1), raw(1, 1))
	checkTurn(t, with(64, 0, 63), with(64, 63, 0))
	checkTurn(t, with(64, 63, 63, 62, 63), with(64, 63, 63, 63, 62))
	for n := 0; n <= 64; n++ {
		checkTurn(t, noneOf(n), noneOf(n))
		checkTurn(t, fullOf(n), fullOf(n))
		checkTurn(t, loopsOf(n), loopsOf(n))
		for a := range n {
			checkTurn(t, with(n, a, a), with(n, a, a))
			checkTurn(t, with(n, a, n-1), with(n, n-1, a))
			checkTurn(t, with(n, 0, a), with(n, a, 0))
		}
	}
	for _, g := range samples() {
		checkTurn(t, g, turnByWords(g))
	}
	for n := range 4 {
		eachOf(n, func(g Graph) { checkTurn(t, g, turnByWords(g)) })
	}
}

// P12.2: a graph that is not valid can't be turned.
func TestTurnWrong(t *testing.T) {
	for _, g := range wrongGraphs() {
		checkTurnWrong(t, g)
	}
}

// checkRebuilt checks that a graph made anew from the edges that Edges returns, one by one in any order, is the same.
func checkRebuilt(t *testing.T, r *rand.Rand, g Graph) {
	t.Helper()
	l := Edges(g)
	for round := range 2 {
		again := must(New(g.N))
		for _, edge := range l {
			again = must(Add(again, edge.A, edge.B))
		}
		if !same(again, g) {
			t.Fatalf("%s: %s after round %d", brief(g), brief(again), round)
		}
		r.Shuffle(len(l), func(i, j int) { l[i], l[j] = l[j], l[i] })
		l = append(l, l[:len(l)/3]...)
	}
}

// checkTwice checks that turning twice yields the same graph, with the same edges, each as Has tells them.
func checkTwice(t *testing.T, g Graph) {
	t.Helper()
	turned := must(Turn(g))
	checkTurn(t, turned, g)
	for _, edge := range Edges(g) {
		checkHas(t, g, edge.A, edge.B, true)
		checkHas(t, turned, edge.B, edge.A, true)
	}
	if len(Edges(turned)) != len(Edges(g)) {
		t.Fatalf("%s has not as many edges as when turned", brief(g))
	}
}

// checkTurnedOrder checks that a turned composition is that of the turned graphs the other way round.
func checkTurnedOrder(t *testing.T, a, b Graph) {
	t.Helper()
	checkCompose(t, must(Turn(b)), must(Turn(a)), must(Turn(must(Compose(a, b)))))
}

// P12.3: all graphs of few nodes.
func TestConsequenceFew(t *testing.T) {
	r := rand.New(rand.NewSource(203))
	for n := range 5 {
		eachOf(n, func(g Graph) {
			checkRebuilt(t, r, g)
			checkTwice(t, g)
		})
	}
	for n := range 4 {
		eachOf(n, func(a Graph) {
			eachOf(n, func(b Graph) { checkTurnedOrder(t, a, b) })
		})
	}
}

// P12.3: graphs of all numbers of nodes, of all kinds and by chance.
func TestConsequenceMany(t *testing.T) {
	r := rand.New(rand.NewSource(204))
	for n := 0; n <= 64; n++ {
		l := kinds(n)
		for i, g := range l {
			if i%4 == n%4 || n < 8 || n == 64 {
				checkRebuilt(t, r, g)
			}
			checkTwice(t, g)
			for j := range l {
				if (i+j)%3 == 0 {
					checkTurnedOrder(t, g, l[j])
				}
			}
		}
	}
	for range 5000 {
		n := 4 + r.Intn(5)
		checkTurnedOrder(t, byChance(r, n), byChance(r, n))
	}
}

// P12.3: no two graphs of as many nodes have the same edges.
func TestDetermined(t *testing.T) {
	check := func(l []Graph) {
		t.Helper()
		found := map[string]Graph{}
		for _, g := range l {
			edges := fmt.Sprint(g.N, Edges(g))
			if other, is := found[edges]; is && !same(other, g) {
				t.Fatalf("%s and %s: %s", brief(other), brief(g), brief(edges))
			}
			found[edges] = g
		}
	}
	check(append(samples(), fewSamples()...))
	var small []Graph
	for n := range 4 {
		eachOf(n, func(g Graph) { small = append(small, g) })
	}
	check(small)
}

// P12.1 to P12.3: what the functions return of valid graphs is valid, and is taken by the others.
func TestRightAgain(t *testing.T) {
	r := rand.New(rand.NewSource(205))
	for _, n := range ints(1, 2, 5, 32, 63, 64) {
		g := must(New(n))
		for step := range 300 {
			checkRight(t, g, true)
			before := g
			switch r.Intn(8) {
			case 0:
				g = must(Turn(g))
				checkGraph(t, "Turn", g, api.OK, turnByWords(before))
			case 1:
				g = must(Compose(g, g))
				checkGraph(t, "Compose", g, api.OK, composeByWords(before, before))
			case 2:
				other := byChance(r, n)
				g = must(Union(other, g))
				checkGraph(t, "Union", g, api.OK, unionByWords(other, before))
			case 3:
				other := byChance(r, n)
				g = must(Compose(g, other))
				checkGraph(t, "Compose", g, api.OK, composeByWords(before, other))
			default:
				a, b := r.Intn(n), r.Intn(n)
				g = must(Add(g, a, b))
				checkGraph(t, "Add", g, api.OK, addByWords(before, a, b))
			}
			if step%20 == 19 {
				g = must(New(n))
			}
		}
	}
}

// crowded is a graph with other rows behind its own in their capacity, and all of both.
func crowded(g Graph, others ...uint64) (Graph, []uint64) {
	whole := append(slices.Clone(g.Rows), others...)
	return Graph{N: g.N, Rows: whole[:len(g.Rows)]}, whole
}

// someOthers are rows that may stand behind those of a graph.
func someOthers() [][]uint64 {
	return [][]uint64{nil, {0, 0, 0}, {full, 1, 1 << 63}, slices.Repeat(rows(5), 70)}
}

// askAll calls all functions with two graphs, and returns all that they returned: first the graphs, then the edges.
func askAll(a, b Graph) ([]Graph, [][]Edge) {
	var l []Graph
	put := func(g Graph, e api.Errno) {
		if e == api.OK {
			l = append(l, g)
		}
	}
	put(New(a.N))
	for _, x := range ints(0, a.N/2, a.N-1, a.N, -1, 64) {
		for _, y := range ints(0, a.N/3, a.N-1, a.N, -1, 64) {
			put(Add(a, x, y))
			Has(a, x, y)
		}
	}
	put(Union(a, b))
	put(Union(b, a))
	put(Union(a, a))
	put(Compose(a, b))
	put(Compose(b, a))
	put(Compose(a, a))
	put(Turn(a))
	put(Turn(b))
	Right(a)
	Right(b)
	return l, [][]Edge{Edges(a), Edges(b)}
}

// pairsOfGraphs are graphs to be asked about: valid ones, and others.
func pairsOfGraphs() [][2]Graph {
	var l [][2]Graph
	for _, n := range ints(0, 1, 2, 3, 33, 63, 64) {
		k := kinds(n)
		for i := range k {
			l = append(l, [2]Graph{k[i], k[(i*7+3)%len(k)]}, [2]Graph{k[i], noneOf(n)}, [2]Graph{k[i], k[i]})
		}
	}
	few := fewWrong()
	for i, g := range few {
		l = append(l, [2]Graph{g, few[(i*5+1)%len(few)]}, [2]Graph{g, g}, [2]Graph{g, noneOf(3)}, [2]Graph{noneOf(2), g})
	}
	return l
}

// P12.1, P12.2: no call changes a graph that it is given, nor what stands behind its rows in their capacity, and none reads that.
func TestLeaves(t *testing.T) {
	for _, p := range pairsOfGraphs() {
		want, wantEdges := askAll(p[0], p[1])
		for _, others := range someOthers() {
			a, wholeA := crowded(p[0], others...)
			b, wholeB := crowded(p[1], others...)
			wasA, wasB := slices.Clone(wholeA), slices.Clone(wholeB)
			got, gotEdges := askAll(a, b)
			if !slices.Equal(wholeA, wasA) || !slices.Equal(wholeB, wasB) {
				t.Fatalf("%s and %s were changed", brief(p[0]), brief(p[1]))
			}
			if !slices.EqualFunc(got, want, same) || !slices.EqualFunc(gotEdges, wantEdges, slices.Equal[[]Edge]) {
				t.Fatalf("%s and %s: other answers with %s behind their rows", brief(p[0]), brief(p[1]), brief(others))
			}
		}
	}
}

// spoil changes all rows of a graph, and what stands behind them in their capacity.
func spoil(g Graph, row uint64) {
	all := g.Rows[:cap(g.Rows)]
	for i := range all {
		all[i] = row
	}
}

// spoilEdges does the same to a list of edges.
func spoilEdges(l []Edge, node int) {
	l = l[:cap(l)]
	for i := range l {
		l[i] = Edge{A: node, B: node}
	}
}

// P12.1, P12.2: results share no memory with an argument, with each other, or with what is returned later, not even in their capacity.
func TestNewMemory(t *testing.T) {
	for _, p := range pairsOfGraphs() {
		want, wantEdges := askAll(p[0], p[1])
		for i := range want {
			want[i].Rows = slices.Clone(want[i].Rows)
		}
		for i := range wantEdges {
			wantEdges[i] = slices.Clone(wantEdges[i])
		}
		a, wholeA := crowded(p[0], 9, 8, 7)
		b, wholeB := crowded(p[1], 9, 8, 7)
		wasA, wasB := slices.Clone(wholeA), slices.Clone(wholeB)
		got, edges := askAll(a, b)
		for i := range got {
			if !same(got[i], want[i]) {
				t.Fatalf("%s and %s: answer %d was changed by another one", brief(p[0]), brief(p[1]), i)
			}
			spoil(got[i], 0xabcd)
		}
		for i := range edges {
			if !slices.Equal(edges[i], wantEdges[i]) {
				t.Fatalf("%s and %s: edges %d were changed by others", brief(p[0]), brief(p[1]), i)
			}
			spoilEdges(edges[i], -9)
		}
		if !slices.Equal(wholeA, wasA) || !slices.Equal(wholeB, wasB) {
			t.Fatalf("%s and %s: an answer shares memory with them", brief(p[0]), brief(p[1]))
		}
		again, edgesAgain := askAll(a, b)
		if !slices.EqualFunc(again, want, same) || !slices.EqualFunc(edgesAgain, wantEdges, slices.Equal[[]Edge]) {
			t.Fatalf("%s and %s: an answer hangs on memory of an earlier one", brief(p[0]), brief(p[1]))
		}
	}
}

// P12.1, P12.2: nothing is kept of a graph: what becomes of it later changes no result.
func TestKeepsNothing(t *testing.T) {
	for _, p := range pairsOfGraphs() {
		want, wantEdges := askAll(p[0], p[1])
		a, _ := crowded(p[0], 9, 8, 7)
		b, _ := crowded(p[1], 9, 8, 7)
		got, edges := askAll(a, b)
		spoil(a, 1)
		spoil(b, full)
		if !slices.EqualFunc(got, want, same) || !slices.EqualFunc(edges, wantEdges, slices.Equal[[]Edge]) {
			t.Fatalf("%s and %s: an answer shares memory with them", brief(p[0]), brief(p[1]))
		}
	}
	g := raw(2, 0, 2)
	checkEdges(t, g, ends(1, 1)...)
	g.Rows[0] = 3
	checkEdges(t, g, ends(0, 0, 0, 1, 1, 1)...)
	g.Rows[1] = 4
	checkRight(t, g, false)
	checkNoEdges(t, g)
	g.Rows[1] = 0
	checkTurn(t, g, raw(2, 1, 1))
}

// P12.1, P12.2: an answer hangs on no earlier one.
func TestTwiceAsked(t *testing.T) {
	g := raw(3, 2, 6, 0)
	for range 3 {
		checkNew(t, 3, raw(3, 0, 0, 0))
		checkNewWrong(t, 65)
		checkNew(t, 0, Graph{})
		checkRight(t, g, true)
		checkRight(t, raw(3, 8, 0, 0), false)
		checkHas(t, g, 1, 2, true)
		checkHas(t, g, 2, 1, false)
		checkHas(t, g, 3, 0, false)
		checkEdges(t, g, ends(0, 1, 1, 1, 1, 2)...)
		checkNoEdges(t, raw(3, 8, 0, 0))
		checkAdd(t, g, 2, 0, raw(3, 2, 6, 1))
		checkAddWrong(t, g, 2, 3)
		checkAdd(t, g, 0, 0, raw(3, 3, 6, 0))
		checkUnion(t, g, raw(3, 0, 3, 2), raw(3, 2, 7, 2))
		checkCompose(t, g, g, raw(3, 6, 6, 0))
		checkBothWrong(t, g, raw(2, 0, 0))
		checkTurn(t, g, raw(3, 0, 3, 2))
		checkTurnWrong(t, raw(3, 0, 0))
	}
}
