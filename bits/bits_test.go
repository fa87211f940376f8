package bits

import (
	"fmt"
	"math/rand"
	"slices"
	"testing"

	"inquest/api"
)

const (
	least = -1 << 63
	most  = 1<<63 - 1
	all   = 1<<64 - 1
)

func ints(l ...int) []int { return l }

func sets(l ...uint64) []uint64 { return l }

// numbers are 0 to 63.
func numbers() []int {
	var l []int
	for i := 0; i <= 63; i++ {
		l = append(l, i)
	}
	return l
}

// noNumbers are no numbers of sets; many are some where only their last bits, or their size, are looked at.
func noNumbers() []int {
	l := ints(least, least+1, least+5, least+63, least+64, -1<<32, -1<<32+5, -1<<31, -1<<31-1, most, most-1, most-58, most-63, most-64, 1<<31, 1<<31-1, 1<<32, 1<<32+5, 1<<32+63, 1<<62)
	for i := 1; i <= 200; i++ {
		l = append(l, -i, 63+i)
	}
	for i := 256; i > 0; i *= 2 {
		l = append(l, i, i+5, -i, 5-i)
	}
	return l
}

// power is 2 to the power of i.
func power(i int) uint64 {
	p := uint64(1)
	for range i {
		p *= 2
	}
	return p
}

// sum is the set of the numbers of a list, by the chapter's words.
func sum(l []int) uint64 {
	s := uint64(0)
	for i := 0; i <= 63; i++ {
		if slices.Contains(l, i) {
			s += power(i)
		}
	}
	return s
}

// elements are the numbers of a set, increasing, by the chapter's words: what is odd after i halvings has i.
func elements(s uint64) []int {
	var l []int
	for i := 0; i <= 63; i++ {
		if s%2 == 1 {
			l = append(l, i)
		}
		s /= 2
	}
	return l
}

// smallSets are all sets of up to n numbers.
func smallSets(n int) []uint64 {
	l := sets(0)
	var grow func(s uint64, from, left int)
	grow = func(s uint64, from, left int) {
		for i := from; i <= 63 && left > 0; i++ {
			l = append(l, s+power(i))
			grow(s+power(i), i+1, left-1)
		}
	}
	grow(0, 0, n)
	return l
}

// runs are all sets of consecutive numbers.
func runs() []uint64 {
	var l []uint64
	for from := 0; from <= 63; from++ {
		s := uint64(0)
		for i := from; i <= 63; i++ {
			s += power(i)
			l = append(l, s)
		}
	}
	return l
}

// chance are n sets by chance, of few numbers, of many, and of about half of them.
func chance(seed int64, n int) []uint64 {
	r := rand.New(rand.NewSource(seed))
	var l []uint64
	for i := range n {
		switch i % 3 {
		case 0:
			l = append(l, r.Uint64())
		case 1:
			l = append(l, r.Uint64()&r.Uint64()&r.Uint64()&r.Uint64())
		default:
			l = append(l, r.Uint64()|r.Uint64()|r.Uint64()|r.Uint64())
		}
	}
	return l
}

// samples are the sets of up to two numbers, those that lack up to two, those of consecutive numbers, and others by chance.
func samples() []uint64 {
	l := append(smallSets(2), runs()...)
	for _, s := range smallSets(2) {
		l = append(l, all-s)
	}
	return append(l, chance(101, 600)...)
}

// fewSamples are some of each kind of samples, with those at the ends.
func fewSamples() []uint64 {
	l := sets(0, 1, 2, 33, 40, 3, 1<<63, 1<<62, 1<<63+1, 1<<32, 1<<31, 1<<32-1, all, all-1, all-1<<63, all-1<<32, all-1<<63-1, all/3, all/3*2)
	for i := 0; i <= 63; i += 7 {
		l = append(l, power(i), all-power(i))
	}
	return append(l, chance(102, 30)...)
}

// brief is how a list is printed where a test fails; a long one is cut off.
func brief(v any) string { return fmt.Sprintf("%.400s", fmt.Sprint(v)) }

func checkOf(t *testing.T, want uint64, l ...int) {
	t.Helper()
	if s, e := Of(l); s != want || e != api.OK {
		t.Fatalf("Of(%s) = %#x, %d, want %#x", brief(l), s, e, want)
	}
}

func checkOfWrong(t *testing.T, l ...int) {
	t.Helper()
	if s, e := Of(l); s != 0 || e != api.ErrArg {
		t.Fatalf("Of(%s) = %#x, %d, want 0 and ErrArg", brief(l), s, e)
	}
}

func checkList(t *testing.T, s uint64, want ...int) {
	t.Helper()
	if got := List(s); !slices.Equal(got, want) {
		t.Fatalf("List(%#x) = %v, want %v", s, got, want)
	}
}

func checkHas(t *testing.T, s uint64, i int, want bool) {
	t.Helper()
	if got := Has(s, i); got != want {
		t.Fatalf("Has(%#x, %d) = %v", s, i, got)
	}
}

func checkWith(t *testing.T, s uint64, i int, want uint64) {
	t.Helper()
	if got := With(s, i); got != want {
		t.Fatalf("With(%#x, %d) = %#x, want %#x", s, i, got, want)
	}
}

func checkWithout(t *testing.T, s uint64, i int, want uint64) {
	t.Helper()
	if got := Without(s, i); got != want {
		t.Fatalf("Without(%#x, %d) = %#x, want %#x", s, i, got, want)
	}
}

func checkLeast(t *testing.T, s uint64, want int) {
	t.Helper()
	if got := Least(s); got != want {
		t.Fatalf("Least(%#x) = %d, want %d", s, got, want)
	}
}

func checkCount(t *testing.T, s uint64, want int) {
	t.Helper()
	if got := Count(s); got != want {
		t.Fatalf("Count(%#x) = %d, want %d", s, got, want)
	}
}

func checkSub(t *testing.T, a, b uint64, want bool) {
	t.Helper()
	if got := Sub(a, b); got != want {
		t.Fatalf("Sub(%#x, %#x) = %v", a, b, got)
	}
}

func checkJoin(t *testing.T, want uint64, l ...uint64) {
	t.Helper()
	if got := Join(l...); got != want {
		t.Fatalf("Join(%s) = %#x, want %#x", brief(l), got, want)
	}
}

// P10.1: the set of no number, of one, of two or twice the same, and of all.
func TestOf(t *testing.T) {
	checkOf(t, 33, 5, 0, 5)
	checkOf(t, 0)
	checkOf(t, 0, ints()...)
	checkOf(t, 1, 0)
	checkOf(t, 1<<63, 63)
	checkOf(t, 1<<63+1, 0, 63)
	checkOf(t, 1<<63+1, 63, 0)
	checkOf(t, 1<<32+1<<31, 31, 32)
	for i := 0; i <= 63; i++ {
		checkOf(t, power(i), i)
		for j := 0; j <= 63; j++ {
			checkOf(t, sum(ints(i, j)), i, j)
			checkOf(t, sum(ints(i, j)), j, i, j)
			checkOf(t, sum(ints(i, j)), i, i, j, j, i)
		}
	}
	checkOf(t, all, numbers()...)
	checkOf(t, all, slices.Repeat(numbers(), 3)...)
	for i := 0; i <= 63; i++ {
		checkOf(t, all-power(i), slices.Delete(numbers(), i, i+1)...)
	}
}

// P10.1: duplicates count once, however many there are.
func TestOfDuplicates(t *testing.T) {
	for _, n := range ints(2, 3, 4, 63, 64, 65, 255, 256, 1000) {
		for i := 0; i <= 63; i++ {
			checkOf(t, power(i), slices.Repeat(ints(i), n)...)
		}
		checkOf(t, 33, slices.Repeat(ints(5, 0), n)...)
		checkOf(t, 1<<63+1, append(slices.Repeat(ints(63), n), 0)...)
	}
	checkOf(t, 1<<63+1<<7+1, slices.Repeat(ints(63, 7, 0), 30_000)...)
}

// P10.1: lists by chance, in any order.
func TestOfByChance(t *testing.T) {
	r := rand.New(rand.NewSource(103))
	for range 3000 {
		l := make([]int, r.Intn(100))
		span := 1 + r.Intn(64)
		for i := range l {
			l[i] = 64 - span + r.Intn(span)
		}
		checkOf(t, sum(l), l...)
	}
	for range 200 {
		checkOf(t, all, r.Perm(64)...)
	}
}

// P10.1: a number that no set has, in the first, a middle and the last place, is an error, and the set is 0.
func TestOfWrong(t *testing.T) {
	for _, wrong := range noNumbers() {
		checkOfWrong(t, wrong)
		checkOfWrong(t, wrong, wrong)
		for _, l := range [][]int{{0}, {63}, {5, 0}, {5, 0, 5}, {63, 0, 31, 32}, numbers()} {
			for at := 0; at <= len(l); at++ {
				checkOfWrong(t, slices.Insert(slices.Clone(l), at, wrong)...)
			}
			for at := range l {
				m := slices.Clone(l)
				m[at] = wrong
				checkOfWrong(t, m...)
			}
		}
	}
	for _, wrong := range [][]int{{-1, 64}, {64, -1}, {least, most}, {most, least}, {64, 64, 64}, {-1, 1}, {64, 0, -64}} {
		checkOfWrong(t, wrong...)
		checkOfWrong(t, append(numbers(), wrong...)...)
		checkOfWrong(t, append(slices.Clone(wrong), numbers()...)...)
	}
	for at := range 1001 {
		checkOfWrong(t, slices.Insert(slices.Repeat(ints(3), 1000), at, 64)...)
	}
}

// P10.1: the numbers of a set, in increasing order.
func TestList(t *testing.T) {
	checkList(t, 0)
	checkList(t, 33, 0, 5)
	checkList(t, 1<<63+33, 0, 5, 63)
	checkList(t, all, numbers()...)
	checkList(t, all-1, numbers()[1:]...)
	checkList(t, all-1<<63, numbers()[:63]...)
	for i := 0; i <= 63; i++ {
		checkList(t, power(i), i)
		checkList(t, all-power(i), slices.Delete(numbers(), i, i+1)...)
		for j := i + 1; j <= 63; j++ {
			checkList(t, power(i)+power(j), i, j)
		}
	}
	for _, s := range samples() {
		checkList(t, s, elements(s)...)
	}
}

// P10.1: a set has its elements, and no other number.
func TestHas(t *testing.T) {
	for _, i := range ints(0, 5) {
		checkHas(t, 33, i, true)
	}
	for _, i := range ints(1, 4, 6, 32, 33, 63) {
		checkHas(t, 33, i, false)
	}
	for _, s := range samples() {
		l := elements(s)
		for i := 0; i <= 63; i++ {
			checkHas(t, s, i, slices.Contains(l, i))
		}
	}
}

// P10.1: With and Without, of numbers that are elements and of others.
func TestWithAndWithout(t *testing.T) {
	checkWith(t, 1, 5, 33)
	checkWith(t, 33, 5, 33)
	checkWith(t, 0, 0, 1)
	checkWith(t, 0, 63, 1<<63)
	checkWith(t, 1, 63, 1<<63+1)
	checkWithout(t, 33, 5, 1)
	checkWithout(t, 33, 4, 33)
	checkWithout(t, 33, 0, 32)
	checkWithout(t, 1<<63, 63, 0)
	checkWithout(t, 1, 0, 0)
	for _, s := range samples() {
		l := elements(s)
		for i := 0; i <= 63; i++ {
			if slices.Contains(l, i) {
				checkWith(t, s, i, s)
				checkWithout(t, s, i, s-power(i))
			} else {
				checkWith(t, s, i, s+power(i))
				checkWithout(t, s, i, s)
			}
		}
	}
}

// P10.1: a number that no set has is no element, and changes nothing.
func TestOneWrong(t *testing.T) {
	for _, i := range append(noNumbers(), -1, 64, least, most) {
		for _, s := range append(fewSamples(), runs()[:100]...) {
			checkHas(t, s, i, false)
			checkWith(t, s, i, s)
			checkWithout(t, s, i, s)
		}
	}
	for _, i := range ints(-1, 64, least, most) {
		for _, s := range samples() {
			checkHas(t, s, i, false)
			checkWith(t, s, i, s)
			checkWithout(t, s, i, s)
		}
	}
}

// P10.2: the least element; of the empty set, -1.
func TestLeast(t *testing.T) {
	checkLeast(t, 0, -1)
	checkLeast(t, 40, 3)
	checkLeast(t, 33, 0)
	checkLeast(t, all, 0)
	for i := 0; i <= 63; i++ {
		checkLeast(t, power(i), i)
		checkLeast(t, all-(power(i)-1), i)
		for j := i; j <= 63; j++ {
			checkLeast(t, sum(ints(i, j)), i)
		}
	}
	for _, s := range samples() {
		if s != 0 {
			checkLeast(t, s, elements(s)[0])
		}
	}
}

// P10.2: how many elements there are, from none to all.
func TestCount(t *testing.T) {
	checkCount(t, 0, 0)
	checkCount(t, 33, 2)
	checkCount(t, all, 64)
	r := rand.New(rand.NewSource(104))
	for n := 0; n <= 64; n++ {
		checkCount(t, sum(numbers()[:n]), n)
		checkCount(t, sum(numbers()[64-n:]), n)
		for range 20 {
			checkCount(t, sum(r.Perm(64)[:n]), n)
		}
	}
	for _, s := range samples() {
		checkCount(t, s, len(elements(s)))
	}
}

// subByWords reports whether each element of a is one of b.
func subByWords(a, b uint64) bool {
	other := elements(b)
	return !slices.ContainsFunc(elements(a), func(i int) bool { return !slices.Contains(other, i) })
}

// P10.2: the subsets: of the example, of the empty set, of a set itself, of disjoint ones.
func TestSub(t *testing.T) {
	checkSub(t, 1, 33, true)
	checkSub(t, 33, 1, false)
	checkSub(t, 3, 33, false)
	checkSub(t, 0, 0, true)
	checkSub(t, 0, all, true)
	checkSub(t, all, 0, false)
	checkSub(t, 32, 33, true)
	checkSub(t, 2, 33, false)
	for i := 0; i <= 63; i++ {
		checkSub(t, power(i), all-power(i), false)
		checkSub(t, all-power(i), power(i), false)
		for j := 0; j <= 63; j++ {
			checkSub(t, power(i), power(j), i == j)
			checkSub(t, power(i), all-power(j), i != j)
			checkSub(t, all-power(i), all-power(j), i == j)
		}
	}
	for _, s := range samples() {
		checkSub(t, 0, s, true)
		checkSub(t, s, s, true)
		checkSub(t, s, all, true)
		checkSub(t, s, 0, s == 0)
		checkSub(t, s, all-s, s == 0)
		checkSub(t, all, s, s == all)
	}
}

// P10.2: a set and the same without one of its elements, or with one more, are subsets one way only.
func TestSubLacksOne(t *testing.T) {
	for _, s := range fewSamples() {
		for i := 0; i <= 63; i++ {
			small, great := s, s
			if slices.Contains(elements(s), i) {
				small -= power(i)
			} else {
				great += power(i)
			}
			checkSub(t, small, great, true)
			checkSub(t, great, small, false)
		}
	}
}

// P10.2: any two sets.
func TestSubByWords(t *testing.T) {
	counts := map[bool]int{}
	r := rand.New(rand.NewSource(105))
	l := append(fewSamples(), smallSets(1)...)
	for _, s := range fewSamples() {
		l = append(l, s&r.Uint64(), s|r.Uint64())
	}
	for _, a := range l {
		for _, b := range l {
			want := subByWords(a, b)
			counts[want]++
			checkSub(t, a, b, want)
		}
	}
	for small := range uint64(32) {
		for great := range uint64(32) {
			checkSub(t, small, great, subByWords(small, great))
			checkSub(t, small<<59, great<<59, subByWords(small, great))
		}
	}
	if counts[true] < 1000 || counts[false] < 1000 {
		t.Error(counts)
	}
}

// joinByWords is the set of what is an element of some of the sets.
func joinByWords(l []uint64) uint64 {
	var each []int
	for _, s := range l {
		each = append(each, elements(s)...)
	}
	return sum(each)
}

// P10.2: the union of no set, of one, of two that share elements, and of many.
func TestJoin(t *testing.T) {
	checkJoin(t, 0)
	checkJoin(t, 0, sets()...)
	if got := Join(); got != 0 {
		t.Errorf("Join() = %#x", got)
	}
	checkJoin(t, 33, 1, 32)
	checkJoin(t, 33, 1, 32, 1)
	checkJoin(t, 0, 0)
	checkJoin(t, 0, 0, 0, 0)
	checkJoin(t, 1<<63+1, 1, 0, 1<<63)
	for _, s := range samples() {
		checkJoin(t, s, s)
		checkJoin(t, s, s, s)
		checkJoin(t, s, 0, s)
		checkJoin(t, s, s, 0)
		checkJoin(t, all, s, all)
		checkJoin(t, all, all-s, s)
	}
	var ones []uint64
	for i := 0; i <= 63; i++ {
		ones = append(ones, power(i))
		checkJoin(t, sum(numbers()[:i+1]), ones...)
		for j := 0; j <= 63; j++ {
			checkJoin(t, sum(ints(i, j)), power(i), power(j))
		}
	}
	for i := range ones {
		checkJoin(t, all-power(i), slices.Delete(slices.Clone(ones), i, i+1)...)
	}
	for _, a := range fewSamples() {
		for _, b := range fewSamples() {
			checkJoin(t, joinByWords(sets(a, b)), a, b)
		}
	}
}

// P10.2: the union of many sets by chance, of one among many empty ones, and of very many.
func TestJoinMany(t *testing.T) {
	few := chance(106, 2000)
	for i := range few {
		few[i] &= few[(7*i+1)%len(few)] & few[(11*i+2)%len(few)]
	}
	for n := range 40 {
		for from := 0; from+n <= len(few); from += 97 {
			l := few[from : from+n]
			checkJoin(t, joinByWords(l), l...)
		}
	}
	for _, n := range ints(1, 2, 3, 64, 65, 1000) {
		for _, at := range ints(0, n/2, n) {
			checkJoin(t, 1<<63+33, slices.Insert(make([]uint64, n), at, 1<<63+33)...)
		}
	}
	checkJoin(t, 1<<63+33, slices.Repeat(sets(1, 32, 1<<63), 30_000)...)
}

// P10.3: Of returns the set whose List it is given.
func TestOfList(t *testing.T) {
	check := func(s uint64) {
		t.Helper()
		checkOf(t, s, List(s)...)
	}
	for _, s := range smallSets(3) {
		check(s)
		check(all - s)
	}
	for _, s := range append(runs(), chance(107, 20_000)...) {
		check(s)
	}
	for s := range uint64(1 << 14) {
		check(s)
		check(s << 50)
	}
}

// P10.3: no two sets have the same elements, whether List or Has tells them.
func TestDetermined(t *testing.T) {
	byList, byHas := map[string]uint64{}, map[[64]bool]uint64{}
	for _, s := range append(samples(), chance(108, 3000)...) {
		name := fmt.Sprint(List(s))
		if other, is := byList[name]; is && other != s {
			t.Fatalf("%#x and %#x: %s", s, other, name)
		}
		byList[name] = s
		var has [64]bool
		for i := range has {
			has[i] = Has(s, i)
		}
		if other, is := byHas[has]; is && other != s {
			t.Fatalf("%#x and %#x: %v", s, other, has)
		}
		byHas[has] = s
	}
	if len(byList) != len(byHas) || len(byList) < 7000 {
		t.Error(len(byList), len(byHas))
	}
}

// P10.3: what List, Has, Least, Count, With and Without tell of one set agrees.
func TestAgree(t *testing.T) {
	for _, s := range samples() {
		built, rest := uint64(0), s
		for n, i := range List(s) {
			checkHas(t, s, i, true)
			checkLeast(t, rest, i)
			checkCount(t, rest, len(List(s))-n)
			built, rest = With(built, i), Without(rest, i)
			checkSub(t, built, s, true)
			checkSub(t, rest, s, true)
			checkJoin(t, s, built, rest)
		}
		if built != s || rest != 0 {
			t.Fatalf("%#x: %#x is built and %#x is left", s, built, rest)
		}
	}
}

// eachOrder calls a function with each order of a list.
func eachOrder(l []uint64, at int, call func([]uint64)) {
	if at == len(l) {
		call(l)
		return
	}
	for i := at; i < len(l); i++ {
		l[at], l[i] = l[i], l[at]
		eachOrder(l, at+1, call)
		l[at], l[i] = l[i], l[at]
	}
}

// P10.3: the order in which sets are joined is irrelevant, and so is in which groups they are.
func TestJoinOrder(t *testing.T) {
	for _, l := range [][]uint64{{1, 32, 33}, {0, 1 << 63, 1, 0}, {3, 6, 12, 24, 48}, {all, 0, 1, 1 << 63}, {1<<63 + 33, 40, 40, 7, 1 << 32, 96}} {
		want := joinByWords(l)
		eachOrder(slices.Clone(l), 0, func(order []uint64) { checkJoin(t, want, order...) })
	}
	r := rand.New(rand.NewSource(109))
	for n := range 30 {
		l := chance(int64(n), n)
		for i := range l {
			l[i] &= power(r.Intn(64)) + power(r.Intn(64)) + 33
		}
		want := joinByWords(l)
		for range 20 {
			r.Shuffle(n, func(i, j int) { l[i], l[j] = l[j], l[i] })
			checkJoin(t, want, l...)
			cut := r.Intn(n + 1)
			checkJoin(t, want, Join(l[:cut]...), Join(l[cut:]...))
			checkJoin(t, want, append(sets(Join(l[cut:]...)), l[:cut]...)...)
		}
	}
}

// crowded is a list with others behind it in its capacity, and all of both.
func crowded[T any](list []T, others ...T) ([]T, []T) {
	whole := append(slices.Clone(list), others...)
	return whole[:len(list)], whole
}

// P10.1: Of leaves its list as it is, with what stands behind it in its capacity, which it does not read either.
func TestOfLeaves(t *testing.T) {
	r := rand.New(rand.NewSource(110))
	for n := range 200 {
		var l []int
		for range n {
			l = append(l, r.Intn(64))
		}
		if n%4 == 3 {
			l[r.Intn(n)] = noNumbers()[n]
		}
		for _, others := range [][]int{{63, 62, 0, 5, 1}, {-1, 64, least, most}, nil} {
			list, whole := crowded(l, others...)
			was := slices.Clone(whole)
			for range 2 {
				if n%4 == 3 {
					checkOfWrong(t, list...)
				} else {
					checkOf(t, sum(l), list...)
				}
			}
			if !slices.Equal(whole, was) {
				t.Fatalf("%v, was %v", whole, was)
			}
		}
	}
}

// P10.2: Join leaves its sets as they are, with what stands behind them in their capacity, which it does not read either.
func TestJoinLeaves(t *testing.T) {
	for n := range 200 {
		l := smallSets(1)
		l = append(l, l...)[n%60 : n%60+n/3]
		for _, others := range [][]uint64{{all, 0, 33, 1 << 63}, {0, 0}, nil} {
			list, whole := crowded(l, others...)
			was := slices.Clone(whole)
			for range 2 {
				checkJoin(t, joinByWords(l), list...)
			}
			if !slices.Equal(whole, was) {
				t.Fatalf("%v, was %v", whole, was)
			}
		}
	}
}

// P10.1, P10.2: nothing is kept of a list: what becomes of it later changes no answer.
func TestKeepsNothing(t *testing.T) {
	l, m := ints(5, 0, 5), sets(1, 32)
	s, e := Of(l)
	u := Join(m...)
	l[0], m[0] = 7, 64
	if s != 33 || e != api.OK || u != 33 {
		t.Error(s, e, u)
	}
	checkOf(t, 1<<7+33, l...)
	checkJoin(t, 96, m...)
	checkOf(t, 33, 5, 0)
}

// fill puts v into a whole list, and behind it up to its capacity.
func fill(list []int, v int) {
	list = list[:cap(list)]
	for i := range list {
		list[i] = v
	}
}

// P10.1: what List returns shares no memory with what it returns otherwise, not even behind it in its capacity.
func TestListNewMemory(t *testing.T) {
	l := append(fewSamples(), fewSamples()...)
	var kept [][]int
	for _, s := range l {
		fill(List(s), -9)
		kept = append(kept, List(s))
		fill(List(s), 64)
	}
	for i, s := range l {
		if !slices.Equal(kept[i], elements(s)) {
			t.Fatalf("%#x: %v, want %v", s, kept[i], elements(s))
		}
		fill(kept[i], -9)
		checkList(t, s, elements(s)...)
		// What Of is given may be what List returned.
		again := List(s)
		checkOf(t, s, again...)
		if !slices.Equal(again, elements(s)) {
			t.Fatalf("%#x: %v, want %v", s, again, elements(s))
		}
	}
}

// P10.1, P10.2: an answer hangs on no earlier one.
func TestTwiceAsked(t *testing.T) {
	for range 3 {
		checkOf(t, 33, 5, 0, 5)
		checkOfWrong(t, 5, 64)
		checkOf(t, 0)
		checkOfWrong(t, -1)
		checkOf(t, 1<<63, 63)
		checkList(t, 33, 0, 5)
		checkList(t, 0)
		checkList(t, 40, 3, 5)
		checkHas(t, 33, 5, true)
		checkHas(t, 33, 64, false)
		checkWith(t, 1, 5, 33)
		checkWith(t, 1, 64, 1)
		checkWithout(t, 33, 5, 1)
		checkWithout(t, 33, -1, 33)
		checkLeast(t, 40, 3)
		checkLeast(t, 0, -1)
		checkCount(t, all, 64)
		checkCount(t, 33, 2)
		checkSub(t, 1, 33, true)
		checkSub(t, 33, 1, false)
		checkJoin(t, 33, 1, 32)
		checkJoin(t, 0)
	}
}
