package stack

import (
	"errors"
	"fmt"
	"math"
	"math/rand"
	"reflect"
	"runtime"
	"slices"
	"strings"
	"testing"
	"weak"

	"inquest/api"
)

const (
	least = -1 << 63
	most  = 1<<63 - 1
)

func ints(l ...int) []int { return l }

// noRoom are numbers below which, and at which, a stack takes nothing; some are above 0 where only their last bits are looked at.
func noRoom() []int {
	return ints(0, -1, -2, -3, -64, -255, -256, least, least+1, least+2, least+64, -1<<62, -1<<32, -1<<32+1, -1<<32+5, -1<<31, -1<<31-1, -1<<31+1)
}

// muchRoom are numbers that no test reaches by pushing; some are small, or below 0, where only their last bits are looked at.
func muchRoom() []int {
	return ints(most, most-1, most-2, 1<<62, 1<<62+1, 1<<48, 1<<32, 1<<32+1, 1<<32-1, 1<<31, 1<<31-1, 1<<20, 1<<16)
}

// brief is how a value is printed where a test fails; a long one is cut off.
func brief(v any) string { return fmt.Sprintf("%.400s", fmt.Sprint(v)) }

// same tells whether two values of any type are the same.
func same[T any](a, b T) bool { return reflect.DeepEqual(a, b) }

// numbered are the numbers from n down to 1.
func numbered(n int) []int {
	var l []int
	for i := n; i > 0; i-- {
		l = append(l, i)
	}
	return l
}

// turned is a list the other way round.
func turned[T any](l []T) []T {
	l = slices.Clone(l)
	slices.Reverse(l)
	return l
}

func checkLen[T any](t *testing.T, s *Stack[T], want int) {
	t.Helper()
	if n := s.Len(); n != want {
		t.Fatalf("Len() = %d, want %d", n, want)
	}
}

func checkAll[T any](t *testing.T, s *Stack[T], want ...T) {
	t.Helper()
	l := s.All()
	if len(l) != len(want) {
		t.Fatalf("All() = %s, want %s", brief(l), brief(want))
	}
	for i := range want {
		if !same(l[i], want[i]) {
			t.Fatalf("All()[%d] = %s, want %s", i, brief(l[i]), brief(want[i]))
		}
	}
}

func checkTop[T any](t *testing.T, s *Stack[T], want T) {
	t.Helper()
	if x, is := s.Top(); !is || !same(x, want) {
		t.Fatalf("Top() = %s, %v, want %s", brief(x), is, brief(want))
	}
}

func checkPop[T any](t *testing.T, s *Stack[T], want T) {
	t.Helper()
	if x, is := s.Pop(); !is || !same(x, want) {
		t.Fatalf("Pop() = %s, %v, want %s", brief(x), is, brief(want))
	}
}

func checkNoTop[T any](t *testing.T, s *Stack[T]) {
	t.Helper()
	var zero T
	if x, is := s.Top(); is || !same(x, zero) {
		t.Fatalf("Top() = %s, %v, want nothing", brief(x), is)
	}
}

func checkNoPop[T any](t *testing.T, s *Stack[T]) {
	t.Helper()
	var zero T
	if x, is := s.Pop(); is || !same(x, zero) {
		t.Fatalf("Pop() = %s, %v, want nothing", brief(x), is)
	}
}

func checkPush[T any](t *testing.T, s *Stack[T], l ...T) {
	t.Helper()
	for _, x := range l {
		if !s.Push(x) {
			t.Fatalf("Push(%s) = false", brief(x))
		}
	}
}

func checkNoPush[T any](t *testing.T, s *Stack[T], x T) {
	t.Helper()
	if s.Push(x) {
		t.Fatalf("Push(%s) = true", brief(x))
	}
}

// checkHas checks all that a stack tells without being changed: that it has these values, the lowest one first.
func checkHas[T any](t *testing.T, s *Stack[T], want ...T) {
	t.Helper()
	checkLen(t, s, len(want))
	checkAll(t, s, want...)
	if len(want) == 0 {
		checkNoTop(t, s)
	} else {
		checkTop(t, s, want[len(want)-1])
	}
	checkLen(t, s, len(want))
	checkAll(t, s, want...)
}

// P11.1, P11.2: the chapter's example.
func TestExample(t *testing.T) {
	for _, s := range []*Stack[int]{New[int](2), Ints(2)} {
		if !s.Push(5) || !s.Push(6) || s.Push(7) {
			t.Error("Push")
		}
		if x, is := s.Pop(); x != 6 || !is {
			t.Error(x, is)
		}
		if x, is := s.Top(); x != 5 || !is {
			t.Error(x, is)
		}
		checkHas(t, s, 5)
	}
}

// checkRoom checks that a stack is empty and takes just so many values, once and again.
func checkRoom(t *testing.T, s *Stack[int], room int) {
	t.Helper()
	l := numbered(room)
	for range 2 {
		checkHas(t, s)
		checkNoPop(t, s)
		checkPush(t, s, l...)
		checkNoPush(t, s, 77)
		checkHas(t, s, l...)
		for _, x := range turned(l) {
			checkPop(t, s, x)
		}
	}
}

// P11.1: New and Ints return an empty stack with room for most values, none if most is below 0.
func TestRoom(t *testing.T) {
	checkRoom(t, New[int](1), 1)
	checkRoom(t, Ints(1), 1)
	checkRoom(t, New[int](2), 2)
	checkRoom(t, Ints(2), 2)
	for n := range 140 {
		checkRoom(t, New[int](n), n)
		checkRoom(t, Ints(n), n)
	}
	for _, n := range ints(255, 256, 257, 1000, 4096, 65_537) {
		checkRoom(t, New[int](n), n)
		checkRoom(t, Ints(n), n)
	}
}

// P11.1: with a most of 0 or less nothing is pushed, and nothing is there to be popped.
func TestNoRoom(t *testing.T) {
	for _, n := range noRoom() {
		for _, s := range []*Stack[int]{New[int](n), Ints(n)} {
			checkRoom(t, s, 0)
			for i := range 5 {
				checkNoPush(t, s, i-1)
				checkHas(t, s)
				checkNoPop(t, s)
			}
		}
		texts := New[string](n)
		checkNoPush(t, texts, "a")
		checkNoPush(t, texts, "")
		checkHas(t, texts)
		checkNoPop(t, texts)
	}
}

// P11.1: a stack may have more room than there is memory: it takes what is pushed, and no memory for the rest.
func TestMuchRoom(t *testing.T) {
	l := numbered(3000)
	for _, n := range muchRoom() {
		for _, s := range []*Stack[int]{New[int](n), Ints(n)} {
			checkHas(t, s)
			checkPush(t, s, l...)
			checkHas(t, s, l...)
			for _, x := range turned(l) {
				checkPop(t, s, x)
			}
			checkNoPop(t, s)
		}
	}
	var kept []*Stack[[64]int]
	for range 1000 {
		kept = append(kept, New[[64]int](most), New[[64]int](1<<32))
	}
	for _, s := range kept {
		checkPush(t, s, [64]int{5})
		checkHas(t, s, [64]int{5})
	}
}

// P11.1: Ints is a stack of numbers, of all of them.
func TestInts(t *testing.T) {
	var s *Stack[int] = Ints(6)
	l := ints(0, -1, most, least, 0, 5)
	checkPush(t, s, l...)
	checkNoPush(t, s, 0)
	checkHas(t, s, l...)
	for _, x := range turned(l) {
		checkTop(t, s, x)
		checkPop(t, s, x)
	}
	checkHas(t, s)
}

// checkType checks stacks of values of one type: each with room for all of them, for all but one, and so on.
func checkType[T any](t *testing.T, l ...T) {
	t.Helper()
	for room := range len(l) + 1 {
		s := New[T](room)
		checkHas(t, s)
		checkNoPop(t, s)
		for i, x := range l {
			if i < room {
				checkPush(t, s, x)
			} else {
				checkNoPush(t, s, x)
			}
			checkHas(t, s, l[:min(i+1, room)]...)
		}
		for i := room - 1; i >= 0; i-- {
			checkPop(t, s, l[i])
			checkHas(t, s, l[:i]...)
			checkPush(t, s, l[len(l)-1])
			checkPop(t, s, l[len(l)-1])
			checkHas(t, s, l[:i]...)
		}
		checkNoPop(t, s)
		checkNoTop(t, s)
	}
}

type pair struct {
	name string
	list []int
}

// P11.1, P11.2: values of any type, among them the zero value, which is not the same as nothing.
func TestTypes(t *testing.T) {
	checkType(t, 5, 0, -1, 0, most, least)
	checkType(t, uint8(0), 255, 1, 0)
	checkType(t, 0.0, 1.5, math.Inf(1), -1.5)
	checkType(t, 1i, 0, 2+3i)
	checkType(t, true, false, false, true)
	checkType(t, "", "a", "ab", "", "\x00", strings.Repeat("c", 1000))
	checkType(t, api.Choice{Key: 1, A: 2, B: 3}, api.Choice{}, api.Choice{Key: 4})
	checkType(t, pair{"a", ints(1, 2)}, pair{}, pair{"b", nil}, pair{"", ints(3)})
	checkType(t, ints(1), nil, ints(), ints(1, 2, 3), nil)
	checkType(t, [][]string{{"a"}, {}, nil}, nil, [][]string{})
	checkType(t, [3]int{1, 2, 3}, [3]int{}, [3]int{0, 0, 1})
	checkType(t, map[int]string{1: "a"}, nil, map[int]string{})
	checkType(t, new(int), nil, new(int))
	checkType[error](t, api.ErrArg, nil, errors.New("a"), api.OK)
	checkType[any](t, 1, nil, "a", ints(1), 0, "", struct{}{})
	checkType(t, struct{}{}, struct{}{}, struct{}{}, struct{}{})
	checkType(t, [0]int{}, [0]int{}, [0]int{})
	checkType(t, New[int](3), nil, Ints(2))
}

// P11.1: values that are not equal to themselves, or can't be compared at all, are pushed and popped as all others.
func TestIncomparable(t *testing.T) {
	s := New[float64](2)
	checkPush(t, s, math.NaN(), math.NaN())
	checkNoPush(t, s, math.NaN())
	for range 2 {
		if x, is := s.Pop(); !is || x == x {
			t.Error(x, is)
		}
	}
	checkNoPop(t, s)
	calls := New[func() int](3)
	for i := range 3 {
		checkPush(t, calls, func() int { return i + 1 })
	}
	for i := range 3 {
		if call, is := calls.Pop(); !is || call() != 3-i {
			t.Error(i, is)
		}
	}
	if call, is := calls.Top(); is || call != nil {
		t.Error(is)
	}
	if call, is := calls.Pop(); is || call != nil {
		t.Error(is)
	}
}

// P11.1: Push puts a value on top: of an empty stack, and of one with room for one more.
func TestPush(t *testing.T) {
	for room := 1; room < 60; room++ {
		s := New[int](room)
		var l []int
		for i := range room {
			checkPush(t, s, 9-i)
			l = append(l, 9-i)
			checkHas(t, s, l...)
		}
	}
}

// P11.1: Push on a full stack returns false and changes nothing, however often.
func TestPushFull(t *testing.T) {
	for _, room := range ints(1, 2, 3, 4, 5, 7, 8, 9, 15, 16, 17, 31, 32, 33, 63, 64, 65, 1000) {
		s := Ints(room)
		l := numbered(room)
		checkPush(t, s, l...)
		for i := range 20 {
			checkNoPush(t, s, -1-i)
			checkHas(t, s, l...)
		}
		checkNoPush(t, s, l[room-1])
		checkNoPush(t, s, l[0])
		checkHas(t, s, l...)
		for _, x := range turned(l) {
			checkPop(t, s, x)
		}
		checkNoPop(t, s)
	}
}

// P11.1: a full stack from which values are popped has room for just as many.
func TestPushAfterPop(t *testing.T) {
	for _, room := range ints(1, 2, 3, 4, 5, 8, 16, 17, 33) {
		for popped := 1; popped <= room; popped++ {
			s := Ints(room)
			l := numbered(room)
			checkPush(t, s, l...)
			checkNoPush(t, s, 70)
			for i := range popped {
				checkPop(t, s, l[room-1-i])
			}
			l = l[:room-popped]
			checkHas(t, s, l...)
			for i := range popped {
				checkPush(t, s, 80+i)
				l = append(l, 80+i)
				checkHas(t, s, l...)
			}
			checkNoPush(t, s, 90)
			checkHas(t, s, l...)
		}
	}
}

// P11.1: Pop and Top of an empty stack return the zero value and false, and give no room.
func TestEmpty(t *testing.T) {
	for room := range 40 {
		s := Ints(room)
		l := numbered(room)
		for range 3 {
			for range room + 3 {
				checkNoPop(t, s)
				checkNoTop(t, s)
				checkHas(t, s)
			}
			checkPush(t, s, l...)
			checkNoPush(t, s, 5)
			checkNoPush(t, s, 6)
			checkHas(t, s, l...)
			for _, x := range turned(l) {
				checkPop(t, s, x)
			}
		}
	}
}

// P11.1: Top removes nothing: of one value, and of many.
func TestTop(t *testing.T) {
	s := Ints(50)
	for i := range 50 {
		checkPush(t, s, i)
		for range 5 {
			checkTop(t, s, i)
		}
		checkLen(t, s, i+1)
	}
	for i := 49; i >= 0; i-- {
		for range 5 {
			checkTop(t, s, i)
		}
		checkLen(t, s, i+1)
		checkPop(t, s, i)
	}
	checkNoTop(t, s)
}

// P11.1: Pop removes one value only, and of a single one leaves an empty stack.
func TestPop(t *testing.T) {
	for room := 1; room < 60; room++ {
		s := Ints(room)
		checkPush(t, s, 7)
		checkPop(t, s, 7)
		checkHas(t, s)
		checkNoPop(t, s)
		l := numbered(room)
		checkPush(t, s, l...)
		for left := room - 1; left >= 0; left-- {
			checkPop(t, s, l[left])
			checkHas(t, s, l[:left]...)
		}
		checkNoPop(t, s)
	}
}

// P11.2: Len and All after each Push and each Pop, of equal values too; All has the lowest one first.
func TestLenAndAll(t *testing.T) {
	for _, l := range [][]int{{}, {4}, {1, 2}, {2, 1}, {5, 5, 5}, {1, 2, 1, 2}, {3, 1, 2}, {0, 0}, numbered(300)} {
		s := Ints(len(l))
		checkLen(t, s, 0)
		checkAll(t, s)
		for n, x := range l {
			checkPush(t, s, x)
			checkLen(t, s, n+1)
			checkAll(t, s, l[:n+1]...)
		}
		for n := len(l) - 1; n >= 0; n-- {
			checkPop(t, s, l[n])
			checkLen(t, s, n)
			checkAll(t, s, l[:n]...)
		}
	}
}

// fill puts v into a whole list, and behind it up to its capacity.
func fill[T any](list []T, v T) {
	list = list[:cap(list)]
	for i := range list {
		list[i] = v
	}
}

// checkNewMemory checks that a change of what All returns, or behind it in its capacity, changes nothing of a stack of the values of l, nor what All returned before; no value of l is wrong.
func checkNewMemory[T any](t *testing.T, l []T, wrong T) {
	t.Helper()
	s := New[T](len(l))
	for n := range len(l) + 1 {
		first, second := s.All(), s.All()
		fill(first, wrong)
		checkHas(t, s, l[:n]...)
		if len(second) != n || n > 0 && !same(second, l[:n]) {
			t.Fatalf("%s, want %s", brief(second), brief(l[:n]))
		}
		third := append(s.All(), wrong)
		fill(third, wrong)
		checkHas(t, s, l[:n]...)
		fill(second, wrong)
		if n < len(l) {
			checkPush(t, s, l[n])
			checkHas(t, s, l[:n+1]...)
			if !same(third[n], wrong) || n > 0 && !same(first[n-1], wrong) {
				t.Fatalf("%s and %s after a Push", brief(first), brief(third))
			}
		}
	}
	for n := len(l) - 1; n >= 0; n-- {
		kept, other := s.All(), s.All()
		fill(other, wrong)
		checkPop(t, s, l[n])
		checkHas(t, s, l[:n]...)
		if !same(kept, l[:n+1]) || !same(other[n], wrong) {
			t.Fatalf("%s and %s after a Pop", brief(kept), brief(other))
		}
	}
	checkNoPop(t, s)
}

// P11.2: All returns new memory: of values of each size, since lists of small ones have more capacity behind them.
func TestAllNewMemory(t *testing.T) {
	for n := range 70 {
		l := numbered(n)
		var bytes []uint8
		var texts []string
		var choices []api.Choice
		for _, i := range l {
			bytes = append(bytes, uint8(i))
			texts = append(texts, fmt.Sprint(i))
			choices = append(choices, api.Choice{Key: i, A: i + 1, B: i + 2})
		}
		checkNewMemory(t, l, -9)
		checkNewMemory(t, bytes, 255)
		checkNewMemory(t, texts, "wrong")
		checkNewMemory(t, choices, api.Choice{})
	}
}

// P11.2: no later Push or Pop changes what All returned.
func TestAllStays(t *testing.T) {
	for _, room := range ints(1, 2, 3, 4, 5, 8, 9, 33, 64, 100) {
		s := Ints(room)
		var kept, want [][]int
		keep := func(l []int) {
			kept, want = append(kept, s.All()), append(want, slices.Clone(l))
		}
		l := ints()
		r := rand.New(rand.NewSource(int64(room)))
		for i := range 20 * room {
			if r.Intn(room) >= len(l) {
				checkPush(t, s, i)
				l = append(l, i)
			} else {
				checkPop(t, s, l[len(l)-1])
				l = l[:len(l)-1]
			}
			keep(l)
		}
		for i := range kept {
			if !slices.Equal(kept[i], want[i]) {
				t.Fatalf("%v, want %v", kept[i], want[i])
			}
			fill(kept[i], -9)
		}
		checkHas(t, s, l...)
	}
}

// P11.2: what All returned may be appended to: the stack and that list stay apart.
func TestAllAppended(t *testing.T) {
	s := Ints(200)
	var l []int
	for i := range 200 {
		longer := append(s.All(), -1, -2, -3)
		checkPush(t, s, i)
		l = append(l, i)
		checkHas(t, s, l...)
		if longer[i] != -1 || longer[i+1] != -2 || longer[i+2] != -3 {
			t.Fatal(longer)
		}
	}
}

// P11.1: a stack is not changed by what becomes of a list whose values were pushed, nor does it change that list or what is behind it.
func TestPushedList(t *testing.T) {
	whole := append(numbered(20), 70, 71, 72)
	l := whole[:20]
	s := Ints(30)
	checkPush(t, s, l...)
	checkPush(t, s, 40, 41)
	checkPop(t, s, 41)
	if !slices.Equal(whole, append(numbered(20), 70, 71, 72)) {
		t.Error(whole)
	}
	fill(whole, -9)
	checkHas(t, s, append(numbered(20), 40)...)
}

// P11.1: what happens to one stack changes no other one, whatever room each has.
func TestTwo(t *testing.T) {
	for a := range 12 {
		for b := range 12 {
			one, two := Ints(a), New[int](b)
			checkPush(t, one, numbered(a)...)
			checkHas(t, two)
			checkPush(t, two, turned(numbered(b))...)
			checkHas(t, one, numbered(a)...)
			checkNoPush(t, one, 50)
			checkNoPush(t, two, 60)
			for i := range a {
				checkPop(t, one, i+1)
				checkHas(t, two, turned(numbered(b))...)
			}
			checkHas(t, one)
			checkNoPop(t, one)
			for i := range b {
				checkPop(t, two, b-i)
			}
			checkHas(t, one)
		}
	}
}

// P11.1: many stacks at once, of two types, each changed in turns with the others.
func TestMany(t *testing.T) {
	var numbers []*Stack[int]
	var texts []*Stack[string]
	for n := range 50 {
		numbers = append(numbers, Ints(n))
		texts = append(texts, New[string](n))
	}
	for i := range 60 {
		for n := range 50 {
			if numbers[n].Push(100*n+i) != (i < n) || texts[n].Push(fmt.Sprint(n, i)) != (i < n) {
				t.Fatal(n, i)
			}
		}
	}
	for n := range 50 {
		checkLen(t, numbers[n], n)
		checkLen(t, texts[n], n)
		for i := n - 1; i >= 0; i-- {
			checkPop(t, numbers[n], 100*n+i)
			checkPop(t, texts[n], fmt.Sprint(n, i))
		}
	}
}

// P11.3: values are popped in the reverse order in which they were pushed, whatever they are.
func TestReverse(t *testing.T) {
	r := rand.New(rand.NewSource(111))
	for n := range 200 {
		s := Ints(n + r.Intn(3))
		texts := New[string](n + r.Intn(3))
		var l, out []int
		var words, outWords []string
		for range n {
			l = append(l, r.Intn(1+r.Intn(100))-50)
			words = append(words, strings.Repeat("a", r.Intn(4)))
		}
		checkPush(t, s, l...)
		checkPush(t, texts, words...)
		for x, is := s.Pop(); is; x, is = s.Pop() {
			out = append(out, x)
		}
		for x, is := texts.Pop(); is; x, is = texts.Pop() {
			outWords = append(outWords, x)
		}
		if !slices.Equal(turned(out), l) || !slices.Equal(turned(outWords), words) {
			t.Fatalf("%v, pushed %v", out, l)
		}
	}
}

// P11.3: values that are popped and pushed again are where they were: one, many, all; on a full stack and on others.
func TestAgain(t *testing.T) {
	for n := range 20 {
		for room := n; room < n+3; room++ {
			s := Ints(room)
			l := numbered(n)
			checkPush(t, s, l...)
			for taken := range n + 1 {
				var out []int
				for range taken {
					x, is := s.Pop()
					if !is {
						t.Fatal(n, taken)
					}
					out = append(out, x)
				}
				checkHas(t, s, l[:n-taken]...)
				checkPush(t, s, turned(out)...)
				checkHas(t, s, l...)
			}
			for range 3 * n {
				x, is := s.Pop()
				if !is {
					t.Fatal(n)
				}
				checkPush(t, s, x)
			}
			checkHas(t, s, l...)
		}
	}
}

// P11.3: a value that is popped and pushed again, at each height of a stack, on the way up and on the way down.
func TestAgainAtEachHeight(t *testing.T) {
	s := New[api.Choice](40)
	var l []api.Choice
	again := func() {
		t.Helper()
		x, is := s.Pop()
		if !is {
			t.Fatal(len(l))
		}
		checkHas(t, s, l[:len(l)-1]...)
		checkPush(t, s, x)
		checkHas(t, s, l...)
	}
	for i := range 40 {
		l = append(l, api.Choice{Key: i % 3, A: i, B: i + 1})
		checkPush(t, s, l[i])
		again()
	}
	for len(l) > 0 {
		again()
		checkPop(t, s, l[len(l)-1])
		l = l[:len(l)-1]
	}
	checkHas(t, s)
}

// byWords is a stack by the chapter's words: its values, and how many it has room for.
type byWords struct {
	room int
	list []int
}

func (w *byWords) push(x int) bool {
	if len(w.list) >= max(w.room, 0) {
		return false
	}
	w.list = append(slices.Clone(w.list), x)
	return true
}

func (w *byWords) pop() (int, bool) {
	if len(w.list) == 0 {
		return 0, false
	}
	x := w.list[len(w.list)-1]
	w.list = slices.Clone(w.list[:len(w.list)-1])
	return x, true
}

// step performs a call on both, 0 and less a Pop, others a Push of that number, and checks what they return.
func step(t *testing.T, s *Stack[int], w *byWords, call int) {
	t.Helper()
	if call > 0 {
		if got, want := s.Push(call), w.push(call); got != want {
			t.Fatalf("Push(%d) = %v: %+v", call, got, w)
		}
		return
	}
	was := brief(w)
	got, is := s.Pop()
	if want, wantIs := w.pop(); got != want || is != wantIs {
		t.Fatalf("Pop() = %d, %v, want %d, %v: %s", got, is, want, wantIs, was)
	}
}

// P11.1 to P11.3: all sequences of up to eight calls, with each room from none to three, looked at after each call and only at the end.
func TestShortSequences(t *testing.T) {
	var run func(room, left int, sequence []int)
	run = func(room, left int, sequence []int) {
		looked, s := Ints(room), New[int](room)
		w, v := &byWords{room: room}, &byWords{room: room}
		for _, call := range sequence {
			step(t, looked, w, call)
			checkHas(t, looked, w.list...)
			step(t, s, v, call)
		}
		checkHas(t, s, v.list...)
		for call := 0; call <= 2 && left > 0; call++ {
			run(room, left-1, append(sequence, call))
		}
	}
	for room := -1; room <= 3; room++ {
		run(room, 8, nil)
	}
}

// P11.1 to P11.3: sequences by chance, of small rooms and great ones, that climb, sink and stay.
func TestSequencesByChance(t *testing.T) {
	r := rand.New(rand.NewSource(112))
	for range 400 {
		room := r.Intn(1+r.Intn(300)) - 1
		s, w := Ints(room), &byWords{room: room}
		for range 1 + r.Intn(6) {
			pushes := r.Intn(101)
			for range r.Intn(1 + 2*max(room, 5)) {
				call := 0
				if r.Intn(100) < pushes {
					call = 1 + r.Intn(1<<r.Intn(20))
				}
				step(t, s, w, call)
				if r.Intn(4) == 0 {
					checkHas(t, s, w.list...)
				}
			}
		}
		checkHas(t, s, w.list...)
		for len(w.list) > 0 {
			step(t, s, w, 0)
		}
		step(t, s, w, 0)
	}
}

// P11.1, P11.2: what a stack tells hangs on what was done to it, on nothing else.
func TestTwiceDone(t *testing.T) {
	r := rand.New(rand.NewSource(113))
	for room := range 30 {
		one, two := Ints(room), Ints(room)
		for range 200 {
			call := r.Intn(5) - 1
			if call > 0 {
				if one.Push(call) != two.Push(call) {
					t.Fatal(room, call)
				}
			} else {
				x, is := one.Pop()
				if y, isToo := two.Pop(); x != y || is != isToo {
					t.Fatal(x, is, y, isToo)
				}
			}
			// Only one of them is looked at.
			checkHas(t, two, two.All()...)
		}
		checkHas(t, one, two.All()...)
	}
}

// Wrong inputs: no stack, and one that nobody made, have nothing and no room, and no call on them panics.
func TestNoStack(t *testing.T) {
	for range 2 {
		checkRoom(t, nil, 0)
		checkRoom(t, new(Stack[int]), 0)
		checkRoom(t, &Stack[int]{}, 0)
		checkType(t, nil, new(Stack[string]), &Stack[string]{})
		var texts *Stack[string]
		checkNoPush(t, texts, "a")
		checkHas(t, texts)
		checkNoPop(t, texts)
	}
}

// pushed pushes n new lists, and returns pointers to their first numbers that do not keep them.
func pushed(s *Stack[[]int], n int) ([]weak.Pointer[int], int) {
	var l []weak.Pointer[int]
	taken := 0
	for range n {
		list := make([]int, 64)
		l = append(l, weak.Make(&list[0]))
		if s.Push(list) {
			taken++
		}
	}
	return l, taken
}

// gone is how many of these are kept by nothing.
func gone(l []weak.Pointer[int]) int {
	runtime.GC()
	n := 0
	for _, p := range l {
		if p.Value() == nil {
			n++
		}
	}
	return n
}

// P11.1: Pop removes: neither what was popped nor what there was no room for is kept; what is on the stack is.
func TestKeepsNoMore(t *testing.T) {
	s := New[[]int](1000)
	l, taken := pushed(s, 2000)
	if n := gone(l[:1000]); n != 0 || taken != 1000 {
		t.Error(n, taken)
	}
	// The garbage collector may see a few that still lie in a register, or on its stack.
	if n := gone(l[1000:]); n < 900 {
		t.Errorf("%d of 1000 that were not taken are gone", n)
	}
	for range 600 {
		s.Pop()
	}
	if n := gone(l[:400]); n != 0 {
		t.Errorf("%d of 400 are gone", n)
	}
	if n := gone(l[400:1000]); n < 500 {
		t.Errorf("%d of 600 that were popped are gone", n)
	}
	runtime.KeepAlive(s)
}
