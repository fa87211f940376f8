package inner

import (
	"fmt"
	"math/rand"
	"slices"
	"testing"

	"inquest/api"
	"inquest/group"
)

func read(k, v int) api.Event  { return api.Event{Kind: api.Read, Session: 1, Key: k, Value: v} }
func write(k, v int) api.Event { return api.Event{Kind: api.Write, Session: 1, Key: k, Value: v} }

func row(l ...api.Event) []api.Event { return l }

func items(l ...Item) []Item { return l }

// brief is how a list is printed where a test fails; long ones are cut off.
func brief(list any) string { return fmt.Sprintf("%.300s", fmt.Sprint(list)) }

// sameFace says whether two faces are the same; no items are the same, nil or empty.
func sameFace(a, b Face) bool {
	return slices.Equal(a.Reads, b.Reads) && slices.Equal(a.Writes, b.Writes)
}

func look(ops []api.Event) (Face, int, api.Errno) { return Look(group.Tx{Session: 1, Ops: ops}) }

func checkFace(t *testing.T, ops []api.Event, want Face) {
	t.Helper()
	if got, at, err := look(ops); !sameFace(got, want) || at != 0 || err != api.OK {
		t.Fatalf("Look(%s) = %s, %v, %v, want %s", brief(ops), brief(got), at, err, brief(want))
	}
}

func checkWrong(t *testing.T, ops []api.Event, at int, err api.Errno) {
	t.Helper()
	if got, gotAt, gotErr := look(ops); !sameFace(got, Face{}) || gotAt != at || gotErr != err {
		t.Fatalf("Look(%s) = %s, %v, %v, want %v, %v", brief(ops), brief(got), gotAt, gotErr, at, err)
	}
}

// wrongOps are events that may not stand among a transaction's ops: valid ones of other kinds, and those that are not valid, in each of the ways that layer 3 knows.
func wrongOps() []api.Event {
	l := row(
		// No kind.
		api.Event{Kind: -1}, api.Event{Kind: 5}, api.Event{Kind: 1 << 32}, api.Event{Kind: 1<<32 + 1}, api.Event{Kind: -1 << 63}, api.Event{Kind: 1<<63 - 1, Session: 1, Key: 1, Value: 1},
		// A key or a value where there is none.
		api.Event{Key: 1}, api.Event{Value: 1}, api.Event{Kind: api.Commit, Key: -1}, api.Event{Kind: api.Commit, Session: 1, Key: 16}, api.Event{Kind: api.Commit, Value: 1}, api.Event{Kind: api.Abort, Key: 2}, api.Event{Kind: api.Abort, Value: -3},
	)
	for _, kind := range []int{api.Begin, api.Commit, api.Abort} {
		for _, s := range []int{-1, 0, 1, 7, 8} {
			l = append(l, api.Event{Kind: kind, Session: s})
		}
	}
	for _, kind := range []int{api.Read, api.Write} {
		for _, s := range []int{-1 << 63, -1, 8, 1 << 32, 1<<63 - 1} {
			l = append(l, api.Event{Kind: kind, Session: s, Key: 1, Value: 1})
		}
		for _, k := range []int{-1 << 63, -1, 16, 17, 1 << 32, 1<<63 - 1} {
			l = append(l, api.Event{Kind: kind, Session: 1, Key: k, Value: 1})
		}
		for _, v := range []int{-1 << 63, -1, 2147483648, 1 << 32, 1<<63 - 1} {
			l = append(l, api.Event{Kind: kind, Session: 1, Key: 1, Value: v})
		}
	}
	return l
}

// P6.1, P6.2: no op.
func TestLookNothing(t *testing.T) {
	checkFace(t, nil, Face{})
	checkFace(t, row(), Face{})
}

// P6.2: one Read and one Write, of each key, with values at both ends.
func TestLookOneOp(t *testing.T) {
	for k := range api.MaxKeys {
		for _, v := range []int{0, 1, 2147483646, 2147483647} {
			checkFace(t, row(read(k, v)), Face{Reads: items(Item{k, v})})
			checkFace(t, row(write(k, v)), Face{Writes: items(Item{k, v})})
		}
	}
}

// P6.1: a Read behind a Write of its key has the last Write's value, or is wrong: also if an earlier Write had its value, or what was read ahead of the Write.
func TestLookOwn(t *testing.T) {
	checkFace(t, row(write(1, 5), read(1, 5)), Face{Writes: items(Item{1, 5})})
	checkFace(t, row(write(1, 0), read(1, 0)), Face{Writes: items(Item{1, 0})})
	checkFace(t, row(write(1, 5), write(1, 6), read(1, 6)), Face{Writes: items(Item{1, 6})})
	checkFace(t, row(write(1, 5), read(1, 5), write(1, 6), read(1, 6)), Face{Writes: items(Item{1, 6})})
	checkFace(t, row(write(1, 5), write(1, 6), write(1, 5), read(1, 5)), Face{Writes: items(Item{1, 5})})
	checkWrong(t, row(write(1, 5), read(1, 0)), 1, api.ErrOwn)
	checkWrong(t, row(write(1, 0), read(1, 5)), 1, api.ErrOwn)
	checkWrong(t, row(write(1, 5), write(1, 6), read(1, 5)), 2, api.ErrOwn)
	checkWrong(t, row(write(1, 5), write(1, 6), read(1, 7)), 2, api.ErrOwn)
	checkWrong(t, row(write(1, 5), read(1, 5), write(1, 6), read(1, 5)), 3, api.ErrOwn)
	checkWrong(t, row(write(1, 5), read(1, 5), read(1, 6)), 2, api.ErrOwn)
	// Writes of other keys are no matter.
	checkFace(t, row(write(1, 5), write(2, 6), read(1, 5)), Face{Writes: items(Item{1, 5}, Item{2, 6})})
	checkWrong(t, row(write(1, 5), write(2, 6), read(1, 6)), 2, api.ErrOwn)
}

// P6.1: a Read behind a Read of its key, and no Write, has the same value, or is wrong.
func TestLookOther(t *testing.T) {
	checkFace(t, row(read(1, 3), read(1, 3)), Face{Reads: items(Item{1, 3})})
	checkFace(t, row(read(1, 0), read(1, 0), read(1, 0)), Face{Reads: items(Item{1, 0})})
	checkWrong(t, row(read(1, 3), read(1, 4)), 1, api.ErrOther)
	checkWrong(t, row(read(1, 0), read(1, 4)), 1, api.ErrOther)
	checkWrong(t, row(read(1, 4), read(1, 0)), 1, api.ErrOther)
	checkWrong(t, row(read(1, 3), read(1, 3), read(1, 4)), 2, api.ErrOther)
	// Reads and Writes of other keys are no matter.
	checkFace(t, row(read(1, 3), read(2, 4), read(1, 3)), Face{Reads: items(Item{1, 3}, Item{2, 4})})
	checkFace(t, row(read(1, 3), write(2, 4), read(1, 3)), Face{Reads: items(Item{1, 3}), Writes: items(Item{2, 4})})
	checkWrong(t, row(read(1, 3), read(2, 4), read(1, 4)), 2, api.ErrOther)
	checkWrong(t, row(read(1, 3), write(2, 4), read(1, 4)), 2, api.ErrOther)
}

// P6.1: a Read behind a Read and a Write of its key: the Write counts, whichever was first.
func TestLookReadAndWrite(t *testing.T) {
	checkFace(t, row(read(1, 0), write(1, 5), read(1, 5)), Face{Reads: items(Item{1, 0}), Writes: items(Item{1, 5})})
	checkFace(t, row(read(1, 0), read(1, 0), write(1, 5), read(1, 5), write(1, 6), read(1, 6)), Face{Reads: items(Item{1, 0}), Writes: items(Item{1, 6})})
	checkWrong(t, row(read(1, 0), write(1, 5), read(1, 0)), 2, api.ErrOwn)
	checkWrong(t, row(read(1, 0), write(1, 5), read(1, 7)), 2, api.ErrOwn)
	checkWrong(t, row(write(1, 5), read(1, 5), write(1, 6), read(1, 5)), 3, api.ErrOwn)
	checkWrong(t, row(read(1, 0), write(1, 5), read(1, 5), write(1, 6), read(1, 0)), 4, api.ErrOwn)
}

// P6.1: a Read whose value a later Write of its key has.
func TestLookFuture(t *testing.T) {
	checkWrong(t, row(read(1, 3), write(1, 3)), 0, api.ErrFuture)
	checkWrong(t, row(read(1, 0), write(1, 0)), 0, api.ErrFuture)
	checkWrong(t, row(read(1, 3), write(1, 4), write(1, 3)), 0, api.ErrFuture)
	checkWrong(t, row(read(1, 3), write(1, 3), write(1, 4)), 0, api.ErrFuture)
	checkWrong(t, row(read(1, 3), read(1, 3), write(2, 1), write(1, 3)), 0, api.ErrFuture)
	checkWrong(t, row(write(2, 1), read(1, 3), write(1, 4), read(1, 4), write(1, 3), read(1, 3)), 1, api.ErrFuture)
	// Another value, a Write of another key, a Read, or a Write ahead of it are no such Write.
	checkFace(t, row(read(1, 3), write(1, 4)), Face{Reads: items(Item{1, 3}), Writes: items(Item{1, 4})})
	checkFace(t, row(read(1, 3), write(2, 3)), Face{Reads: items(Item{1, 3}), Writes: items(Item{2, 3})})
	checkFace(t, row(read(1, 3), write(3, 1)), Face{Reads: items(Item{1, 3}), Writes: items(Item{3, 1})})
	checkFace(t, row(write(1, 3), read(1, 3)), Face{Writes: items(Item{1, 3})})
	checkFace(t, row(read(1, 3), read(1, 3), read(2, 3)), Face{Reads: items(Item{1, 3}, Item{2, 3})})
	// A Read behind a Write of its key is held against that alone, whatever is written later.
	checkFace(t, row(write(1, 3), read(1, 3), write(1, 3)), Face{Writes: items(Item{1, 3})})
	checkFace(t, row(write(1, 3), read(1, 3), write(1, 4), write(1, 3)), Face{Writes: items(Item{1, 3})})
	checkFace(t, row(read(1, 0), write(1, 3), read(1, 3), write(1, 3)), Face{Reads: items(Item{1, 0}), Writes: items(Item{1, 3})})
	checkWrong(t, row(write(1, 3), read(1, 4), write(1, 4)), 1, api.ErrOwn)
	// Nor is one behind a Read of its key.
	checkWrong(t, row(read(1, 3), read(1, 4), write(1, 4)), 1, api.ErrOther)
}

// P6.2: a key that is only read, only written, read first and then written, written first and then read; the lists have each key once, by rising keys, whatever the ops' order.
func TestFace(t *testing.T) {
	ops := row(write(9, 1), read(15, 2147483647), write(15, 8), write(0, 2147483647), read(9, 1), read(4, 0), read(2, 6), write(9, 2), read(4, 0), write(15, 0), read(9, 2), write(2, 7), write(2, 8), read(2, 8))
	want := Face{
		Reads:  items(Item{2, 6}, Item{4, 0}, Item{15, 2147483647}),
		Writes: items(Item{0, 2147483647}, Item{2, 8}, Item{9, 2}, Item{15, 0}),
	}
	checkFace(t, ops, want)
	checkFace(t, row(read(1, 0)), Face{Reads: items(Item{1, 0})})
	checkFace(t, row(write(1, 0)), Face{Writes: items(Item{1, 0})})
	checkFace(t, row(read(1, 2147483647), write(1, 0)), Face{Reads: items(Item{1, 2147483647}), Writes: items(Item{1, 0})})
	checkFace(t, row(write(1, 2147483647), read(1, 2147483647)), Face{Writes: items(Item{1, 2147483647})})
}

// P6.2: the keys' ops stand between each other's.
func TestFaceOfSeveralKeys(t *testing.T) {
	checkFace(t, row(read(3, 1), write(1, 1), read(2, 1), write(3, 2), read(1, 1), read(2, 1), read(3, 2), write(2, 3), write(1, 4), read(2, 3), read(1, 4)),
		Face{Reads: items(Item{2, 1}, Item{3, 1}), Writes: items(Item{1, 4}, Item{2, 3}, Item{3, 2})})
	checkWrong(t, row(read(3, 1), write(1, 1), read(2, 1), write(3, 2), read(1, 2)), 4, api.ErrOwn)
	checkWrong(t, row(read(3, 1), write(1, 1), read(2, 1), write(3, 2), read(2, 2)), 4, api.ErrOther)
	checkWrong(t, row(read(3, 1), write(1, 1), read(2, 3), write(3, 2), read(1, 1), write(2, 3)), 2, api.ErrFuture)
}

// P6.2: all 16 keys, each read and written, from the greatest on.
func TestFaceOfAllKeys(t *testing.T) {
	var reads, writes []api.Event
	var want Face
	for k := range api.MaxKeys {
		reads = append(reads, read(15-k, 100+15-k))
		writes = append(writes, write(15-k, 200+15-k))
		want.Reads = append(want.Reads, Item{k, 100 + k})
		want.Writes = append(want.Writes, Item{k, 200 + k})
	}
	checkFace(t, reads, Face{Reads: want.Reads})
	checkFace(t, writes, Face{Writes: want.Writes})
	checkFace(t, append(slices.Clone(reads), writes...), want)
	checkFace(t, slices.Concat(reads, reads, writes, writes), want)
	checkWrong(t, append(slices.Clone(writes), reads...), 16, api.ErrOwn)
	for k := range api.MaxKeys {
		checkWrong(t, append(slices.Clone(reads), read(k, 7)), 16, api.ErrOther)
		checkWrong(t, append(slices.Clone(writes), read(k, 7)), 16, api.ErrOwn)
		checkWrong(t, append(slices.Clone(reads), write(k, 100+k)), 15-k, api.ErrFuture)
		checkFace(t, append(slices.Clone(reads), write(k, 7)), Face{Reads: want.Reads, Writes: items(Item{k, 7})})
	}
}

// P6.1: more ops than a log has events.
func TestLookManyOps(t *testing.T) {
	for _, n := range []int{398, 399, 400, 401, 20000} {
		reads := slices.Repeat(row(read(3, 1)), n)
		checkFace(t, reads, Face{Reads: items(Item{3, 1})})
		checkFace(t, append(reads, write(3, 2)), Face{Reads: items(Item{3, 1}), Writes: items(Item{3, 2})})
		checkWrong(t, append(reads, write(3, 1)), 0, api.ErrFuture)
		checkWrong(t, append(reads, read(3, 2)), n, api.ErrOther)
		checkWrong(t, append(reads, api.Event{Kind: api.Commit, Session: 1}), n, api.ErrArg)
		var writes []api.Event
		for i := range n {
			writes = append(writes, write(i%16, i), read(i%16, i))
		}
		face, at, err := look(writes)
		if len(face.Reads) != 0 || len(face.Writes) != 16 || at != 0 || err != api.OK {
			t.Fatalf("%v writes: %v, %v, %v", n, face, at, err)
		}
		for k, w := range face.Writes {
			if w.Key != k || w.Value < n-16 || w.Value%16 != k {
				t.Errorf("%v writes: %v", n, face)
			}
		}
		checkWrong(t, append(writes, read(0, 0)), 2*n, api.ErrOwn)
	}
}

// P6.1: an event that may not stand there, as the first op, the last one and between others.
func TestLookWrongOp(t *testing.T) {
	for _, w := range wrongOps() {
		checkWrong(t, row(w), 0, api.ErrArg)
		checkWrong(t, row(w, read(1, 0), write(1, 5)), 0, api.ErrArg)
		checkWrong(t, row(read(1, 0), w, write(1, 5)), 1, api.ErrArg)
		checkWrong(t, row(read(1, 0), write(1, 5), read(1, 5), w), 3, api.ErrArg)
		checkWrong(t, row(write(1, 1), w, read(1, 2)), 1, api.ErrArg)
		checkWrong(t, row(w, w), 0, api.ErrArg)
	}
}

// P6.1: a Read or a Write that is wrong by what stands ahead of it, but not valid either, has the error that is named first.
func TestLookArgFirst(t *testing.T) {
	far := api.Event{Kind: api.Read, Session: 8, Key: 1, Value: 4}
	checkWrong(t, row(write(1, 5), far), 1, api.ErrArg)
	checkWrong(t, row(read(1, 5), far), 1, api.ErrArg)
	checkWrong(t, row(far, write(1, 4)), 0, api.ErrArg)
	checkWrong(t, row(write(1, 5), read(1, -1)), 1, api.ErrArg)
	checkWrong(t, row(read(1, 5), read(1, 2147483648)), 1, api.ErrArg)
	checkWrong(t, row(read(1, -1), write(1, -1)), 0, api.ErrArg)
	checkWrong(t, row(read(16, 1), write(16, 1)), 0, api.ErrArg)
	// A Write that is not valid is a Write: the Read ahead of it is wrong, and the first one with an error.
	checkWrong(t, row(read(1, 4), api.Event{Kind: api.Write, Session: 8, Key: 1, Value: 4}), 0, api.ErrFuture)
	checkWrong(t, row(read(1, 4), api.Event{Kind: api.Write, Session: 8, Key: 1, Value: 5}), 1, api.ErrArg)
}

// P6.1: of two wrong ops, the first one's index and error.
func TestLookFirstError(t *testing.T) {
	// Each of them is wrong behind a Read of key 1 with value 0 and a Write of key 2 with value 5, ahead of a Write of key 4 with value 9.
	wrong := []struct {
		op  api.Event
		err api.Errno
	}{{read(1, 3), api.ErrOther}, {read(2, 3), api.ErrOwn}, {read(4, 9), api.ErrFuture}, {read(16, 0), api.ErrArg}, {api.Event{Kind: api.Abort, Session: 1}, api.ErrArg}}
	for _, v := range wrong {
		for _, w := range wrong {
			checkWrong(t, row(read(1, 0), write(2, 5), v.op, w.op, write(4, 9)), 2, v.err)
			checkWrong(t, row(read(1, 0), write(2, 5), read(2, 5), v.op, read(3, 0), w.op, write(4, 9)), 3, v.err)
		}
		checkWrong(t, row(read(5, 6), read(1, 0), write(2, 5), v.op, write(5, 6), write(4, 9)), 0, api.ErrFuture)
		checkWrong(t, row(read(17, 0), read(1, 0), write(2, 5), v.op, write(4, 9)), 0, api.ErrArg)
	}
}

// P6.1, P6.2: the transaction's Session, Done and First play no part, nor do the ops' sessions.
func TestLookWhoseOps(t *testing.T) {
	others := row(api.Event{Kind: api.Read, Session: 0, Key: 1}, api.Event{Kind: api.Write, Session: 7, Key: 1, Value: 5}, api.Event{Kind: api.Read, Session: 3, Key: 1, Value: 5}, api.Event{Kind: api.Read, Session: 2, Key: 2, Value: 6})
	want := Face{Reads: items(Item{1, 0}, Item{2, 6}), Writes: items(Item{1, 5})}
	for _, n := range []int{-1 << 63, -1, 0, 1, 7, 8, 400, 1 << 32, 1<<63 - 1} {
		for _, done := range []bool{false, true} {
			face, at, err := Look(group.Tx{Session: n, Done: done, First: n, Ops: others})
			if !sameFace(face, want) || at != 0 || err != api.OK {
				t.Errorf("%v, %v: %v, %v, %v", n, done, face, at, err)
			}
			for _, wrong := range []struct {
				ops []api.Event
				at  int
				err api.Errno
			}{{append(slices.Clone(others), read(1, 0)), 4, api.ErrOwn}, {append(slices.Clone(others), read(2, 0)), 4, api.ErrOther}, {append(slices.Clone(others), write(2, 6)), 3, api.ErrFuture}, {row(read(-1, 0)), 0, api.ErrArg}} {
				face, at, err := Look(group.Tx{Session: n, Done: done, First: n, Ops: wrong.ops})
				if !sameFace(face, Face{}) || at != wrong.at || err != wrong.err {
					t.Errorf("%v, %v: %v, %v, %v, want %v, %v", n, done, face, at, err, wrong.at, wrong.err)
				}
			}
		}
	}
}

// isValid says whether an event is valid, by the words of chapter 3.
func isValid(e api.Event) bool {
	if e.Session < 0 || e.Session > 7 {
		return false
	}
	if e.Kind == api.Read || e.Kind == api.Write {
		return e.Key >= 0 && e.Key <= 15 && e.Value >= 0 && e.Value <= 2147483647
	}
	return (e.Kind == api.Begin || e.Kind == api.Commit || e.Kind == api.Abort) && e.Key == 0 && e.Value == 0
}

// lastOf is the last op of a kind of a key, and whether there is one.
func lastOf(ops []api.Event, kind, key int) (api.Event, bool) {
	for _, op := range slices.Backward(ops) {
		if op.Kind == kind && op.Key == key {
			return op, true
		}
	}
	return api.Event{}, false
}

// wantError is the error of the op at i, if no op ahead of it has one: by looking back, without keeping anything.
func wantError(ops []api.Event, i int) api.Errno {
	op := ops[i]
	if !isValid(op) || op.Kind != api.Read && op.Kind != api.Write {
		return api.ErrArg
	}
	if op.Kind == api.Write {
		return api.OK
	}
	if w, found := lastOf(ops[:i], api.Write, op.Key); found {
		if w.Value != op.Value {
			return api.ErrOwn
		}
		return api.OK
	}
	if r, found := lastOf(ops[:i], api.Read, op.Key); found {
		if r.Value != op.Value {
			return api.ErrOther
		}
		return api.OK
	}
	if slices.ContainsFunc(ops[i+1:], func(e api.Event) bool {
		return e.Kind == api.Write && e.Key == op.Key && e.Value == op.Value
	}) {
		return api.ErrFuture
	}
	return api.OK
}

// wantFace is the face of ops that have no error: by looking for each key's first op and last Write.
func wantFace(ops []api.Event) Face {
	var face Face
	for k := range 16 {
		if i := slices.IndexFunc(ops, func(e api.Event) bool { return e.Key == k }); i >= 0 && ops[i].Kind == api.Read {
			face.Reads = append(face.Reads, Item{k, ops[i].Value})
		}
		if w, found := lastOf(ops, api.Write, k); found {
			face.Writes = append(face.Writes, Item{k, w.Value})
		}
	}
	return face
}

// checkByWords holds Look against the chapter's words, and tells the error that it should have.
func checkByWords(t *testing.T, ops []api.Event) api.Errno {
	t.Helper()
	for i := range ops {
		if err := wantError(ops, i); err != api.OK {
			checkWrong(t, ops, i, err)
			return err
		}
	}
	checkFace(t, ops, wantFace(ops))
	return api.OK
}

// eachList calls do with each list of at most n of these ops.
func eachList(each []api.Event, n int, do func(ops []api.Event)) {
	var longer func(ops []api.Event)
	longer = func(ops []api.Event) {
		do(ops)
		if len(ops) == n {
			return
		}
		for _, e := range each {
			longer(append(ops, e))
		}
	}
	longer(make([]api.Event, 0, n))
}

// P6.1, P6.2: all lists of at most six ops of one key with three values, and of at most four of two keys, held against the chapter's words.
func TestLookAllShort(t *testing.T) {
	one := row(api.Event{Kind: api.Commit, Session: 1})
	two := slices.Clone(one)
	for v := range 3 {
		one = append(one, read(1, v), write(1, v))
		two = append(two, read(0, v), write(0, v), read(15, v), write(15, v))
	}
	counts := map[api.Errno]int{}
	check := func(ops []api.Event) { counts[checkByWords(t, ops)]++ }
	eachList(one, 6, check)
	eachList(two, 4, check)
	checkCounts(t, counts)
}

// checkCounts checks that there was each answer.
func checkCounts(t *testing.T, counts map[api.Errno]int) {
	t.Helper()
	for _, err := range []api.Errno{api.OK, api.ErrArg, api.ErrOwn, api.ErrOther, api.ErrFuture} {
		if counts[err] == 0 {
			t.Errorf("no ops with %v", err)
		}
	}
}

// chanceOps are at most n ops by chance without an error: no value is written twice, and none that was read is written.
func chanceOps(r *rand.Rand, n int) []api.Event {
	var ops []api.Event
	var isKnown [api.MaxKeys]bool
	var values [api.MaxKeys]int
	keys := 1 + r.Intn(api.MaxKeys)
	for i := range n {
		k := r.Intn(keys)
		switch {
		case r.Intn(3) == 0:
			values[k] = 1000 + i
			ops = append(ops, write(k, values[k]))
		case isKnown[k]:
			ops = append(ops, read(k, values[k]))
		default:
			values[k] = r.Intn(3)
			ops = append(ops, read(k, values[k]))
		}
		isKnown[k] = true
	}
	return ops
}

// P6.1, P6.2: ops by chance, right ones and such with one op put among them, held against the chapter's words.
func TestLookByChance(t *testing.T) {
	r := rand.New(rand.NewSource(6))
	wrong := wrongOps()
	counts := map[api.Errno]int{}
	for range 5000 {
		ops := chanceOps(r, r.Intn(200))
		if err := checkByWords(t, ops); err != api.OK {
			t.Fatalf("Look(%s): %v", brief(ops), err)
		}
		k := r.Intn(16)
		v := r.Intn(3)
		if len(ops) > 0 && r.Intn(2) == 0 {
			k, v = ops[r.Intn(len(ops))].Key, ops[r.Intn(len(ops))].Value
		}
		e := row(read(k, v), write(k, v), wrong[r.Intn(len(wrong))])[r.Intn(3)]
		counts[checkByWords(t, slices.Insert(ops, r.Intn(len(ops)+1), e))]++
	}
	checkCounts(t, counts)
}

// known is the value that a transaction knows of a key behind ops, and whether it knows one.
func known(ops []api.Event, key int) (int, bool) {
	for _, op := range slices.Backward(ops) {
		if op.Key == key {
			return op.Value, true
		}
	}
	return 0, false
}

// P6.3: reading again what the transaction knows changes nothing, wherever the Read is put; behind it a wrong op stays wrong.
func TestReadAgain(t *testing.T) {
	r := rand.New(rand.NewSource(63))
	again := 0
	for range 2000 {
		ops := chanceOps(r, r.Intn(60))
		face, _, _ := look(ops)
		i, k := r.Intn(len(ops)+1), r.Intn(16)
		v, found := known(ops[:i], k)
		if !found {
			continue
		}
		again++
		more := slices.Insert(slices.Clone(ops), i, read(k, v))
		checkFace(t, more, face)
		checkFace(t, slices.Insert(more, i, read(k, v)), face)
		checkWrong(t, slices.Insert(append(slices.Clone(ops), read(k, 999)), i, read(k, v)), len(ops)+1, mustError(t, append(slices.Clone(ops), read(k, 999))))
	}
	if again == 0 {
		t.Error("nothing was read again")
	}
}

// mustError is the error of ops of which the last one is wrong.
func mustError(t *testing.T, ops []api.Event) api.Errno {
	t.Helper()
	_, at, err := look(ops)
	if at != len(ops)-1 || err == api.OK {
		t.Fatalf("Look(%s): %v, %v", brief(ops), at, err)
	}
	return err
}

// wantFirstRead is the error of ops that are right, if a Read of this key and value is put ahead of them, and its op's place.
func wantFirstRead(ops []api.Event, k, v int) (int, api.Errno) {
	if slices.ContainsFunc(ops, func(e api.Event) bool { return e.Kind == api.Write && e.Key == k && e.Value == v }) {
		return 0, api.ErrFuture
	}
	i := slices.IndexFunc(ops, func(e api.Event) bool { return e.Key == k })
	if i >= 0 && ops[i].Kind == api.Read && ops[i].Value != v {
		return i + 1, api.ErrOther
	}
	return 0, api.OK
}

// P6.3: a Read put ahead of all other ops is accepted, if its value is not written later and agrees with the later Reads of what others wrote; it is then among the Face's Reads.
func TestReadFirst(t *testing.T) {
	r := rand.New(rand.NewSource(636))
	counts := map[api.Errno]int{}
	for range 5000 {
		ops := chanceOps(r, r.Intn(60))
		k, v := r.Intn(16), r.Intn(3)
		if len(ops) > 0 && r.Intn(2) == 0 {
			op := ops[r.Intn(len(ops))]
			k, v = op.Key, op.Value
		}
		more := slices.Insert(slices.Clone(ops), 0, read(k, v))
		at, err := wantFirstRead(ops, k, v)
		counts[err]++
		if err != api.OK {
			checkWrong(t, more, at, err)
			continue
		}
		want, _, _ := look(ops)
		reads := slices.DeleteFunc(want.Reads, func(x Item) bool { return x.Key == k })
		want.Reads = append(reads, Item{k, v})
		slices.SortFunc(want.Reads, func(a, b Item) int { return a.Key - b.Key })
		checkFace(t, more, want)
	}
	if counts[api.OK] == 0 || counts[api.ErrFuture] == 0 || counts[api.ErrOther] == 0 {
		t.Errorf("not each answer: %v", counts)
	}
}

// P6.1: the ops are left as they are, with what stands behind them, right or wrong; what stands behind them is not read.
func TestLookLeavesOps(t *testing.T) {
	for _, e := range row(read(1, 5), read(1, 0), read(2, 7), read(3, 1), api.Event{Kind: 9}) {
		ops := row(read(1, 0), write(1, 5), read(2, 6), e, write(3, 1), write(1, 0), write(2, 6), api.Event{Kind: api.Commit, Session: 8})
		all := slices.Clone(ops)
		for n := range len(ops) + 1 {
			look(ops[:n])
			if !slices.Equal(ops, all) {
				t.Fatalf("ops %v, were %v", ops, all)
			}
		}
		checkFace(t, ops[:3], Face{Reads: items(Item{1, 0}, Item{2, 6}), Writes: items(Item{1, 5})})
		checkFace(t, ops[:0], Face{})
	}
}

// P6.2: the lists of a Face share no memory with each other, up to their capacities, nor with the ops, nor with an earlier Face.
func TestLookNewMemory(t *testing.T) {
	var ops []api.Event
	for k := range api.MaxKeys {
		ops = append(ops, read(k, k), write(k, 50+k))
		want := wantFace(ops)
		early, _, _ := look(ops)
		face, _, _ := look(ops)
		all := slices.Clone(ops)
		clear(face.Reads[:cap(face.Reads)])
		if !slices.Equal(face.Writes, want.Writes) {
			t.Errorf("writes %v, were %v", face.Writes, want.Writes)
		}
		face, _, _ = look(ops)
		clear(face.Writes[:cap(face.Writes)])
		if !slices.Equal(face.Reads, want.Reads) {
			t.Errorf("reads %v, were %v", face.Reads, want.Reads)
		}
		clear(face.Reads[:cap(face.Reads)])
		if !slices.Equal(ops, all) {
			t.Errorf("ops %v, were %v", ops, all)
		}
		clear(ops)
		if !sameFace(early, want) {
			t.Errorf("face %v, was %v", early, want)
		}
		copy(ops, all)
	}
}

// P6.1: an answer hangs on no earlier one.
func TestLookTwice(t *testing.T) {
	for range 3 {
		checkFace(t, row(read(1, 0), write(2, 5)), Face{Reads: items(Item{1, 0}), Writes: items(Item{2, 5})})
		checkWrong(t, row(read(1, 7), read(1, 8)), 1, api.ErrOther)
		checkWrong(t, row(write(2, 7), read(2, 8)), 1, api.ErrOwn)
		checkFace(t, row(read(2, 6), write(1, 9)), Face{Reads: items(Item{2, 6}), Writes: items(Item{1, 9})})
		checkFace(t, nil, Face{})
	}
}

// Rule 5: an Item's fields can be compared, so it has those of the chapter and no others.
func TestItemFields(t *testing.T) {
	if (Item{1, 2}) != (Item{Key: 1, Value: 2}) || (Item{1, 2}) == (Item{2, 1}) {
		t.Error("items are compared wrongly")
	}
}
