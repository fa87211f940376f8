package source

import (
	"fmt"
	"math/rand"
	"slices"
	"testing"

	"inquest/api"
	"inquest/group"
	"inquest/inner"
)

func read(k, v int) api.Event  { return api.Event{Kind: api.Read, Session: 1, Key: k, Value: v} }
func write(k, v int) api.Event { return api.Event{Kind: api.Write, Session: 1, Key: k, Value: v} }

func row(l ...api.Event) []api.Event { return l }

func done(s int, ops ...api.Event) group.Tx { return group.Tx{Session: s, Done: true, Ops: ops} }
func gone(s int, ops ...api.Event) group.Tx { return group.Tx{Session: s, Ops: ops} }

func txs(l ...group.Tx) []group.Tx { return l }

func keys(l ...int) []int { return l }

func takes(l ...api.Take) []api.Take { return l }

// brief is how a list is printed where a test fails; long ones are cut off.
func brief(list any) string { return fmt.Sprintf("%.400s", fmt.Sprint(list)) }

// sameTxn says whether two transactions are the same; no keys and no reads are the same, nil or empty.
func sameTxn(a, b api.Txn) bool {
	return a.Session == b.Session && slices.Equal(a.Writes, b.Writes) && slices.Equal(a.Reads, b.Reads)
}

func sameTxns(a, b []api.Txn) bool { return slices.EqualFunc(a, b, sameTxn) }

func checkHist(t *testing.T, l []group.Tx, want ...api.Txn) {
	t.Helper()
	if got, at, err := Hist(l); !sameTxns(got.Txns, want) || at != 0 || err != api.OK {
		t.Fatalf("Hist(%s) = %s, %v, %v, want %s", brief(l), brief(got), at, err, brief(want))
	}
}

func checkWrong(t *testing.T, l []group.Tx, at int, err api.Errno) {
	t.Helper()
	if got, gotAt, gotErr := Hist(l); len(got.Txns) != 0 || gotAt != at || gotErr != err {
		t.Fatalf("Hist(%s) = %s, %v, %v, want %v, %v", brief(l), brief(got), gotAt, gotErr, at, err)
	}
}

// wrongOps are events that may not stand among a transaction's ops: valid ones of other kinds, and those that are not valid, in each of the ways that layer 3 knows.
func wrongOps() []api.Event {
	l := row(
		// No kind.
		api.Event{Kind: -1}, api.Event{Kind: 5}, api.Event{Kind: 1 << 32}, api.Event{Kind: 1<<32 + 1}, api.Event{Kind: -1 << 63}, api.Event{Kind: 1<<63 - 1, Session: 1, Key: 1, Value: 1},
		// A key or a value where there is none.
		api.Event{Key: 1}, api.Event{Value: 1}, api.Event{Kind: api.Commit, Key: -1}, api.Event{Kind: api.Commit, Session: 1, Key: 16}, api.Event{Kind: api.Commit, Value: 1}, api.Event{Kind: api.Abort, Key: 2}, api.Event{Kind: api.Abort, Value: -3},
	)
	for _, kind := range []int{api.Begin, api.Commit, api.Abort} {
		for _, s := range []int{-1, 0, 1, 7, 8} {
			l = append(l, api.Event{Kind: kind, Session: s})
		}
	}
	for _, kind := range []int{api.Read, api.Write} {
		for _, s := range []int{-1 << 63, -1, 8, 1 << 32, 1<<63 - 1} {
			l = append(l, api.Event{Kind: kind, Session: s, Key: 1, Value: 1})
		}
		for _, k := range []int{-1 << 63, -1, 16, 17, 1 << 32, 1<<63 - 1} {
			l = append(l, api.Event{Kind: kind, Session: 1, Key: k, Value: 1})
		}
		for _, v := range []int{-1 << 63, -1, 2147483648, 1 << 32, 1<<63 - 1} {
			l = append(l, api.Event{Kind: kind, Session: 1, Key: 1, Value: v})
		}
	}
	return l
}

// P7.1, P7.2: no transaction, and none that is committed.
func TestHistNothing(t *testing.T) {
	checkHist(t, nil)
	checkHist(t, txs())
	checkHist(t, txs(gone(0)))
	checkHist(t, txs(gone(0, write(1, 5)), gone(7, read(1, 5), read(2, 0))))
}

// P7.2: the chapter's examples, and DOC.md's.
func TestHistExamples(t *testing.T) {
	checkHist(t, txs(done(0, write(1, 5)), done(1, read(1, 5))), api.Txn{Writes: keys(1)}, api.Txn{Session: 1, Reads: takes(api.Take{Key: 1})})
	checkWrong(t, txs(done(0, write(1, 5)), done(1, read(1, 6))), 1, api.ErrThin)
	initial := takes(api.Take{Key: 1, From: -1}, api.Take{Key: 2, From: -1})
	checkHist(t, txs(done(0, read(1, 0), read(2, 0), write(1, 5)), done(1, read(1, 0), read(2, 0), write(2, 6))),
		api.Txn{Writes: keys(1), Reads: initial}, api.Txn{Session: 1, Writes: keys(2), Reads: initial})
}

// manyTxs are n transactions, each of which writes a key that the one ahead of it wrote, and reads that one's value; and what the history has of them.
func manyTxs(n int) ([]group.Tx, []api.Txn) {
	var l []group.Tx
	var want []api.Txn
	for i := range n {
		l = append(l, done(i*3%8, read(4, i), write(4, i+1)))
		want = append(want, api.Txn{Session: i * 3 % 8, Writes: keys(4), Reads: takes(api.Take{Key: 4, From: i - 1})})
	}
	return l, want
}

// P7.1: each number of transactions up to MaxTxns, and more: whoever they are, and whatever else is wrong.
func TestHistMany(t *testing.T) {
	for n := range api.MaxTxns + 1 {
		l, want := manyTxs(n)
		checkHist(t, l, want...)
		checkHist(t, make([]group.Tx, n))
	}
	for _, n := range []int{33, 34, 64, 1000} {
		l, _ := manyTxs(n)
		checkWrong(t, l, 0, api.ErrMany)
		checkWrong(t, make([]group.Tx, n), 0, api.ErrMany)
		for _, wrong := range txs(done(8), gone(-1), done(0, read(16, 0)), done(0, write(1, 0)), gone(0, write(4, 1)), done(0, write(1, 5), read(1, 6)), done(0, read(1, 7))) {
			for _, at := range []int{0, 5, n - 1} {
				l, _ := manyTxs(n)
				l[at] = wrong
				checkWrong(t, l, 0, api.ErrMany)
			}
		}
	}
}

// P7.1, P7.2: each session; and what is none, of committed transactions and others.
func TestHistSession(t *testing.T) {
	for s := range 8 {
		checkHist(t, txs(done(s)), api.Txn{Session: s})
		checkHist(t, txs(done(7-s), gone(s), done(s, write(1, 5))), api.Txn{Session: 7 - s}, api.Txn{Session: s, Writes: keys(1)})
		checkHist(t, txs(gone(s)))
	}
	for _, s := range []int{-1 << 63, -8, -1, 8, 9, 1 << 32, 1<<32 + 1, 1<<63 - 1} {
		for _, wrong := range txs(done(s), gone(s), done(s, write(1, 5)), gone(s, read(1, 0))) {
			checkWrong(t, txs(wrong), 0, api.ErrArg)
			checkWrong(t, txs(done(7), gone(0), wrong, done(1)), 2, api.ErrArg)
			checkWrong(t, txs(done(0), wrong, wrong), 1, api.ErrArg)
		}
	}
}

// P7.2: transactions without ops are in the history, if they are committed.
func TestHistNoOps(t *testing.T) {
	checkHist(t, txs(done(3), gone(2), group.Tx{Session: 5, Done: true, Ops: row()}, done(3)), api.Txn{Session: 3}, api.Txn{Session: 5}, api.Txn{Session: 3})
	checkHist(t, txs(done(3), done(1, write(1, 5)), done(2), done(0, read(1, 5))),
		api.Txn{Session: 3}, api.Txn{Session: 1, Writes: keys(1)}, api.Txn{Session: 2}, api.Txn{Reads: takes(api.Take{Key: 1, From: 1})})
}

// P7.1: an op that may not be, as the first one, the last one and between others, in a committed transaction and in another one.
func TestHistWrongOp(t *testing.T) {
	for _, w := range wrongOps() {
		for _, ops := range [][]api.Event{row(w), row(w, read(1, 0), write(1, 5)), row(read(1, 0), w, write(1, 5)), row(read(1, 0), write(1, 5), read(1, 5), w), row(w, w)} {
			for _, isDone := range []bool{true, false} {
				wrong := group.Tx{Session: 1, Done: isDone, Ops: ops}
				checkWrong(t, txs(wrong), 0, api.ErrArg)
				checkWrong(t, txs(done(0, write(2, 5)), wrong, gone(0)), 1, api.ErrArg)
				checkWrong(t, txs(gone(0), done(0), wrong, wrong, done(8)), 2, api.ErrArg)
			}
		}
	}
}

// P7.1: an op need not be of its transaction's session, and its session plays no part.
func TestHistOpsOfAnySession(t *testing.T) {
	far := func(kind, s, k, v int) api.Event { return api.Event{Kind: kind, Session: s, Key: k, Value: v} }
	checkHist(t, txs(done(0, far(api.Write, 7, 1, 5)), done(6, far(api.Read, 2, 1, 5), far(api.Write, 0, 1, 6), far(api.Read, 7, 1, 6))),
		api.Txn{Writes: keys(1)}, api.Txn{Session: 6, Writes: keys(1), Reads: takes(api.Take{Key: 1})})
	checkWrong(t, txs(done(0, far(api.Write, 7, 1, 5)), done(1, far(api.Write, 6, 1, 5))), 1, api.ErrTwice)
}

// P7.1: a Write of 0, in a committed transaction and in another one; a Read of 0 is none.
func TestHistZero(t *testing.T) {
	for _, k := range []int{0, 1, 15} {
		for _, isDone := range []bool{true, false} {
			for _, ops := range [][]api.Event{row(write(k, 0)), row(write(k, 5), write(k, 0)), row(write(k, 0), write(k, 5)), row(write(k, 0), write(k, 0)), row(read(k, 0), write(k, 0)), row(write(k, 0), read(k, 0)), row(write(3, 5), read(3, 5), write(k, 0))} {
				wrong := group.Tx{Session: 1, Done: isDone, Ops: ops}
				checkWrong(t, txs(wrong), 0, api.ErrZero)
				checkWrong(t, txs(done(0, write(2, 5)), gone(0), wrong, wrong), 2, api.ErrZero)
			}
		}
		checkHist(t, txs(done(1, read(k, 0), read(k, 0)), gone(0, read(k, 0))), api.Txn{Session: 1, Reads: takes(api.Take{Key: k, From: -1})})
	}
}

// P7.1: the same key and value written twice in one transaction, whatever stands between, committed or not.
func TestHistTwiceInOne(t *testing.T) {
	for _, ops := range [][]api.Event{row(write(1, 5), write(1, 5)), row(write(1, 5), write(1, 6), write(1, 5)), row(write(1, 5), read(1, 5), write(1, 5)), row(write(1, 5), write(2, 5), write(1, 5)), row(read(1, 0), write(3, 1), write(1, 5), write(3, 2), write(1, 5), read(1, 5))} {
		for _, wrong := range txs(done(1, ops...), gone(1, ops...)) {
			checkWrong(t, txs(wrong), 0, api.ErrTwice)
			checkWrong(t, txs(done(0), gone(0, write(1, 7)), wrong), 2, api.ErrTwice)
		}
	}
}

// P7.1: the same key and value written in two transactions, each of which may be committed or not; the later one has the error.
func TestHistTwiceInTwo(t *testing.T) {
	for i := range 4 {
		first, second := gone(1, write(4, 1), write(1, 5)), gone(1, write(1, 5), write(4, 2))
		first.Done, second.Done = i&1 != 0, i&2 != 0
		checkWrong(t, txs(first, second), 1, api.ErrTwice)
		checkWrong(t, txs(done(0, write(2, 5)), first, gone(0), done(3, read(2, 5)), second), 4, api.ErrTwice)
		checkWrong(t, txs(first, done(2), second, second), 2, api.ErrTwice)
		// The first one wrote over it.
		first.Ops = append(first.Ops, write(1, 9))
		checkWrong(t, txs(first, second), 1, api.ErrTwice)
	}
}

// P7.1: the same value of different keys, other values of one key, and Reads are no second Write.
func TestHistNotTwice(t *testing.T) {
	checkHist(t, txs(done(0, write(1, 5), write(2, 5), write(5, 1)), done(1, write(3, 5), write(1, 6), write(5, 2))), api.Txn{Writes: keys(1, 2, 5)}, api.Txn{Session: 1, Writes: keys(1, 3, 5)})
	checkHist(t, txs(done(0, write(1, 5), read(1, 5), read(1, 5)), done(1, read(1, 5)), gone(1, read(1, 5))), api.Txn{Writes: keys(1)}, api.Txn{Session: 1, Reads: takes(api.Take{Key: 1})})
	// All keys with one value, and one key with values at both ends.
	var ops []api.Event
	for k := range api.MaxKeys {
		ops = append(ops, write(k, 2147483647))
	}
	all := keys(0, 1, 2, 3, 4, 5, 6, 7, 8, 9, 10, 11, 12, 13, 14, 15)
	checkHist(t, txs(done(0, ops...), done(0, write(15, 1), write(15, 2147483646)), done(0, read(15, 2147483647))), api.Txn{Writes: all}, api.Txn{Writes: keys(15)}, api.Txn{Reads: takes(api.Take{Key: 15})})
	// Keys and values that give the same sum, or the same digits one behind the other.
	checkHist(t, txs(done(0, write(1, 12), write(11, 2), write(2, 11), write(12, 1))), api.Txn{Writes: keys(1, 2, 11, 12)})
	checkHist(t, txs(done(0, write(0, 16), write(1, 15), write(15, 1))), api.Txn{Writes: keys(0, 1, 15)})
}

// P7.1: ops that layer 6 refuses are wrong in a committed transaction only.
func TestHistLook(t *testing.T) {
	for _, c := range []struct {
		ops []api.Event
		err api.Errno
	}{
		{row(write(1, 5), read(1, 6)), api.ErrOwn}, {row(write(1, 5), read(1, 0)), api.ErrOwn}, {row(write(1, 5), write(1, 6), read(1, 5)), api.ErrOwn}, {row(read(1, 0), write(1, 5), read(1, 0)), api.ErrOwn},
		{row(read(1, 3), read(1, 4)), api.ErrOther}, {row(read(1, 0), read(2, 0), read(1, 4), write(1, 5)), api.ErrOther}, {row(read(1, 4), read(1, 0)), api.ErrOther},
		{row(read(1, 5), write(1, 5)), api.ErrFuture}, {row(read(1, 5), write(2, 1), write(1, 4), write(1, 5)), api.ErrFuture},
		// Of two, the first one's.
		{row(write(1, 5), read(2, 3), read(2, 4), read(1, 6)), api.ErrOther}, {row(read(2, 7), write(1, 5), read(1, 6), write(2, 7)), api.ErrFuture}, {row(write(1, 5), read(1, 6), read(2, 3), read(2, 4)), api.ErrOwn},
	} {
		checkWrong(t, txs(done(1, c.ops...)), 0, c.err)
		checkWrong(t, txs(gone(0), done(0, write(3, 1)), done(1, c.ops...), done(7)), 2, c.err)
		checkHist(t, txs(gone(1, c.ops...)))
		checkHist(t, txs(done(2), gone(1, c.ops...), done(3, write(3, 7))), api.Txn{Session: 2}, api.Txn{Session: 3, Writes: keys(3)})
	}
}

// P7.1: what a transaction that is not committed reads is not asked.
func TestHistGoneReads(t *testing.T) {
	checkHist(t, txs(gone(0, read(1, 9))))
	checkHist(t, txs(gone(0, read(1, 9), write(1, 9))))
	checkHist(t, txs(gone(0, write(1, 9), write(1, 8)), gone(1, read(1, 9)), gone(2, read(1, 8)), done(3, write(1, 7), write(1, 6)), gone(4, read(1, 7))), api.Txn{Session: 3, Writes: keys(1)})
}

// P7.2: a Read of 0 is from nobody, with and without writers of its key.
func TestHistReadZero(t *testing.T) {
	nobody := takes(api.Take{Key: 1, From: -1})
	checkHist(t, txs(done(0, read(1, 0))), api.Txn{Reads: nobody})
	checkHist(t, txs(done(2, write(1, 5)), done(0, read(1, 0))), api.Txn{Session: 2, Writes: keys(1)}, api.Txn{Reads: nobody})
	checkHist(t, txs(done(0, read(1, 0)), done(2, write(1, 5))), api.Txn{Reads: nobody}, api.Txn{Session: 2, Writes: keys(1)})
	checkHist(t, txs(done(0, read(1, 0), write(1, 6)), gone(1, write(1, 5))), api.Txn{Writes: keys(1), Reads: nobody})
	checkHist(t, txs(done(0, read(0, 0), read(15, 0))), api.Txn{Reads: takes(api.Take{Key: 0, From: -1}, api.Take{Key: 15, From: -1})})
}

// P7.1: a Read of what nobody wrote: no one wrote the key, or that value of it; another key has it, or it was only read.
func TestHistThin(t *testing.T) {
	checkWrong(t, txs(done(0, read(1, 9))), 0, api.ErrThin)
	checkWrong(t, txs(done(0, read(0, 1))), 0, api.ErrThin)
	checkWrong(t, txs(done(0, read(15, 2147483647))), 0, api.ErrThin)
	checkWrong(t, txs(done(0, write(1, 8)), done(0, read(1, 9))), 1, api.ErrThin)
	checkWrong(t, txs(done(0, write(2, 9)), done(0, read(1, 9))), 1, api.ErrThin)
	checkWrong(t, txs(done(0, write(9, 1)), done(0, read(1, 9))), 1, api.ErrThin)
	checkWrong(t, txs(gone(0, write(2, 9)), done(0, write(2, 8)), gone(0), done(0, read(1, 9), write(1, 8))), 3, api.ErrThin)
	checkWrong(t, txs(gone(0, read(1, 9)), done(1, read(1, 9)), done(2, read(1, 9))), 1, api.ErrThin)
	checkWrong(t, txs(done(0, read(1, 9), write(2, 9))), 0, api.ErrThin)
}

// P7.1: a Read of what a transaction that is not committed wrote, as its last value or not, ahead of the Read or behind it.
func TestHistAborted(t *testing.T) {
	checkWrong(t, txs(gone(0, write(1, 9)), done(0, read(1, 9))), 1, api.ErrAborted)
	checkWrong(t, txs(done(0, read(1, 9)), gone(0, write(1, 9))), 0, api.ErrAborted)
	checkWrong(t, txs(done(3), gone(0, write(1, 9), write(1, 8)), done(0, read(1, 9))), 2, api.ErrAborted)
	checkWrong(t, txs(gone(0, write(1, 9), write(1, 8)), done(0, read(1, 8))), 1, api.ErrAborted)
	checkWrong(t, txs(gone(0, write(1, 9)), done(1, write(1, 8)), done(0, read(1, 9))), 2, api.ErrAborted)
	checkWrong(t, txs(gone(0, read(1, 9), write(1, 9)), done(0, read(1, 9))), 1, api.ErrAborted)
	checkWrong(t, txs(gone(0, write(1, 9)), done(0, read(1, 9), write(1, 7))), 1, api.ErrAborted)
}

// P7.1: a Read of what a committed transaction wrote over, ahead of the Read or behind it; the last value is right.
func TestHistMiddle(t *testing.T) {
	over := done(0, write(1, 7), write(1, 9), write(2, 7), write(1, 8))
	reads := api.Txn{Session: 1, Reads: takes(api.Take{Key: 1})}
	for _, v := range []int{7, 9} {
		checkWrong(t, txs(over, done(1, read(1, v))), 1, api.ErrMiddle)
		checkWrong(t, txs(done(1, read(1, v)), over), 0, api.ErrMiddle)
		checkWrong(t, txs(gone(0), over, done(2, read(1, 8)), done(1, read(1, v), write(1, 6))), 3, api.ErrMiddle)
	}
	checkHist(t, txs(over, done(1, read(1, 8))), api.Txn{Writes: keys(1, 2)}, reads)
	checkHist(t, txs(over, done(1, read(2, 7))), api.Txn{Writes: keys(1, 2)}, api.Txn{Session: 1, Reads: takes(api.Take{Key: 2})})
	// Another transaction's later write of the key is no matter.
	checkHist(t, txs(done(0, write(1, 5)), done(1, read(1, 5)), done(2, write(1, 6))), api.Txn{Writes: keys(1)}, reads, api.Txn{Session: 2, Writes: keys(1)})
	checkHist(t, txs(done(0, write(1, 5)), done(2, write(1, 6)), done(1, read(1, 5))), api.Txn{Writes: keys(1)}, api.Txn{Session: 2, Writes: keys(1)}, reads)
	// The last value of one key is another key's value that was written over.
	checkWrong(t, txs(done(0, write(1, 5), write(1, 6), write(2, 6), write(2, 5)), done(1, read(1, 5))), 1, api.ErrMiddle)
	checkWrong(t, txs(done(0, write(1, 5), write(1, 6), write(2, 6), write(2, 5)), done(1, read(2, 6))), 1, api.ErrMiddle)
}

// P7.2: what a later transaction wrote is read from it; two may read from each other.
func TestHistLater(t *testing.T) {
	checkHist(t, txs(done(0, read(1, 5)), done(1), done(2, write(1, 5))), api.Txn{Reads: takes(api.Take{Key: 1, From: 2})}, api.Txn{Session: 1}, api.Txn{Session: 2, Writes: keys(1)})
	checkHist(t, txs(done(0, read(1, 5), write(2, 6)), done(1, read(2, 6), write(1, 5))),
		api.Txn{Writes: keys(2), Reads: takes(api.Take{Key: 1, From: 1})}, api.Txn{Session: 1, Writes: keys(1), Reads: takes(api.Take{Key: 2, From: 0})})
}

// P7.2: what a transaction wrote itself is not among its Reads; ahead of its Write the Read is wrong.
func TestHistOwnWrite(t *testing.T) {
	checkHist(t, txs(done(0, write(1, 5), read(1, 5))), api.Txn{Writes: keys(1)})
	checkHist(t, txs(done(0, write(1, 5), read(1, 5), write(1, 6), read(1, 6))), api.Txn{Writes: keys(1)})
	checkHist(t, txs(done(0, write(1, 4)), done(1, read(1, 4), write(1, 5), read(1, 5))), api.Txn{Writes: keys(1)}, api.Txn{Session: 1, Writes: keys(1), Reads: takes(api.Take{Key: 1})})
	checkWrong(t, txs(done(0, read(1, 5), write(1, 5))), 0, api.ErrFuture)
	checkWrong(t, txs(done(0, write(1, 5), write(1, 6), read(1, 5))), 0, api.ErrOwn)
}

// P7.2: From is the number among the committed ones, also where others stand ahead of the writer, between it and the reader, and behind them.
func TestHistNumbers(t *testing.T) {
	for gap := range 4 {
		value := 0
		// As many others as the gap has; each writes a value of its own, and reads one that no committed one wrote.
		others := func() []group.Tx {
			var l []group.Tx
			for i := range gap {
				value++
				l = append(l, gone(i, write(9, value), read(9, value+1)))
			}
			return l
		}
		l := append(others(), done(0, write(1, 5)))
		l = append(append(l, others()...), done(1, write(1, 6)))
		l = append(append(l, others()...), done(2, read(1, 6), read(2, 8)))
		l = append(append(l, others()...), done(3, read(1, 5), write(2, 8)))
		l = append(l, others()...)
		checkHist(t, l, api.Txn{Writes: keys(1)}, api.Txn{Session: 1, Writes: keys(1)},
			api.Txn{Session: 2, Reads: takes(api.Take{Key: 1, From: 1}, api.Take{Key: 2, From: 3})}, api.Txn{Session: 3, Writes: keys(2), Reads: takes(api.Take{Key: 1, From: 0})})
	}
}

// P7.2: Writes and Reads are in increasing order of the keys, each key once, whatever the order of the ops.
func TestHistKeysRise(t *testing.T) {
	r := rand.New(rand.NewSource(7))
	all := keys(0, 1, 2, 3, 4, 5, 6, 7, 8, 9, 10, 11, 12, 13, 14, 15)
	for range 100 {
		var writes, reads []api.Event
		var want []api.Take
		for _, k := range r.Perm(api.MaxKeys) {
			writes = append(writes, write(k, 1+k), read(k, 1+k), write(k, 100+k), read(k, 100+k))
		}
		for _, k := range r.Perm(api.MaxKeys) {
			reads = append(reads, read(k, 100+k), read(k, 100+k))
		}
		for k := range api.MaxKeys {
			want = append(want, api.Take{Key: k, From: 1})
		}
		checkHist(t, txs(done(6), done(0, writes...), done(5, reads...)), api.Txn{Session: 6}, api.Txn{Writes: all}, api.Txn{Session: 5, Reads: want})
	}
}

// P7.2: First plays no part, right or wrong.
func TestHistFirst(t *testing.T) {
	for _, n := range []int{-1 << 63, -1, 0, 1, 400, 1<<63 - 1} {
		l := txs(done(0, write(1, 5)), gone(1, write(1, 6)), done(1, read(1, 5)), done(2, read(1, 6)))
		for i := range l {
			l[i].First = n - i
		}
		checkHist(t, l[:3], api.Txn{Writes: keys(1)}, api.Txn{Session: 1, Reads: takes(api.Take{Key: 1})})
		checkWrong(t, l, 3, api.ErrAborted)
	}
}

// fault is a transaction that is wrong in one way behind faultHead, of kind 2 to 5 of P7.1.
type fault struct {
	tx   group.Tx
	kind int
	err  api.Errno
}

// faultHead are transactions that are right, of which the faults read.
func faultHead() []group.Tx {
	return txs(done(0, write(13, 1), write(13, 2), write(14, 1)), gone(0, write(12, 1), write(12, 2)))
}

// faults have keys of their own each, so that any two of them are wrong in their own ways.
func faults() []fault {
	return []fault{
		{done(8), 2, api.ErrArg}, {gone(-1), 2, api.ErrArg}, {done(1, api.Event{Kind: api.Commit}), 2, api.ErrArg}, {gone(1, read(16, 0)), 2, api.ErrArg},
		{done(2, write(1, 0)), 3, api.ErrZero}, {gone(2, read(2, 9), write(2, 0)), 3, api.ErrZero}, {done(2, write(3, 1), write(3, 1)), 3, api.ErrTwice}, {gone(2, write(14, 1)), 3, api.ErrTwice},
		{done(3, write(4, 1), read(4, 2)), 4, api.ErrOwn}, {done(3, read(5, 0), read(5, 1)), 4, api.ErrOther}, {done(3, read(6, 1), write(6, 1)), 4, api.ErrFuture},
		{done(4, read(7, 1)), 5, api.ErrThin}, {done(4, read(12, 1)), 5, api.ErrAborted}, {done(4, read(13, 1)), 5, api.ErrMiddle},
	}
}

// P7.1: of two wrong transactions the first kind's error, whichever is first; of one kind the first one's.
func TestHistFirstOfTwo(t *testing.T) {
	for i, v := range faults() {
		checkWrong(t, append(faultHead(), v.tx), 2, v.err)
		for j, w := range faults() {
			// The same one again would write the same again.
			if i == j {
				continue
			}
			l := append(faultHead(), v.tx, done(5, write(15, 3)), w.tx, gone(6, read(15, 3)))
			if v.kind <= w.kind {
				checkWrong(t, l, 2, v.err)
			} else {
				checkWrong(t, l, 4, w.err)
			}
		}
	}
}

// P7.1: of two that are wrong in one transaction, the first kind's error; of one kind the first op's, but of the Reads the lesser key's.
func TestHistFirstInOne(t *testing.T) {
	for i, v := range faults() {
		for j, w := range faults() {
			if i == j || !v.tx.Done || !w.tx.Done || v.tx.Session == 8 || w.tx.Session == 8 {
				continue
			}
			both := done(1, append(slices.Clone(v.tx.Ops), w.tx.Ops...)...)
			first := v
			if w.kind < v.kind || w.kind == 5 && v.kind == 5 && w.tx.Ops[0].Key < v.tx.Ops[0].Key {
				first = w
			}
			checkWrong(t, append(faultHead(), both), 2, first.err)
			checkWrong(t, append(faultHead(), done(7), both, done(6, read(1, 9))), 3, first.err)
		}
	}
}

// P7.1: a transaction that has no session has ErrArg, whatever its ops are, and its ops are not asked for other errors first.
func TestHistSessionFirst(t *testing.T) {
	for _, v := range faults() {
		wrong := v.tx
		wrong.Session = 8
		checkWrong(t, append(faultHead(), wrong), 2, api.ErrArg)
		checkWrong(t, append(faultHead(), v.tx, gone(8)), 2+oneIf(v.kind > 2), api.ErrArg)
	}
}

// oneIf is 1 if it holds.
func oneIf(holds bool) int {
	if holds {
		return 1
	}
	return 0
}

// P7.1: ErrZero and ErrTwice of one kind: the first Write that is wrong counts, in whichever transaction.
func TestHistZeroAndTwice(t *testing.T) {
	checkWrong(t, txs(done(0, write(1, 5), write(1, 5), write(1, 0))), 0, api.ErrTwice)
	checkWrong(t, txs(done(0, write(1, 5), write(1, 0), write(1, 5))), 0, api.ErrZero)
	checkWrong(t, txs(done(0, write(1, 5)), gone(0, write(1, 5)), done(0, write(1, 0))), 1, api.ErrTwice)
	checkWrong(t, txs(done(0, write(1, 5)), gone(0, write(1, 0)), done(0, write(1, 5))), 1, api.ErrZero)
	checkWrong(t, txs(done(0, write(1, 0)), done(0, write(1, 0))), 0, api.ErrZero)
}

// isValid says whether an event may be an op, by the words of chapter 3.
func isValid(e api.Event) bool {
	return (e.Kind == api.Read || e.Kind == api.Write) && e.Session >= 0 && e.Session <= 7 && e.Key >= 0 && e.Key <= 15 && e.Value >= 0 && e.Value <= 2147483647
}

// wantSecond is the first error of kind 2 of P7.1, and its transaction.
func wantSecond(l []group.Tx) (int, api.Errno) {
	for at, tx := range l {
		if tx.Session < 0 || tx.Session > 7 || slices.ContainsFunc(tx.Ops, func(e api.Event) bool { return !isValid(e) }) {
			return at, api.ErrArg
		}
	}
	return 0, api.OK
}

// wantThird is the first error of kind 3: each Write is held against all ahead of it.
func wantThird(l []group.Tx) (int, api.Errno) {
	var ahead []api.Event
	for at, tx := range l {
		for _, op := range tx.Ops {
			if op.Kind != api.Write {
				continue
			}
			if op.Value == 0 {
				return at, api.ErrZero
			}
			if slices.ContainsFunc(ahead, func(e api.Event) bool { return e.Key == op.Key && e.Value == op.Value }) {
				return at, api.ErrTwice
			}
			ahead = append(ahead, op)
		}
	}
	return 0, api.OK
}

// wantFourth is the first error of kind 4.
func wantFourth(l []group.Tx) (int, api.Errno) {
	for at, tx := range l {
		if !tx.Done {
			continue
		}
		if _, _, err := inner.Look(tx); err != api.OK {
			return at, err
		}
	}
	return 0, api.OK
}

// lastWrite is the last Write of a key, and whether there is one.
func lastWrite(ops []api.Event, k int) (api.Event, bool) {
	for _, op := range slices.Backward(ops) {
		if op.Kind == api.Write && op.Key == k {
			return op, true
		}
	}
	return api.Event{}, false
}

// firstRead is the first op of a key, and whether it is a Read.
func firstRead(ops []api.Event, k int) (api.Event, bool) {
	i := slices.IndexFunc(ops, func(e api.Event) bool { return e.Key == k })
	if i < 0 || ops[i].Kind != api.Read {
		return api.Event{}, false
	}
	return ops[i], true
}

// wantFrom is who wrote what a Read reads: by going through all transactions.
func wantFrom(l []group.Tx, read api.Event) (int, api.Errno) {
	if read.Value == 0 {
		return -1, api.OK
	}
	number := 0
	for _, tx := range l {
		if slices.ContainsFunc(tx.Ops, func(e api.Event) bool {
			return e.Kind == api.Write && e.Key == read.Key && e.Value == read.Value
		}) {
			last, _ := lastWrite(tx.Ops, read.Key)
			switch {
			case !tx.Done:
				return 0, api.ErrAborted
			case last.Value != read.Value:
				return 0, api.ErrMiddle
			}
			return number, api.OK
		}
		number += oneIf(tx.Done)
	}
	return 0, api.ErrThin
}

// wantTxns are the history's transactions; or the first error of kind 5, and its transaction.
func wantTxns(l []group.Tx) ([]api.Txn, int, api.Errno) {
	var want []api.Txn
	for at, tx := range l {
		if !tx.Done {
			continue
		}
		txn := api.Txn{Session: tx.Session}
		for k := range 16 {
			if _, found := lastWrite(tx.Ops, k); found {
				txn.Writes = append(txn.Writes, k)
			}
			read, found := firstRead(tx.Ops, k)
			if !found {
				continue
			}
			from, err := wantFrom(l, read)
			if err != api.OK {
				return nil, at, err
			}
			txn.Reads = append(txn.Reads, api.Take{Key: k, From: from})
		}
		want = append(want, txn)
	}
	return want, 0, api.OK
}

// checkByWords holds Hist against the chapter's words, and tells the error that it should have.
func checkByWords(t *testing.T, l []group.Tx) api.Errno {
	t.Helper()
	if len(l) > 32 {
		checkWrong(t, l, 0, api.ErrMany)
		return api.ErrMany
	}
	for _, want := range []func([]group.Tx) (int, api.Errno){wantSecond, wantThird, wantFourth} {
		if at, err := want(l); err != api.OK {
			checkWrong(t, l, at, err)
			return err
		}
	}
	want, at, err := wantTxns(l)
	if err != api.OK {
		checkWrong(t, l, at, err)
		return err
	}
	checkHist(t, l, want...)
	return api.OK
}

// checkCounts checks that there was each of these answers.
func checkCounts(t *testing.T, counts map[api.Errno]int, errs ...api.Errno) {
	t.Helper()
	for _, err := range errs {
		if counts[err] == 0 {
			t.Errorf("no transactions with %v", err)
		}
	}
}

// shortTxs are all transactions of at most n of these ops, each as a committed one and as another one.
func shortTxs(each []api.Event, n int) []group.Tx {
	var l []group.Tx
	var longer func(ops []api.Event)
	longer = func(ops []api.Event) {
		l = append(l, done(1, ops...), gone(2, ops...))
		if len(ops) == n {
			return
		}
		for _, e := range each {
			longer(append(slices.Clone(ops), e))
		}
	}
	longer(nil)
	return l
}

// P7.1, P7.2: all lists of two transactions of at most two ops of two keys, of one of at most four ops, and of three of one op each, held against the chapter's words.
func TestHistAllShort(t *testing.T) {
	var each []api.Event
	for v := range 3 {
		each = append(each, read(1, v), write(1, v), read(2, v), write(2, v))
	}
	counts := map[api.Errno]int{}
	check := func(l ...group.Tx) { counts[checkByWords(t, l)]++ }
	for _, a := range shortTxs(each, 4) {
		check(a)
	}
	two := shortTxs(append(slices.Clone(each), api.Event{Kind: api.Begin}), 2)
	for _, a := range two {
		for _, b := range two {
			check(a, b)
		}
	}
	three := shortTxs(each, 1)
	for _, a := range three {
		for _, b := range three {
			for _, c := range three {
				check(a, b, c)
			}
		}
	}
	checkCounts(t, counts, api.OK, api.ErrArg, api.ErrZero, api.ErrTwice, api.ErrFuture, api.ErrOwn, api.ErrOther, api.ErrThin, api.ErrAborted, api.ErrMiddle)
}

// chanceWrites are n transactions by chance that only write, each value of a key once.
func chanceWrites(r *rand.Rand, n, keyCount int) []group.Tx {
	var l []group.Tx
	value := 0
	for range n {
		tx := group.Tx{Session: r.Intn(8), Done: r.Intn(4) != 0, First: r.Intn(400)}
		for range r.Intn(6) {
			value += 1 + r.Intn(3)
			tx.Ops = append(tx.Ops, write(r.Intn(keyCount), value))
		}
		l = append(l, tx)
	}
	return l
}

// chanceValue is a value of a key that may be read of others: 0, or what a committed one of the list wrote last, but not the one at not.
func chanceValue(r *rand.Rand, l []group.Tx, not, k int) int {
	at := r.Intn(len(l))
	last, found := lastWrite(l[at].Ops, k)
	if !found || !l[at].Done || at == not {
		return 0
	}
	return last.Value
}

// chanceTxs are n transactions by chance without an error.
func chanceTxs(r *rand.Rand, n int) []group.Tx {
	keyCount := 1 + r.Intn(16)
	l := chanceWrites(r, n, keyCount)
	reads := make([][]api.Event, n)
	for at := range l {
		for _, k := range r.Perm(keyCount)[:r.Intn(keyCount+1)] {
			reads[at] = append(reads[at], read(k, chanceValue(r, l, at, k)))
		}
	}
	for at := range l {
		l[at].Ops = append(reads[at], l[at].Ops...)
		for k := range keyCount {
			if last, found := lastWrite(l[at].Ops, k); found && r.Intn(2) == 0 {
				l[at].Ops = append(l[at].Ops, read(k, last.Value))
			}
		}
	}
	return l
}

// spoil puts one op by chance into a transaction, drops one, or changes whether it is committed.
func spoil(r *rand.Rand, l []group.Tx) {
	at := r.Intn(len(l))
	other := l[r.Intn(len(l))].Ops
	ops := slices.Clone(l[at].Ops)
	e := row(read(r.Intn(16), r.Intn(60)), write(r.Intn(16), r.Intn(60)))[r.Intn(2)]
	if len(other) > 0 && r.Intn(3) != 0 {
		e = other[r.Intn(len(other))]
		e.Kind = api.Read + r.Intn(2)
	}
	wrong := wrongOps()
	switch r.Intn(8) {
	case 0:
		l[at].Done = !l[at].Done
	case 1:
		e = wrong[r.Intn(len(wrong))]
		fallthrough
	case 2, 3, 4, 5:
		ops = slices.Insert(ops, r.Intn(len(ops)+1), e)
	default:
		if len(ops) > 0 {
			i := r.Intn(len(ops))
			ops = slices.Delete(ops, i, i+1)
		}
	}
	l[at].Ops = ops
}

// P7.1, P7.2: transactions by chance, right ones and such that were spoilt up to three times, held against the chapter's words.
func TestHistByChance(t *testing.T) {
	r := rand.New(rand.NewSource(77))
	counts := map[api.Errno]int{}
	for range 3000 {
		l := chanceTxs(r, 1+r.Intn(33))
		if err := checkByWords(t, l); err != api.OK && err != api.ErrMany {
			t.Fatalf("Hist(%s): %v", brief(l), err)
		}
		for range 3 {
			spoil(r, l)
			counts[checkByWords(t, l)]++
		}
	}
	checkCounts(t, counts, api.OK, api.ErrArg, api.ErrMany, api.ErrZero, api.ErrTwice, api.ErrFuture, api.ErrOwn, api.ErrOther, api.ErrThin, api.ErrAborted, api.ErrMiddle)
}

// mustHist is the history of transactions that have no error.
func mustHist(t *testing.T, l []group.Tx) []api.Txn {
	t.Helper()
	h, at, err := Hist(l)
	if at != 0 || err != api.OK {
		t.Fatalf("Hist(%s): %v, %v", brief(l), at, err)
	}
	return h.Txns
}

// cloned are transactions with ops of their own.
func cloned(l []group.Tx) []group.Tx {
	l = slices.Clone(l)
	for i := range l {
		l[i].Ops = slices.Clone(l[i].Ops)
	}
	return l
}

// renamed are transactions with other values, which differ where they differed; 0 stays.
func renamed(r *rand.Rand, l []group.Tx) []group.Tx {
	l = cloned(l)
	factor, names := 1+2*r.Intn(1<<30), map[int]int{0: 0}
	for i := range l {
		for j, op := range l[i].Ops {
			if _, found := names[op.Value]; !found {
				names[op.Value] = 1 + (len(names)*factor)%2147483647
			}
			l[i].Ops[j].Value = names[op.Value]
		}
	}
	return l
}

// P7.3: with all values but 0 replaced by others that differ where they differed, the history is the same, and so is an error.
func TestHistOtherValues(t *testing.T) {
	r := rand.New(rand.NewSource(73))
	for range 1000 {
		l := chanceTxs(r, 1+r.Intn(32))
		checkHist(t, renamed(r, l), mustHist(t, l)...)
	}
	counts := map[api.Errno]int{}
	for range 1000 {
		l := chanceWithout(r, wantSecond)
		want, at, err := Hist(l)
		counts[err]++
		if err != api.OK {
			checkWrong(t, renamed(r, l), at, err)
		} else {
			checkHist(t, renamed(r, l), want.Txns...)
		}
	}
	checkCounts(t, counts, api.OK, api.ErrZero, api.ErrTwice, api.ErrFuture, api.ErrOwn, api.ErrOther, api.ErrThin, api.ErrAborted, api.ErrMiddle)
}

// chanceWithout are transactions by chance, spoilt, but without the errors that are named.
func chanceWithout(r *rand.Rand, without func([]group.Tx) (int, api.Errno)) []group.Tx {
	for {
		l := chanceTxs(r, 1+r.Intn(32))
		spoil(r, l)
		if _, err := without(l); err == api.OK {
			return l
		}
	}
}

// P7.3: without the transactions that are not committed the history is the same.
func TestHistWithoutGone(t *testing.T) {
	r := rand.New(rand.NewSource(74))
	dropped := 0
	for range 1000 {
		l := chanceTxs(r, 1+r.Intn(32))
		kept := slices.DeleteFunc(slices.Clone(l), func(tx group.Tx) bool { return !tx.Done })
		dropped += len(l) - len(kept)
		checkHist(t, kept, mustHist(t, l)...)
	}
	if dropped == 0 {
		t.Error("all transactions were committed")
	}
}

// P7.1: many ops in one transaction, and a fault behind them.
func TestHistManyOps(t *testing.T) {
	var ops []api.Event
	for i := range 20000 {
		ops = append(ops, write(i%16, 1+i), read(i%16, 1+i))
	}
	all := keys(0, 1, 2, 3, 4, 5, 6, 7, 8, 9, 10, 11, 12, 13, 14, 15)
	checkHist(t, txs(done(0, ops...), done(1, read(15, 20000))), api.Txn{Writes: all}, api.Txn{Session: 1, Reads: takes(api.Take{Key: 15})})
	checkWrong(t, txs(done(0, ops...), done(1, read(15, 16))), 1, api.ErrMiddle)
	checkWrong(t, txs(done(0, ops...), done(1, read(15, 20001))), 1, api.ErrThin)
	checkWrong(t, txs(done(0, ops...), done(1, write(15, 16))), 1, api.ErrTwice)
	checkWrong(t, txs(gone(0, ops...), done(1, read(15, 20000))), 1, api.ErrAborted)
	checkWrong(t, txs(done(0, append(slices.Clone(ops), read(0, 1))...)), 0, api.ErrOwn)
}

// sameTxs says whether two lists of transactions are the same in all their fields.
func sameTxs(a, b []group.Tx) bool {
	return slices.EqualFunc(a, b, func(x, y group.Tx) bool {
		return x.Session == y.Session && x.Done == y.Done && x.First == y.First && slices.Equal(x.Ops, y.Ops)
	})
}

// P7.1: the transactions and their ops are left as they are, with what stands behind them in their capacities, which is not read either.
func TestHistLeavesTxs(t *testing.T) {
	for _, v := range append(faults(), fault{tx: done(4, read(13, 2), read(14, 1)), err: api.OK}) {
		l := append(faultHead(), v.tx, gone(8), done(1, write(1, 0)), done(9, read(1, 1)))
		for i := range l {
			// What stands behind the ops is wrong in each way.
			l[i].Ops = append(slices.Clone(l[i].Ops), write(14, 1), read(9, 9), api.Event{Kind: api.Abort, Session: 8})
		}
		all := cloned(l)
		short := slices.Clone(l)
		for i := range short {
			short[i].Ops = l[i].Ops[:len(l[i].Ops)-3]
		}
		head := cloned(short)
		for n := range 4 {
			_, _, err := Hist(short[:n])
			if n < 3 && err != api.OK || n == 3 && err != v.err {
				t.Fatalf("Hist(%s): %v", brief(short[:n]), err)
			}
			if !sameTxs(l, all) || !sameTxs(short, head) {
				t.Fatalf("transactions %v, were %v", l, all)
			}
		}
	}
}

// fill puts v into a whole list, and behind it up to its capacity.
func fill[T any](list []T, v T) {
	list = list[:cap(list)]
	for i := range list {
		list[i] = v
	}
}

// P7.2: the lists of a history share no memory with each other, up to their capacities.
func TestHistListsApart(t *testing.T) {
	r := rand.New(rand.NewSource(76))
	for range 100 {
		l := chanceTxs(r, 1+r.Intn(32))
		want := mustHist(t, l)
		for i := range want {
			for _, isOfWrites := range []bool{true, false} {
				got := mustHist(t, l)
				if isOfWrites {
					fill(got[i].Writes, -9)
					got[i].Writes = want[i].Writes
				} else {
					fill(got[i].Reads, api.Take{Key: -9, From: -9})
					got[i].Reads = want[i].Reads
				}
				if !sameTxns(got, want) {
					t.Fatalf("with a list of %v filled: %v, was %v", i, got, want)
				}
			}
		}
	}
}

// P7.2: the lists of a history share no memory with the transactions, nor with an earlier history.
func TestHistNewMemory(t *testing.T) {
	r := rand.New(rand.NewSource(75))
	for range 200 {
		l := chanceTxs(r, 1+r.Intn(32))
		all := cloned(l)
		want := mustHist(t, cloned(l))
		early, late := mustHist(t, l), mustHist(t, l)
		for _, txn := range late {
			fill(txn.Writes, -9)
			fill(txn.Reads, api.Take{Key: -9, From: -9})
		}
		fill(late, api.Txn{Session: -9})
		if !sameTxs(l, all) {
			t.Fatalf("transactions %v, were %v", l, all)
		}
		for i := range l {
			fill(l[i].Ops, api.Event{Kind: -9, Key: -9})
		}
		fill(l, group.Tx{Session: -9})
		if !sameTxns(early, want) {
			t.Fatalf("history %v, was %v", early, want)
		}
	}
}

// P7.1: an answer hangs on no earlier one.
func TestHistTwiceAsked(t *testing.T) {
	for range 3 {
		checkHist(t, txs(done(0, write(1, 5)), done(1, read(1, 5))), api.Txn{Writes: keys(1)}, api.Txn{Session: 1, Reads: takes(api.Take{Key: 1})})
		checkWrong(t, txs(done(1, read(1, 5))), 0, api.ErrThin)
		checkHist(t, txs(gone(0, write(2, 7)), done(3, write(1, 5))), api.Txn{Session: 3, Writes: keys(1)})
		checkWrong(t, txs(done(0, write(1, 5)), done(1, write(1, 5))), 1, api.ErrTwice)
		checkWrong(t, txs(done(1, read(2, 7))), 0, api.ErrThin)
		checkHist(t, nil)
	}
}
