package group

import (
	"fmt"
	"math/rand"
	"slices"
	"testing"

	"inquest/api"
)

func begin(s int) api.Event       { return api.Event{Kind: api.Begin, Session: s} }
func commit(s int) api.Event      { return api.Event{Kind: api.Commit, Session: s} }
func abort(s int) api.Event       { return api.Event{Kind: api.Abort, Session: s} }
func read(s, k, v int) api.Event  { return api.Event{Kind: api.Read, Session: s, Key: k, Value: v} }
func write(s, k, v int) api.Event { return api.Event{Kind: api.Write, Session: s, Key: k, Value: v} }

func row(l ...api.Event) []api.Event { return l }

// brief is how a list is printed where a test fails; long ones are cut off.
func brief(list any) string { return fmt.Sprintf("%.300s", fmt.Sprint(list)) }

// sameTx says whether two transactions are the same; no ops are the same, nil or empty.
func sameTx(a, b Tx) bool {
	return a.Session == b.Session && a.Done == b.Done && a.First == b.First && slices.Equal(a.Ops, b.Ops)
}

func sameTxs(a, b []Tx) bool { return slices.EqualFunc(a, b, sameTx) }

// withoutFirst are transactions as they would be if each began at 0.
func withoutFirst(l []Tx) []Tx {
	l = slices.Clone(l)
	for i := range l {
		l[i].First = 0
	}
	return l
}

func checkGroup(t *testing.T, l []api.Event, want ...Tx) {
	t.Helper()
	if got, at, err := Group(l); !sameTxs(got, want) || at != 0 || err != api.OK {
		t.Fatalf("Group(%s) = %s, %v, %v, want %s", brief(l), brief(got), at, err, brief(want))
	}
}

func checkWrong(t *testing.T, l []api.Event, at int, err api.Errno) {
	t.Helper()
	if got, gotAt, gotErr := Group(l); len(got) != 0 || gotAt != at || gotErr != err {
		t.Fatalf("Group(%s) = %s, %v, %v, want %v, %v", brief(l), brief(got), gotAt, gotErr, at, err)
	}
}

// mustGroup are the transactions of events that have no error.
func mustGroup(t *testing.T, l []api.Event) []Tx {
	t.Helper()
	txs, at, err := Group(l)
	if at != 0 || err != api.OK {
		t.Fatalf("Group(%s): %v, %v", brief(l), at, err)
	}
	return txs
}

// wrongEvents are events that are not valid, in each of the ways that layer 3 knows.
func wrongEvents() []api.Event {
	return row(
		// No kind.
		api.Event{Kind: -1}, api.Event{Kind: 5}, api.Event{Kind: 9}, api.Event{Kind: 1 << 32}, api.Event{Kind: -1 << 63}, api.Event{Kind: 1<<63 - 1, Session: 1},
		// No session, of each kind.
		begin(-1), begin(8), begin(1<<32), read(8, 1, 1), read(-1, 1, 1), write(8, 1, 1), write(-1<<63, 1, 1), commit(-1), commit(8), abort(8), abort(1<<63-1),
		// A key or a value where there is none.
		api.Event{Key: 1}, api.Event{Value: 1}, api.Event{Session: 1, Key: -1}, api.Event{Kind: api.Commit, Session: 1, Key: 1}, api.Event{Kind: api.Commit, Session: 1, Value: 1}, api.Event{Kind: api.Abort, Session: 1, Key: 2}, api.Event{Kind: api.Abort, Session: 1, Value: -3},
		// No key.
		read(1, -1, 1), read(1, 16, 1), read(1, 1<<32, 1), write(1, -1, 1), write(1, 16, 1),
		// No value.
		read(1, 1, -1), read(1, 1, 2147483648), write(1, 1, -1), write(1, 1, 2147483648), write(1, 1, 1<<63-1),
	)
}

// P5.1: no event.
func TestGroupNothing(t *testing.T) {
	checkGroup(t, nil)
	checkGroup(t, []api.Event{})
}

// P5.1: one event of each kind; each but a Begin needs an open transaction.
func TestGroupOneEvent(t *testing.T) {
	for s := range api.MaxSessions {
		checkGroup(t, row(begin(s)), Tx{Session: s})
		checkWrong(t, row(read(s, 1, 0)), 0, api.ErrShut)
		checkWrong(t, row(write(s, 1, 5)), 0, api.ErrShut)
		checkWrong(t, row(commit(s)), 0, api.ErrShut)
		checkWrong(t, row(abort(s)), 0, api.ErrShut)
	}
}

// P5.1: a transaction that a Commit closes, one that an Abort closes, one that nothing closes.
func TestGroupDone(t *testing.T) {
	checkGroup(t, row(begin(1), commit(1)), Tx{Session: 1, Done: true})
	checkGroup(t, row(begin(1), abort(1)), Tx{Session: 1})
	checkGroup(t, row(begin(1), read(1, 2, 0), write(1, 2, 5)), Tx{Session: 1, Ops: row(read(1, 2, 0), write(1, 2, 5))})
	checkGroup(t, row(begin(1), read(1, 2, 0), write(1, 2, 5), commit(1)), Tx{Session: 1, Done: true, Ops: row(read(1, 2, 0), write(1, 2, 5))})
	checkGroup(t, row(begin(1), write(1, 2, 5), read(1, 2, 0), abort(1)), Tx{Session: 1, Ops: row(write(1, 2, 5), read(1, 2, 0))})
	checkGroup(t, row(begin(1), begin(2), commit(1)), Tx{Session: 1, Done: true}, Tx{Session: 2, First: 1})
	checkGroup(t, row(begin(1), begin(2), commit(2)), Tx{Session: 1}, Tx{Session: 2, First: 1, Done: true})
}

// P5.1: what the ops are is not asked: the same one twice, values at both ends, a write of 0, a read of what was never written.
func TestGroupAnyOps(t *testing.T) {
	ops := row(read(7, 15, 2147483647), read(7, 15, 2147483647), write(7, 0, 0), write(7, 0, 0), write(7, 15, 2147483647), read(7, 0, 9))
	l := append(append(row(begin(7)), ops...), commit(7))
	checkGroup(t, l, Tx{Session: 7, Done: true, Ops: ops})
}

// P5.1: a session begins again behind its Commit, and behind its Abort.
func TestGroupAgain(t *testing.T) {
	checkGroup(t, row(begin(1), write(1, 0, 5), commit(1), begin(1), read(1, 0, 5), commit(1)),
		Tx{Session: 1, Done: true, Ops: row(write(1, 0, 5))}, Tx{Session: 1, Done: true, First: 3, Ops: row(read(1, 0, 5))})
	checkGroup(t, row(begin(1), write(1, 0, 5), abort(1), begin(1), read(1, 0, 0), commit(1)),
		Tx{Session: 1, Ops: row(write(1, 0, 5))}, Tx{Session: 1, Done: true, First: 3, Ops: row(read(1, 0, 0))})
	checkGroup(t, row(begin(1), commit(1), begin(1), abort(1), begin(1)),
		Tx{Session: 1, Done: true}, Tx{Session: 1, First: 2}, Tx{Session: 1, First: 4})
}

// P5.1: events of several sessions between each other's; the transactions are in the order of their Begins, not of their ends or sessions.
func TestGroupSessions(t *testing.T) {
	checkGroup(t, row(begin(5), begin(2), write(2, 1, 6), read(5, 1, 0), begin(7), commit(2), read(7, 1, 6), begin(2), write(5, 2, 8), read(2, 1, 6), abort(7), commit(5), commit(2)),
		Tx{Session: 5, Done: true, Ops: row(read(5, 1, 0), write(5, 2, 8))},
		Tx{Session: 2, Done: true, First: 1, Ops: row(write(2, 1, 6))},
		Tx{Session: 7, First: 4, Ops: row(read(7, 1, 6))},
		Tx{Session: 2, Done: true, First: 7, Ops: row(read(2, 1, 6))})
	var l []api.Event
	var want []Tx
	for s := range api.MaxSessions {
		l = append(l, begin(7-s))
		want = append(want, Tx{Session: 7 - s, First: s, Done: s%2 == 1, Ops: row(write(7-s, s, s))})
	}
	for s := range api.MaxSessions {
		l = append(l, write(s, 7-s, 7-s))
	}
	for s := range api.MaxSessions {
		l = append(l, []api.Event{commit(s), abort(s)}[s%2])
	}
	checkGroup(t, l, want...)
}

// closedTxs are the events of n transactions, each closed, of sessions in turn, and the transactions.
func closedTxs(n int) ([]api.Event, []Tx) {
	var l []api.Event
	var txs []Tx
	for i := range n {
		s := i * 3 % api.MaxSessions
		tx := Tx{Session: s, Done: i%3 != 0, First: len(l)}
		end := abort(s)
		if tx.Done {
			end = commit(s)
		}
		l = append(l, begin(s), end)
		txs = append(txs, tx)
	}
	return l, txs
}

// P5.1: each number of Begins up to MaxTxns, and one more.
func TestGroupMany(t *testing.T) {
	for n := range api.MaxTxns + 1 {
		l, txs := closedTxs(n)
		checkGroup(t, l, txs...)
	}
	for _, n := range []int{api.MaxTxns + 1, api.MaxTxns + 2, 100} {
		l, _ := closedTxs(n)
		checkWrong(t, l, 2*api.MaxTxns, api.ErrMany)
	}
	l, txs := closedTxs(api.MaxTxns - 1)
	checkGroup(t, append(l, begin(6)), append(txs, Tx{Session: 6, First: len(l)})...)
	checkWrong(t, append(l, begin(6), commit(6), begin(6)), len(l)+2, api.ErrMany)
	checkWrong(t, append(l, begin(6), begin(5)), len(l)+1, api.ErrMany)
}

// P5.1: behind the 32nd Begin all other kinds go on, and a Begin that is wrong in two ways has the error that is named first.
func TestGroupFullOfTxs(t *testing.T) {
	l, txs := closedTxs(api.MaxTxns - 1)
	at := len(l)
	last := Tx{Session: 6, Done: true, First: at, Ops: row(write(6, 1, 1), read(6, 1, 1))}
	checkGroup(t, append(slices.Clone(l), begin(6), write(6, 1, 1), read(6, 1, 1), commit(6)), append(txs, last)...)
	l = append(l, begin(6))
	checkWrong(t, append(slices.Clone(l), begin(6)), at+1, api.ErrOpen)
	checkWrong(t, append(slices.Clone(l), write(6, 1, 1), begin(6), begin(5)), at+2, api.ErrOpen)
	checkWrong(t, append(slices.Clone(l), begin(5), begin(6)), at+1, api.ErrMany)
	checkWrong(t, append(slices.Clone(l), api.Event{Session: 6, Key: 1}), at+1, api.ErrArg)
	checkWrong(t, append(slices.Clone(l), begin(8)), at+1, api.ErrArg)
	checkWrong(t, append(slices.Clone(l), commit(5)), at+1, api.ErrShut)
}

// P5.1: more than MaxEvents events, in one transaction and in many.
func TestGroupManyEvents(t *testing.T) {
	for _, n := range []int{398, 399, 400, 401, 5000} {
		ops := slices.Repeat(row(read(3, 1, 0), write(3, 1, 4), write(3, 2, 5)), n)[:n]
		l := append(row(begin(3)), ops...)
		checkGroup(t, l, Tx{Session: 3, Ops: ops})
		checkGroup(t, append(l, commit(3)), Tx{Session: 3, Done: true, Ops: ops})
		checkWrong(t, append(l, commit(2)), n+1, api.ErrShut)
	}
	var l []api.Event
	var want []Tx
	for i := range api.MaxTxns {
		ops := slices.Repeat(row(write(i%8, i%16, i)), 20+i)
		want = append(want, Tx{Session: i % 8, Done: true, First: len(l), Ops: ops})
		l = append(append(append(l, begin(i%8)), ops...), commit(i%8))
	}
	checkGroup(t, l, want...)
}

// P5.1: a Begin of a session whose transaction is open.
func TestGroupOpen(t *testing.T) {
	checkWrong(t, row(begin(1), begin(1)), 1, api.ErrOpen)
	checkWrong(t, row(begin(0), begin(0)), 1, api.ErrOpen)
	checkWrong(t, row(begin(1), read(1, 0, 0), write(1, 0, 5), begin(1), commit(1)), 3, api.ErrOpen)
	checkWrong(t, row(begin(1), begin(2), commit(2), begin(1)), 3, api.ErrOpen)
	checkWrong(t, row(begin(1), commit(1), begin(1), begin(1)), 3, api.ErrOpen)
	checkWrong(t, row(begin(1), abort(1), begin(1), begin(2), begin(1)), 4, api.ErrOpen)
}

// P5.1: all kinds but a Begin without an open transaction: before the session's first Begin, behind its Commit and its Abort, while another session's is open.
func TestGroupShut(t *testing.T) {
	for s := range api.MaxSessions {
		other := (s + 1) % api.MaxSessions
		for _, e := range row(read(s, 1, 0), write(s, 1, 5), commit(s), abort(s)) {
			checkWrong(t, row(e, begin(s), commit(s)), 0, api.ErrShut)
			checkWrong(t, row(begin(other), e), 1, api.ErrShut)
			checkWrong(t, row(begin(other), commit(other), e), 2, api.ErrShut)
			checkWrong(t, row(begin(s), commit(s), e), 2, api.ErrShut)
			checkWrong(t, row(begin(s), abort(s), e), 2, api.ErrShut)
			checkWrong(t, row(begin(s), write(s, 1, 5), commit(s), begin(other), e), 4, api.ErrShut)
			checkWrong(t, row(begin(s), begin(other), commit(s), e, begin(s)), 3, api.ErrShut)
			checkWrong(t, row(begin(s), commit(s), begin(s), abort(s), e), 4, api.ErrShut)
		}
	}
}

// P5.1: an event that is not valid, as the first one, the last one and between others, whether its session has an open transaction or not.
func TestGroupWrongEvent(t *testing.T) {
	for _, w := range wrongEvents() {
		checkWrong(t, row(w), 0, api.ErrArg)
		checkWrong(t, row(w, begin(1), commit(1)), 0, api.ErrArg)
		checkWrong(t, row(begin(1), w), 1, api.ErrArg)
		checkWrong(t, row(begin(0), w, commit(0)), 1, api.ErrArg)
		checkWrong(t, row(begin(1), begin(0), read(1, 1, 0), w, commit(1)), 3, api.ErrArg)
		checkWrong(t, row(begin(1), commit(1), w), 2, api.ErrArg)
		l, _ := closedTxs(api.MaxTxns)
		checkWrong(t, append(l, w), 2*api.MaxTxns, api.ErrArg)
	}
}

// P5.1: of two wrong events, the first one's index and error.
func TestGroupFirstError(t *testing.T) {
	// Each of them is wrong behind an open transaction of session 0 and a closed one of session 1.
	wrong := []struct {
		e   api.Event
		err api.Errno
	}{{begin(0), api.ErrOpen}, {read(1, 1, 0), api.ErrShut}, {write(1, 1, 1), api.ErrShut}, {commit(1), api.ErrShut}, {abort(1), api.ErrShut}, {commit(7), api.ErrShut}, {begin(8), api.ErrArg}, {write(0, 16, 1), api.ErrArg}}
	head := row(begin(0), begin(1), commit(1))
	for _, v := range wrong {
		for _, w := range wrong {
			checkWrong(t, append(slices.Clone(head), v.e, w.e), 3, v.err)
			checkWrong(t, append(slices.Clone(head), read(0, 1, 0), v.e, write(0, 1, 1), w.e, commit(0)), 4, v.err)
		}
		l, _ := closedTxs(api.MaxTxns)
		checkWrong(t, append(slices.Clone(l), begin(1), v.e), len(l), api.ErrMany)
	}
}

// isValid says whether an event is valid, by the words of chapter 3.
func isValid(e api.Event) bool {
	if e.Session < 0 || e.Session > 7 {
		return false
	}
	if e.Kind == api.Read || e.Kind == api.Write {
		return e.Key >= 0 && e.Key <= 15 && e.Value >= 0 && e.Value <= 2147483647
	}
	return (e.Kind == api.Begin || e.Kind == api.Commit || e.Kind == api.Abort) && e.Key == 0 && e.Value == 0
}

// wantError is the error of the event at i, if no event before it has one: by looking back, without keeping anything.
func wantError(l []api.Event, i int) api.Errno {
	isOpen, begun := false, 0
	for _, e := range l[:i] {
		if e.Kind == api.Begin {
			begun++
		}
		if e.Session == l[i].Session && e.Kind != api.Read && e.Kind != api.Write {
			isOpen = e.Kind == api.Begin
		}
	}
	switch {
	case !isValid(l[i]):
		return api.ErrArg
	case l[i].Kind == api.Begin && isOpen:
		return api.ErrOpen
	case l[i].Kind == api.Begin && begun == 32:
		return api.ErrMany
	case l[i].Kind != api.Begin && !isOpen:
		return api.ErrShut
	}
	return api.OK
}

// wantTx is the transaction that begins at i: by looking ahead for its session's events.
func wantTx(l []api.Event, i int) Tx {
	tx := Tx{Session: l[i].Session, First: i}
	for _, e := range l[i+1:] {
		if e.Session != tx.Session {
			continue
		}
		if e.Kind == api.Commit || e.Kind == api.Abort {
			tx.Done = e.Kind == api.Commit
			break
		}
		tx.Ops = append(tx.Ops, e)
	}
	return tx
}

// checkByWords holds Group of events against the chapter's words, and tells the error that it should have.
func checkByWords(t *testing.T, l []api.Event) api.Errno {
	t.Helper()
	var want []Tx
	for i, e := range l {
		if err := wantError(l, i); err != api.OK {
			checkWrong(t, l, i, err)
			return err
		}
		if e.Kind == api.Begin {
			want = append(want, wantTx(l, i))
		}
	}
	checkGroup(t, l, want...)
	return api.OK
}

// P5.1: all lists of at most five events of two sessions, held against the chapter's words.
func TestGroupAllShort(t *testing.T) {
	var each []api.Event
	for s := range 2 {
		each = append(each, begin(s), read(s, 1, 0), write(s, 1, 5), commit(s), abort(s))
	}
	each = append(each, begin(8))
	last := [][]api.Event{nil}
	for range 5 {
		var next [][]api.Event
		for _, l := range last {
			for _, e := range each {
				next = append(next, append(slices.Clone(l), e))
			}
		}
		for _, l := range next {
			checkByWords(t, l)
		}
		last = next
	}
}

// chanceEvents are at most n events by chance without an error, of at most MaxTxns transactions; some of these stay open.
func chanceEvents(r *rand.Rand, n int) []api.Event {
	var l []api.Event
	var open [api.MaxSessions]bool
	begun := 0
	sessions := 1 + r.Intn(api.MaxSessions)
	for range n {
		s := r.Intn(sessions)
		switch {
		case !open[s] && begun < api.MaxTxns:
			l = append(l, begin(s))
			open[s] = true
			begun++
		case open[s] && r.Intn(5) == 0:
			l = append(l, row(commit(s), commit(s), abort(s))[r.Intn(3)])
			open[s] = false
		case open[s]:
			l = append(l, api.Event{Kind: api.Read + r.Intn(2), Session: s, Key: r.Intn(api.MaxKeys), Value: r.Intn(api.MaxNum) >> r.Intn(31)})
		}
	}
	return l
}

// P5.1: events by chance, right ones and such with one event put among them, held against the chapter's words.
func TestGroupByChance(t *testing.T) {
	r := rand.New(rand.NewSource(5))
	wrong := wrongEvents()
	counts := map[api.Errno]int{}
	for range 3000 {
		l := chanceEvents(r, r.Intn(300))
		counts[checkByWords(t, l)]++
		e := row(begin(r.Intn(8)), read(r.Intn(8), 1, 0), write(r.Intn(8), 1, 5), commit(r.Intn(8)), abort(r.Intn(8)), wrong[r.Intn(len(wrong))])[r.Intn(6)]
		counts[checkByWords(t, slices.Insert(l, r.Intn(len(l)+1), e))]++
	}
	for _, err := range []api.Errno{api.OK, api.ErrArg, api.ErrOpen, api.ErrMany, api.ErrShut} {
		if counts[err] == 0 {
			t.Errorf("no events with %v", err)
		}
	}
}

func checkEvents(t *testing.T, l []Tx, want ...api.Event) {
	t.Helper()
	if got := Events(l); !slices.Equal(got, want) {
		t.Fatalf("Events(%s) = %s, want %s", brief(l), brief(got), brief(want))
	}
}

// P5.2: no transaction, transactions without ops, Done or not.
func TestEventsShort(t *testing.T) {
	checkEvents(t, nil)
	checkEvents(t, []Tx{})
	checkEvents(t, []Tx{{}}, begin(0), abort(0))
	checkEvents(t, []Tx{{Done: true}}, begin(0), commit(0))
	checkEvents(t, []Tx{{Session: 3, Ops: []api.Event{}}}, begin(3), abort(3))
	checkEvents(t, []Tx{{Session: 3, Done: true, Ops: []api.Event{}}}, begin(3), commit(3))
}

// P5.2: transactions in the order of the list, whatever First says.
func TestEventsOrder(t *testing.T) {
	a := Tx{Session: 1, Done: true, First: 9, Ops: row(read(1, 0, 0), write(1, 0, 5))}
	b := Tx{Session: 2, First: -4, Ops: row(write(2, 3, 6))}
	c := Tx{Session: 1, Done: true, First: 1 << 62}
	checkEvents(t, []Tx{a, b, c}, begin(1), read(1, 0, 0), write(1, 0, 5), commit(1), begin(2), write(2, 3, 6), abort(2), begin(1), commit(1))
	checkEvents(t, []Tx{c, b, a}, begin(1), commit(1), begin(2), write(2, 3, 6), abort(2), begin(1), read(1, 0, 0), write(1, 0, 5), commit(1))
	checkEvents(t, []Tx{a, a}, begin(1), read(1, 0, 0), write(1, 0, 5), commit(1), begin(1), read(1, 0, 0), write(1, 0, 5), commit(1))
}

// P5.2: values that are not valid: sessions, and ops of other sessions, of each kind and of none.
func TestEventsAnyValues(t *testing.T) {
	for _, s := range []int{-1 << 63, -1, 0, 7, 8, 1 << 32, 1<<63 - 1} {
		for _, ops := range [][]api.Event{nil, {}, row(read(s, 1, 0)), row(begin(s), commit(s)), row(write(5, 16, -1), commit(5), abort(s)), wrongEvents()} {
			checkEvents(t, []Tx{{Session: s, Ops: ops}}, append(append(row(begin(s)), ops...), abort(s))...)
			checkEvents(t, []Tx{{Session: s, Done: true, First: s, Ops: ops}}, append(append(row(begin(s)), ops...), commit(s))...)
		}
	}
}

// P5.2: more transactions than Group would take, and more events than a log has.
func TestEventsMany(t *testing.T) {
	for _, n := range []int{api.MaxTxns, api.MaxTxns + 1, 500} {
		l, txs := closedTxs(n)
		checkEvents(t, txs, l...)
	}
	ops := slices.Repeat(row(write(1, 2, 3), read(1, 2, 3)), 1000)
	checkEvents(t, []Tx{{Session: 1, Ops: ops}, {Session: 1, Done: true, Ops: ops}}, slices.Concat(row(begin(1)), ops, row(abort(1), begin(1)), ops, row(commit(1)))...)
}

// P5.3: Group of Events of grouped transactions returns the same ones, each beginning where its Begin stands now.
func TestThereAndBack(t *testing.T) {
	r := rand.New(rand.NewSource(53))
	for range 2000 {
		txs := mustGroup(t, chanceEvents(r, r.Intn(300)))
		want := slices.Clone(txs)
		first := 0
		for i := range want {
			want[i].First = first
			first += len(want[i].Ops) + 2
		}
		checkGroup(t, Events(txs), want...)
		checkEvents(t, want, Events(txs)...)
	}
}

// shuffled are the same events, mixed: neighbours of different sessions are exchanged, but for two Begins.
func shuffled(r *rand.Rand, l []api.Event) []api.Event {
	l = slices.Clone(l)
	for range 20 * len(l) {
		i := r.Intn(len(l))
		if i == 0 || l[i-1].Session == l[i].Session || l[i-1].Kind == api.Begin && l[i].Kind == api.Begin {
			continue
		}
		l[i-1], l[i] = l[i], l[i-1]
	}
	return l
}

// P5.3: how the events of different sessions stand between each other is irrelevant, as long as the Begins keep their order.
func TestMixedSessions(t *testing.T) {
	r := rand.New(rand.NewSource(535))
	mixed := 0
	for range 1000 {
		l := chanceEvents(r, r.Intn(200))
		m := shuffled(r, l)
		if !slices.Equal(l, m) {
			mixed++
		}
		if a, b := withoutFirst(mustGroup(t, l)), withoutFirst(mustGroup(t, m)); !sameTxs(a, b) {
			t.Fatalf("%s of %s, but %s of %s", brief(a), brief(l), brief(b), brief(m))
		}
	}
	if mixed == 0 {
		t.Error("no events were mixed")
	}
	// The order of two Begins is to be seen.
	checkGroup(t, row(begin(1), begin(2), commit(1), commit(2)), Tx{Session: 1, Done: true}, Tx{Session: 2, Done: true, First: 1})
	checkGroup(t, row(begin(2), begin(1), commit(1), commit(2)), Tx{Session: 2, Done: true}, Tx{Session: 1, Done: true, First: 1})
}

// P5.1: the events are left as they are, with what stands behind them, right or wrong; what stands behind them is not read.
func TestGroupLeavesEvents(t *testing.T) {
	for _, e := range row(commit(1), begin(1), commit(2), api.Event{Kind: 9}) {
		l := row(begin(1), read(1, 0, 0), write(1, 0, 5), e, abort(1), begin(2))
		all := slices.Clone(l)
		for n := range len(l) {
			Group(l[:n])
			if !slices.Equal(l, all) {
				t.Fatalf("events %v, were %v", l, all)
			}
		}
		checkGroup(t, l[:3], Tx{Session: 1, Ops: row(read(1, 0, 0), write(1, 0, 5))})
	}
}

// P5.1: what Group returns shares no memory with the events, nor with an earlier answer, nor one transaction with another, up to their capacities.
func TestGroupNewMemory(t *testing.T) {
	l := row(begin(1), begin(2), read(1, 0, 0), write(2, 0, 5), write(1, 1, 6), read(2, 1, 0), read(1, 0, 0), commit(1), commit(2), begin(1), write(1, 3, 7))
	all := slices.Clone(l)
	want := mustGroup(t, slices.Clone(l))
	txs := mustGroup(t, l)
	for i := range txs {
		ops := txs[i].Ops[:cap(txs[i].Ops)]
		for j := range ops {
			ops[j] = api.Event{Kind: 9}
		}
		for j := i + 1; j < len(txs); j++ {
			if !sameTx(txs[j], want[j]) {
				t.Errorf("transaction %v is %v, was %v", j, txs[j], want[j])
			}
		}
	}
	clear(txs[:cap(txs)])
	if !slices.Equal(l, all) {
		t.Errorf("events %v, were %v", l, all)
	}
	txs = mustGroup(t, l)
	clear(l)
	if !sameTxs(txs, want) {
		t.Errorf("transactions %v, were %v", txs, want)
	}
}

// P5.2: the transactions and their ops are left as they are, with what stands behind them, and share no memory with the events.
func TestEventsLeavesTxs(t *testing.T) {
	ops := row(read(1, 0, 0), write(1, 0, 5), abort(7), begin(6))
	all := slices.Clone(ops)
	txs := []Tx{{Session: 1, Done: true, Ops: ops[:2]}, {Session: 2, First: 4, Ops: ops[:0]}, {Session: 3, Ops: ops[1:3]}, {Session: 4, Ops: ops[:1]}}
	wantTxs := slices.Clone(txs)
	want := row(begin(1), read(1, 0, 0), write(1, 0, 5), commit(1), begin(2), abort(2), begin(3), write(1, 0, 5), abort(7), abort(3))
	checkEvents(t, txs[:3], want...)
	events := Events(txs[:3])
	clear(events[:cap(events)])
	if !slices.Equal(ops, all) || !sameTxs(txs, wantTxs) {
		t.Errorf("ops %v of %v, were %v of %v", ops, txs, all, wantTxs)
	}
	events = Events(txs[:3])
	clear(ops)
	clear(txs)
	if !slices.Equal(events, want) {
		t.Errorf("events %v, were %v", events, want)
	}
	// One transaction whose ops are all there is.
	lone := row(write(1, 0, 5))
	events = Events([]Tx{{Session: 1, Ops: lone}})
	clear(events)
	if lone[0] != write(1, 0, 5) {
		t.Errorf("ops %v", lone)
	}
}

// P5.1: an answer hangs on no earlier one.
func TestGroupTwice(t *testing.T) {
	for range 3 {
		checkWrong(t, row(begin(1), begin(2), begin(1)), 2, api.ErrOpen)
		checkGroup(t, row(begin(1)), Tx{Session: 1})
		checkWrong(t, row(read(1, 0, 0)), 0, api.ErrShut)
		l, txs := closedTxs(api.MaxTxns)
		checkGroup(t, l, txs...)
	}
}
