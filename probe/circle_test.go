package probe_test

import (
	"fmt"
	"slices"
	"testing"

	"catchbolt/api"
	"catchbolt/check"
	"catchbolt/graph"
	"catchbolt/probe"
)

// stepped are the steps of probes, as texts, rising, each once.
func stepped(rows [][]api.Step) []string {
	var texts []string
	for _, steps := range rows {
		texts = append(texts, fmt.Sprint(steps))
	}
	slices.Sort(texts)
	return slices.Compact(texts)
}

// follows checks P12.4 of one that waits: the probes that come back to it have just those rows of steps that are circles of at most eight on which it is; each is live, and its victim is the youngest one of the circle.
func follows(t *testing.T, s *service, tx int) {
	t.Helper()
	var rows [][]api.Step
	open := s.open()
	for _, m := range s.returned(tx) {
		steps := slices.Clone(m.Path[:m.N])
		rows = append(rows, steps)
		live(t, m, open, true)
		victim(t, m, slices.MaxFunc(steps, func(a, b api.Step) int { return a.Tx - b.Tx }).Tx)
	}
	if got, want := stepped(rows), stepped(s.circles(tx)); !slices.Equal(got, want) {
		t.Errorf("back to %d of %s, which wait by %v: %v, want %v", tx, check.Edged(s.edges), s.waits, got, want)
	}
}

// plain is a service in which each waits by the request of its edges.
func plain(l []api.Edge) *service {
	s := &service{edges: l, waits: map[int]int{}}
	for _, e := range l {
		s.waits[e.From] = e.Seq
	}
	return s
}

// circle are edges from each number of a list to the one behind it, and from the last to the first one, each for a lock, or for the request that is ahead.
func circle(toSeq func(tx int) int, txs ...int) []api.Edge {
	var l []api.Edge
	for i, tx := range txs {
		to := txs[(i+1)%len(txs)]
		l = append(l, api.Edge{From: tx, Seq: request(tx), To: to, ToSeq: toSeq(to)})
	}
	return l
}

// request is that by which one that is on a circle waits: another one's number, from the last one down.
func request(tx int) int { return 1048577 - tx }

// forLock is the request for which an edge of a circle is, if it is for a lock.
func forLock(int) int { return 0 }

// isBack checks that one comes back to a transaction, with those as its steps, in order, or none.
func isBack(t *testing.T, s *service, tx int, txs ...int) {
	t.Helper()
	var want [][]api.Step
	if len(txs) > 0 {
		want = [][]api.Step{nil}
	}
	for _, n := range txs {
		want[0] = append(want[0], step(n, s.waits[n]))
	}
	var got [][]api.Step
	for _, m := range s.returned(tx) {
		got = append(got, slices.Clone(m.Path[:m.N]))
	}
	if len(got) != len(want) || len(want) == 1 && !slices.Equal(got[0], want[0]) {
		t.Errorf("back to %d of %s: %v, want %v", tx, check.Edged(s.edges), got, want)
	}
}

// isFound checks that a circle comes back to each that is on it, and no other one does, if these are eight at most; else none comes back.
func isFound(t *testing.T, s *service, txs []int) {
	t.Helper()
	for i, tx := range txs {
		if len(txs) <= 8 {
			isBack(t, s, tx, slices.Concat(txs[i:], txs[:i])...)
		} else {
			isBack(t, s, tx)
		}
	}
}

// P12.4: circles of one to eight are found by each one that is on them; of nine and more none is.
func TestCircleOfEachLength(t *testing.T) {
	mixed := []int{1048576, 1, 7, 6, 5, 900000, 3, 2, 4, 65536, 65535, 256}
	for n := 1; n <= len(mixed); n++ {
		for _, toSeq := range []func(int) int{forLock, request} {
			for _, txs := range [][]int{check.UpTo(1, n), check.UpTo(500, 499+n), mixed[:n]} {
				isFound(t, plain(circle(toSeq, txs...)), txs)
			}
		}
	}
}

// P12.4: one that waits for some of a circle, or for whom they wait, isn't on it, and nothing comes back to it.
func TestBesideACircle(t *testing.T) {
	for n := 1; n <= 9; n++ {
		txs := check.UpTo(11, 10+n)
		l := circle(forLock, txs...)
		l = append(l, api.Edge{From: 1, Seq: 5, To: 11}, api.Edge{From: 2, Seq: 6, To: 1, ToSeq: 5}, api.Edge{From: 12, Seq: request(12), To: 3}, api.Edge{From: 3, Seq: 7, To: 4})
		s := plain(l)
		for _, tx := range []int{1, 2, 3} {
			isBack(t, s, tx)
		}
		isFound(t, s, txs)
	}
}

// P12.4: of a circle of nine those that are on a lesser one, too, are found by that.
func TestCircleOfNineWithALesserOne(t *testing.T) {
	txs := check.UpTo(1, 9)
	s := plain(append(circle(request, txs...), api.Edge{From: 8, Seq: request(8), To: 1}))
	isFound(t, s, txs[:8])
	isBack(t, s, 9)
}

// An edge for a request by which its To doesn't wait any more leads nowhere, at whichever place of a circle it is.
func TestCircleWithAnElderRequest(t *testing.T) {
	for n := 1; n <= 8; n++ {
		for place := range n {
			l := circle(request, check.UpTo(1, n)...)
			l[place].ToSeq--
			for tx := 1; tx <= n; tx++ {
				isBack(t, plain(l), tx)
			}
		}
	}
}

// renamed is a service of those edges, among transactions that may be. Those wait by requests that may be, each for a lock or for a request; now and then an edge is of another request, or for one.
func renamed(l []api.Edge, by *uint64) *service {
	s := &service{waits: map[int]int{}}
	names, txs := map[int]int{}, check.Numbers()
	check.Mix(txs, by)
	for i, n := range check.Ends(l) {
		names[n] = txs[i]
		s.waits[txs[i]] = some(by, check.Numbers()...)
	}
	for _, e := range l {
		one, other := names[e.From], names[e.To]
		on := api.Edge{From: one, Seq: s.waits[one], To: other, ToSeq: some(by, 0, s.waits[other])}
		switch check.Next(by) % 24 {
		case 0:
			on.Seq = some(by, check.Numbers()...)
		case 1:
			on.ToSeq = some(by, check.Numbers()...)
		}
		s.edges = append(s.edges, on)
	}
	return s
}

// P12.4: all sets of edges among three transactions, and among four.
func TestAllSets(t *testing.T) {
	by := uint64(4)
	for l := range check.EdgeSets {
		s := renamed(l, &by)
		for tx := range s.waits {
			follows(t, s, tx)
		}
		check.Stop(t)
	}
}

// someCircle is one of three to twelve numbers, in whichever order, and up to two edges more.
func someCircle(by *uint64) []api.Edge {
	txs := check.UpTo(0, 2+check.Next(by)%10)
	check.Mix(txs, by)
	l := check.Row(append(txs, txs[0])...)
	for range check.Next(by) % 3 {
		l = append(l, check.Edges(some(by, txs...), some(by, txs...))...)
	}
	check.Mix(l, by)
	return l
}

// P12.4: edges among more transactions, by chance; and that who is found is on a circle of graph's, whose way back has eight edges at most.
func TestManyCircles(t *testing.T) {
	by, found, far := uint64(12), 0, 0
	for turn := range 6000 {
		l := check.SomeEdges(&by)
		if turn%4 == 0 {
			l = someCircle(&by)
		}
		s := renamed(l, &by)
		for tx := range s.waits {
			follows(t, s, tx)
		}
		check.Stop(t)
		for i := range l { // as they are, but for requests: then each circle of eight at most is found
			l[i].From, l[i].To, l[i].Seq, l[i].ToSeq = l[i].From+1, l[i].To+1, 7, some(&by, 0, 7)
		}
		s = plain(l)
		for tx := range s.waits {
			way := graph.Way(l, tx, tx)
			if got := len(s.returned(tx)) > 0; got != (len(way) > 0 && len(way) <= 9) {
				t.Errorf("back to %d of %s: %v, way %v", tx, check.Edged(l), got, way)
			}
			if len(way) > 9 {
				far++
			} else if len(way) > 0 {
				found++
			}
		}
	}
	if found < 10000 || far < 1000 {
		t.Error(found, far)
	}
}

// What goes round and round ends: a probe of one that isn't on the circle it comes to goes no further than there.
func TestGoingRoundEnds(t *testing.T) {
	l := append(circle(forLock, 2, 3, 4), api.Edge{From: 1, Seq: 5, To: 2})
	m := of(home(1), step(2, 0), step(1, 5))
	for _, tx := range []int{2, 3, 4} {
		more, err := probe.Go(home(tx), m, request(tx), l)
		if len(more) != 1 || err != nil {
			t.Fatal(more, err)
		}
		m = more[0]
	}
	goesNone(t, home(2), m, request(2), l, api.ErrState)
	back(t, m, false)
}
