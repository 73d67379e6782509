package graph_test

import (
	"math"
	"slices"
	"testing"

	"catchbolt/api"
	"catchbolt/check"
	"catchbolt/graph"
)

var (
	edges = check.Edges
	row   = check.Row
	upTo  = check.UpTo
)

// of are numbers.
func of(numbers ...int) []int { return numbers }

// same checks an answer.
func same(t *testing.T, call string, l []api.Edge, got, want []int) {
	t.Helper()
	if !slices.Equal(got, want) {
		t.Errorf("%s of %s = %v, want %v", call, check.Edged(l), got, want)
	}
}

// reaches checks who is reached from a number.
func reaches(t *testing.T, l []api.Edge, from int, want ...int) {
	t.Helper()
	same(t, "Reach from "+check.Step(from, 0), l, graph.Reach(l, from), want)
}

// circles checks who is on a circle.
func circles(t *testing.T, l []api.Edge, want ...int) {
	t.Helper()
	same(t, "Circles", l, graph.Circles(l), want)
}

// way checks the shortest one from a number to another one.
func way(t *testing.T, l []api.Edge, from, to int, want ...int) {
	t.Helper()
	same(t, "Way from "+check.Step(from, 0)+" to "+check.Step(to, 0), l, graph.Way(l, from, to), want)
}

// order checks the order of all.
func order(t *testing.T, l []api.Edge, want ...int) {
	t.Helper()
	got, err := graph.Order(l)
	same(t, "Order", l, got, want)
	if err != nil {
		t.Errorf("Order of %s = %v", check.Edged(l), err)
	}
}

// noOrder checks that there is none.
func noOrder(t *testing.T, l []api.Edge) {
	t.Helper()
	got, err := graph.Order(l)
	if len(got) != 0 || !check.Plain(err, api.ErrState) {
		t.Errorf("Order of %s = %v, %v", check.Edged(l), got, err)
	}
}

// The document's example.
func TestExample(t *testing.T) {
	l := edges(1, 2, 2, 3, 3, 1, 4, 1)
	reaches(t, l, 4, 1, 2, 3)
	circles(t, l, 1, 2, 3)
	way(t, l, 4, 3, 4, 1, 2, 3)
	noOrder(t, l)
}

// P10.1, P10.2, P10.3: where there is no edge, there is nothing, and no circle.
func TestNothing(t *testing.T) {
	for _, l := range [][]api.Edge{nil, {}, edges(5, 6)[:0]} {
		for _, n := range of(math.MinInt, -1, 0, 1, 5, math.MaxInt) {
			reaches(t, l, n)
			way(t, l, n, n)
			way(t, l, n, 6)
		}
		circles(t, l)
		order(t, l)
	}
}

// P10.1: who is reached, by one edge or more.
func TestReach(t *testing.T) {
	l := edges(7, 9, 9, 2, 2, 5, 7, 5, 4, 7)
	reaches(t, l, 7, 2, 5, 9)
	reaches(t, l, 9, 2, 5)
	reaches(t, l, 2, 5)
	reaches(t, l, 5)
	reaches(t, l, 4, 2, 5, 7, 9)
	for _, n := range of(0, 1, 3, 6, 8, 10, -7, math.MinInt, math.MaxInt) {
		reaches(t, l, n)
	}
}

// P10.1: a number itself is reached just if something leads back to it.
func TestReachOfItself(t *testing.T) {
	reaches(t, edges(3, 3), 3, 3)
	reaches(t, edges(3, 4), 3, 4)
	reaches(t, edges(3, 4, 4, 4), 3, 4)
	reaches(t, edges(3, 4, 4, 3), 3, 3, 4)
	reaches(t, edges(3, 4, 4, 5, 5, 3), 4, 3, 4, 5)
	reaches(t, edges(2, 3, 3, 4, 4, 3), 2, 3, 4)
}

// P10.1: circles of one, of two and of many; neither who leads to one, nor whom one leads to, nor who stands between two is on one.
func TestCircles(t *testing.T) {
	circles(t, edges(3, 3), 3)
	circles(t, edges(3, 4))
	circles(t, edges(4, 3, 3, 4), 3, 4)
	circles(t, edges(1, 2, 2, 2, 2, 3), 2)
	circles(t, edges(1, 2, 2, 1, 2, 3, 3, 4, 4, 5, 5, 4), 1, 2, 4, 5)
	circles(t, edges(5, 4, 4, 5, 4, 3, 3, 2, 2, 1, 1, 2), 1, 2, 4, 5)
	circles(t, edges(1, 2, 2, 3, 3, 1, 3, 4, 4, 5, 5, 3), 1, 2, 3, 4, 5)
	circles(t, edges(1, 2, 1, 3, 2, 4, 3, 4))
	circles(t, edges(1, 2, 1, 3, 2, 4, 3, 4, 4, 1), 1, 2, 3, 4)
	circles(t, edges(1, 2, 1, 3, 2, 4, 3, 4, 4, 2), 2, 4)
	circles(t, edges(9, 1, 1, 8, 8, 1, 7, 7, 2, 3, 6, 5, 5, 4, 4, 6), 1, 4, 5, 6, 7, 8)
}

// P10.2: the shortest way, whatever its numbers are.
func TestWayIsShortest(t *testing.T) {
	l := edges(1, 2, 2, 3, 3, 4, 4, 9, 1, 8, 8, 7, 7, 9, 1, 6, 6, 9)
	way(t, l, 1, 9, 1, 6, 9)
	way(t, l, 1, 4, 1, 2, 3, 4)
	way(t, l, 2, 9, 2, 3, 4, 9)
	way(t, l, 8, 9, 8, 7, 9)
	way(t, append(l, edges(1, 9)...), 1, 9, 1, 9)
	way(t, l, 9, 1)
	way(t, l, 2, 1)
	way(t, l, 2, 6)
	way(t, l, 5, 9)
	way(t, l, 1, 5)
	way(t, l, 5, 5)
	way(t, l, 1, 1)
}

// P10.2: of several shortest ways the one whose first number that differs is less, however great those behind it are, and in whatever order the edges stand.
func TestWayIsLeast(t *testing.T) {
	l := edges(1, 5, 1, 4, 5, 2, 4, 8, 2, 9, 8, 9)
	way(t, l, 1, 9, 1, 4, 8, 9)
	slices.Reverse(l)
	way(t, l, 1, 9, 1, 4, 8, 9)
	way(t, edges(1, -3, 1, -4, -3, 9, -4, 9), 1, 9, 1, -4, 9)
	way(t, edges(5, 7, 5, 3, 7, 6, 3, 8, 3, 4, 6, 1, 8, 1, 4, 1), 5, 1, 5, 3, 4, 1)
	way(t, edges(5, 3, 3, 8, 3, 4, 5, 2, 2, 9, 9, 1, 8, 1), 5, 1, 5, 2, 9, 1)
	way(t, edges(5, 2, 5, 3, 5, 4, 3, 1, 4, 1), 5, 1, 5, 3, 1)
}

// P10.2: from a number to itself, a way has two numbers at least.
func TestWayToItself(t *testing.T) {
	way(t, edges(3, 3), 3, 3, 3, 3)
	way(t, edges(3, 4, 4, 3), 3, 3, 3, 4, 3)
	way(t, edges(3, 4, 4, 3), 4, 4, 4, 3, 4)
	way(t, edges(3, 4, 4, 3, 3, 3), 3, 3, 3, 3)
	way(t, edges(3, 9, 9, 3, 3, 8, 8, 3, 3, 1, 1, 2, 2, 3), 3, 3, 3, 8, 3)
	way(t, edges(1, 2, 2, 3, 3, 2), 1, 1)
	way(t, edges(1, 2, 2, 3, 3, 2), 1, 2, 1, 2)
	way(t, edges(1, 2, 2, 1, 2, 3), 1, 3, 1, 2, 3)
}

// P10.3: in turn the least one to which no edge goes from one that isn't there yet.
func TestOrder(t *testing.T) {
	order(t, edges(1, 2), 1, 2)
	order(t, edges(2, 1), 2, 1)
	order(t, edges(3, 1, 2, 1), 2, 3, 1)
	order(t, edges(5, 1, 4, 2, 3, 6), 3, 4, 2, 5, 1, 6)
	order(t, edges(9, 1, 8, 9, 1, 5, 8, 5, 7, 6), 7, 6, 8, 9, 1, 5)
	order(t, edges(4, 7, 7, 1, 4, 1, 2, 7), 2, 4, 7, 1)
	order(t, edges(10, 1, 10, 2, 2, 1, 9, 10), 9, 10, 2, 1)
	order(t, edges(1, 9, 2, 9, 3, 9, 3, 0), 1, 2, 3, 0, 9)
}

// P10.3: none, if one is on a circle, wherever, and whatever else there is.
func TestNoOrder(t *testing.T) {
	noOrder(t, edges(3, 3))
	noOrder(t, edges(3, 4, 4, 3))
	noOrder(t, edges(1, 2, 3, 3))
	noOrder(t, edges(1, 2, 2, 3, 3, 2))
	noOrder(t, edges(1, 2, 2, 1, 2, 3))
	noOrder(t, edges(5, 6, 6, 7, 7, 5, 8, 9, 1, 2))
}

// P10.1, P10.2, P10.3: edges that stand there more than once are as one, and what requests they have plays no part.
func TestOfSeveral(t *testing.T) {
	once := edges(2, 1, 1, 4, 2, 4)
	l := slices.Concat(once, once, []api.Edge{{From: 1, To: 4}, {From: 2, Seq: -1, To: 1, ToSeq: math.MaxInt}, {From: 2, Seq: math.MinInt, To: 4, ToSeq: 2}}, once)
	reaches(t, l, 2, 1, 4)
	circles(t, l)
	way(t, l, 2, 4, 2, 4)
	order(t, l, 2, 1, 4)
	l = append(l, edges(4, 2, 4, 2)...)
	circles(t, l, 1, 2, 4)
	way(t, l, 1, 2, 1, 4, 2)
	noOrder(t, l)
	circles(t, []api.Edge{{From: 1, Seq: 2, To: 3, ToSeq: 1}, {From: 3, Seq: 4, To: 4, ToSeq: 1}, {Seq: 7}}, 0)
}

// Any numbers may be at edges.
func TestFarNumbers(t *testing.T) {
	l := edges(math.MaxInt, math.MinInt, math.MinInt, 0, 0, -1, math.MaxInt, 1<<32, 1<<32, -1)
	reaches(t, l, math.MaxInt, math.MinInt, -1, 0, 1<<32)
	reaches(t, l, math.MinInt, -1, 0)
	circles(t, l)
	way(t, l, math.MaxInt, -1, math.MaxInt, 1<<32, -1)
	order(t, l, math.MaxInt, math.MinInt, 0, 1<<32, -1)
	l = append(l, edges(0, math.MaxInt)...)
	circles(t, l, math.MinInt, 0, math.MaxInt)
	way(t, l, 0, 0, 0, math.MaxInt, math.MinInt, 0)
	circles(t, edges(1, 1<<32, 1<<32, 1<<32+1, 1<<32+1, 2))
	order(t, edges(1, 1<<32, 1<<32, 1<<32+1, 1<<32+1, 2), 1, 1<<32, 1<<32+1, 2)
}

// What is handed in stays as it was, its spare room included; answers are nobody else's.
func TestOwnMemory(t *testing.T) {
	wrong := api.Edge{From: -1, Seq: -1, To: -1, ToSeq: -1}
	for _, l := range [][]api.Edge{edges(5, 4, 4, 1, 5, 1, 2, 4), edges(3, 1, 1, 3, 3, 2, 2, 1)} {
		whole := append(l, wrong, wrong, wrong)
		kept, part := slices.Clone(whole), whole[:len(l)]
		answers := func() [][]int {
			o, _ := graph.Order(part)
			return [][]int{graph.Reach(part, part[0].From), graph.Circles(part), graph.Way(part, part[0].From, 1), o}
		}
		first := answers()
		var told [][]int
		for _, a := range first {
			told = append(told, slices.Clone(a))
			check.Spoil(a, -7)
		}
		if !slices.EqualFunc(answers(), told, slices.Equal) || !slices.Equal(whole, kept) {
			t.Errorf("%v, %v of %v, want %v of %v", answers(), whole, part, told, kept)
		}
	}
}

// fits checks all answers of edges against the book's, of all numbers at them and some that aren't.
func fits(t *testing.T, l []api.Edge) {
	t.Helper()
	b := bookOf(l)
	some := append(of(-5, 17), b.all...)
	for _, from := range some {
		reaches(t, l, from, b.reach(from)...)
		for _, to := range some {
			way(t, l, from, to, b.way(from, to)...)
		}
	}
	circles(t, l, b.circles()...)
	if want, ok := b.order(); ok {
		order(t, l, want...)
	} else {
		noOrder(t, l)
	}
	follows(t, l)
}

// P10.4: there is an order just if nobody is on a circle; who is on one has a way to itself, of which all are on circles; who isn't has none.
func follows(t *testing.T, l []api.Edge) {
	t.Helper()
	on := graph.Circles(l)
	if _, err := graph.Order(l); (err == nil) != (len(on) == 0) {
		t.Errorf("Order of %s = %v, on circles %v", check.Edged(l), err, on)
	}
	for _, n := range bookOf(l).all {
		back := graph.Way(l, n, n)
		if slices.Contains(on, n) != (len(back) >= 2) {
			t.Errorf("Way of %s from %d back = %v, on circles %v", check.Edged(l), n, back, on)
		}
		for _, by := range back {
			if !slices.Contains(on, by) {
				t.Errorf("Way of %s from %d back = %v, on circles %v", check.Edged(l), n, back, on)
			}
		}
	}
}

// P10.1 to P10.4: all sets of edges among three numbers, and among four.
func TestAllSets(t *testing.T) {
	for l := range check.EdgeSets {
		fits(t, l)
		check.Stop(t)
	}
}

// P10.1 to P10.4: edges among more numbers, by chance, from few to many.
func TestMany(t *testing.T) {
	by := uint64(4)
	for range 4000 {
		fits(t, check.SomeEdges(&by))
		check.Stop(t)
	}
}

// A row of very many edges ends, and so does a circle of as many.
func TestLongRow(t *testing.T) {
	const n = 300000
	l := row(upTo(1, n)...)
	reaches(t, l, 1, upTo(2, n)...)
	circles(t, l)
	way(t, l, 1, n, upTo(1, n)...)
	order(t, l, upTo(1, n)...)
	l = append(l, edges(n, 1, 0, 1, n, n+1)...)
	reaches(t, l, n, upTo(1, n+1)...)
	circles(t, l, upTo(1, n)...)
	way(t, l, 1, 1, append(upTo(1, n), 1)...)
	noOrder(t, l)
}

// Very many at once, from one, to one, and as many circles, end likewise.
func TestWideRows(t *testing.T) {
	const n = 100000
	var l, pairs []api.Edge
	for i := n; i > 0; i-- {
		l = append(l, edges(0, i, i, n+1)...)
		pairs = append(pairs, edges(2*i, 2*i-1, 2*i-1, 2*i)...)
	}
	reaches(t, l, 0, upTo(1, n+1)...)
	circles(t, l)
	way(t, l, 0, n+1, 0, 1, n+1)
	order(t, l, upTo(0, n+1)...)
	circles(t, pairs, upTo(1, 2*n)...)
	noOrder(t, pairs)
}

// Where each two numbers have two ways on, there are too many ways to go along all.
func TestLadder(t *testing.T) {
	const n = 3000
	var l []api.Edge
	for i := range n {
		l = append(l, edges(3*i, 3*i+2, 3*i, 3*i+1, 3*i+1, 3*i+3, 3*i+2, 3*i+3)...)
	}
	var least []int
	for i := range n {
		least = append(least, 3*i, 3*i+1)
	}
	way(t, l, 0, 3*n, append(least, 3*n)...)
	reaches(t, l, 0, upTo(1, 3*n)...)
	circles(t, l)
	order(t, l, upTo(0, 3*n)...)
	circles(t, append(l, edges(3*n, 0)...), upTo(0, 3*n)...)
}

// Where edges go from each to each, all are on circles; from each to all greater ones, nobody is.
func TestAllToAll(t *testing.T) {
	const n = 400
	var l, up []api.Edge
	for from := range n {
		for to := range n {
			l = append(l, edges(from, to)...)
			if from < to {
				up = append(up, edges(from, to)...)
			}
		}
	}
	circles(t, l, upTo(0, n-1)...)
	reaches(t, l, 7, upTo(0, n-1)...)
	way(t, l, 7, 7, 7, 7)
	noOrder(t, l)
	circles(t, up)
	order(t, up, upTo(0, n-1)...)
}
