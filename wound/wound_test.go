package wound_test

import (
	"math"
	"slices"
	"strconv"
	"strings"
	"testing"

	"catchbolt/api"
	"catchbolt/check"
	"catchbolt/graph"
	"catchbolt/wound"
)

var (
	edges = check.Edges
	row   = check.Row
	upTo  = check.UpTo
)

// wounded is the text of wounds: "5<2 7<1", each with by whom.
func wounded(l []wound.Wound) string {
	var texts []string
	for _, w := range l {
		texts = append(texts, strconv.Itoa(w.Tx)+"<"+strconv.Itoa(w.By))
	}
	return strings.Join(texts, " ")
}

// of checks who is wounded, and by whom.
func of(t *testing.T, l []api.Edge, want string) {
	t.Helper()
	if got := wounded(wound.Of(l)); got != want {
		t.Errorf("Of %s = %s, want %s", check.Edged(l), got, want)
	}
}

// rests checks which edges are left, each with all that it has.
func rests(t *testing.T, l []api.Edge, want ...api.Edge) {
	t.Helper()
	if got := wound.Rest(l); !slices.Equal(got, want) {
		t.Errorf("Rest of %s = %s, want %s", check.Edged(l), check.Edged(got), check.Edged(want))
	}
}

// leaves checks that of edges those at some places are left.
func leaves(t *testing.T, l []api.Edge, places ...int) {
	t.Helper()
	var want []api.Edge
	for _, i := range places {
		want = append(want, l[i])
	}
	rests(t, l, want...)
}

// oldest checks the least number at edges.
func oldest(t *testing.T, l []api.Edge, want int) {
	t.Helper()
	if got, ok := wound.Oldest(l); got != want || !ok {
		t.Errorf("Oldest of %s = %d, %v, want %d", check.Edged(l), got, ok, want)
	}
}

// eachOrder does something with each order in which edges may stand.
func eachOrder(l []api.Edge, do func([]api.Edge)) {
	var on func(begun, left []api.Edge)
	on = func(begun, left []api.Edge) {
		if len(left) == 0 {
			do(begun)
		}
		for i := range left {
			on(append(slices.Clone(begun), left[i]), slices.Concat(left[:i], left[i+1:]))
		}
	}
	on(nil, l)
}

// The document's example.
func TestExample(t *testing.T) {
	l := edges(3, 5, 2, 5, 5, 2)
	of(t, l, "5<2")
	rests(t, l)
	oldest(t, l, 2)
}

// P11.1, P11.2: where there is no edge, nobody is wounded, nothing is left, and nobody is the oldest one.
func TestNothing(t *testing.T) {
	for _, l := range [][]api.Edge{nil, {}, edges(5, 6)[:0]} {
		of(t, l, "")
		rests(t, l)
		if n, ok := wound.Oldest(l); n != 0 || ok {
			t.Errorf("Oldest = %d, %v", n, ok)
		}
	}
}

// P11.1: whoever an elder one waits for is wounded, and nobody else: neither who waits for an elder one, nor who waits for itself.
func TestOfOneEdge(t *testing.T) {
	numbers := []int{math.MinInt, math.MinInt + 1, math.MinInt32, -2, -1, 0, 1, 2, 7, 255, 256, 1 << 20, math.MaxInt32, 1 << 32, 1<<32 + 1, math.MaxInt - 1, math.MaxInt}
	for _, from := range numbers {
		for _, to := range numbers {
			l := []api.Edge{{From: from, Seq: 4, To: to, ToSeq: 7}}
			if from < to {
				of(t, l, strconv.Itoa(to)+"<"+strconv.Itoa(from))
				rests(t, l)
			} else {
				of(t, l, "")
				rests(t, l, l...)
			}
			oldest(t, l, min(from, to))
		}
	}
}

// P11.1: of several that are wounded, rising, each by whom, in whatever order the edges stand.
func TestOfSeveral(t *testing.T) {
	eachOrder(edges(1, 9, 2, 3, 8, 10, 4, 5, 6, 5, 7, 7), func(l []api.Edge) { of(t, l, "3<2 5<4 9<1 10<8") })
	eachOrder(edges(-5, 0, -7, -6, 0, 10, 3, -9, -1, 2), func(l []api.Edge) { of(t, l, "-6<-7 0<-5 2<-1 10<0") })
	of(t, edges(1, 2, 1, 3, 1, 4), "2<1 3<1 4<1")
	of(t, edges(1, 4, 1, 3, 1, 2), "2<1 3<1 4<1")
	of(t, edges(3, 4, 2, 3, 1, 2), "2<1 3<2 4<3")
	of(t, edges(4, 3, 3, 2, 2, 1), "")
}

// P11.1: whoever many wait for is wounded by the least of them, elder ones alone, in whatever order the edges stand.
func TestOfByTheLeast(t *testing.T) {
	eachOrder(edges(4, 6, 2, 6, 3, 6, 5, 6, 9, 6, 6, 6), func(l []api.Edge) { of(t, l, "6<2") })
	eachOrder(edges(0, 6, 2, 6, 3, 6, 1, 6), func(l []api.Edge) { of(t, l, "6<0") })
	eachOrder(edges(0, 6, -2, 6, 3, 6, -1, 6), func(l []api.Edge) { of(t, l, "6<-2") })
	eachOrder(edges(-4, 0, -2, 0, -3, 0, 1, 0, 0, 0), func(l []api.Edge) { of(t, l, "0<-4") })
	eachOrder(edges(-4, -1, -2, -1, -3, -1, 0, -1), func(l []api.Edge) { of(t, l, "-1<-4") })
	eachOrder(edges(math.MaxInt-1, math.MaxInt, math.MinInt, math.MaxInt, 0, math.MaxInt), func(l []api.Edge) {
		of(t, l, strconv.Itoa(math.MaxInt)+"<"+strconv.Itoa(math.MinInt))
	})
	eachOrder(edges(3, 6, 2, 6, 3, 5, 4, 5), func(l []api.Edge) { of(t, l, "5<3 6<2") })
}

// P11.1: one is wounded by the least that waits for it, be that one wounded itself.
func TestOfByOneThatIsWounded(t *testing.T) {
	of(t, edges(1, 2, 2, 3, 4, 3), "2<1 3<2")
	of(t, edges(2, 3, 1, 2), "2<1 3<2")
	leaves(t, edges(1, 2, 2, 3))
}

// P11.1: the rest are the edges neither of whose ends is wounded, in their order: one is dropped for its From alone, for its To alone, and for both.
func TestRest(t *testing.T) {
	l := edges(9, 3, 5, 2, 3, 1, 2, 5, 9, 5, 5, 5, 9, 9, 4, 3)
	of(t, l, "5<2")
	leaves(t, l, 0, 2, 6, 7)
	slices.Reverse(l)
	leaves(t, l, 0, 1, 5, 7)
	leaves(t, edges(1, 5, 5, 2, 4, 3), 2) // for its From alone, as for both
	leaves(t, edges(4, 3, 1, 5, 9, 5), 0) // for its To alone
	leaves(t, edges(1, 5, 2, 6, 6, 5, 6, 6, 4, 4), 4)
	leaves(t, edges(7, 6, 6, 5, 5, 4, 7, 4), 0, 1, 2, 3)
	leaves(t, edges(7, 6, 1, 7, 6, 5, 5, 4, 5, 7), 2, 3)
	leaves(t, edges(0, -1, -1, -1, 0, 0, 1, 0, 2, 0), 0, 1, 2, 3, 4)
	leaves(t, edges(-1, 0, 2, 1, 0, 0, 1, 0, 0, -1, -1, -1), 1, 5)
}

// P11.1: 0 is a number as all others are: it is wounded or not, and wounds.
func TestZero(t *testing.T) {
	l := edges(1, 0, 0, 0, 0, -1)
	of(t, l, "")
	leaves(t, l, 0, 1, 2)
	oldest(t, l, -1)
	l = append(l, edges(0, 1)...)
	of(t, l, "1<0")
	leaves(t, l, 1, 2)
	l = append(l, edges(-1, 0)...)
	of(t, l, "0<-1 1<0")
	leaves(t, l)
	oldest(t, append(edges(1, 0), edges(2, 1)...), 0)
}

// P11.1: edges that stand there more than once are as one to who is wounded; in the rest each stands as often as it did. What requests they have plays no part, and stays.
func TestTwice(t *testing.T) {
	once := edges(2, 5, 4, 3, 3, 5, 7, 1, 3, 3)
	l := slices.Concat(once, once, []api.Edge{{From: 3, Seq: -1, To: 5, ToSeq: math.MaxInt}, {From: 4, Seq: math.MinInt, To: 3, ToSeq: -7}, {From: 4, To: 3}}, once)
	of(t, l, "5<2")
	leaves(t, l, 1, 3, 4, 6, 8, 9, 11, 12, 14, 16, 17)
	oldest(t, l, 1)
	l = slices.Repeat([]api.Edge{{From: 4, Seq: 9, To: 3, ToSeq: 8}}, 3)
	of(t, l, "")
	leaves(t, l, 0, 1, 2)
	of(t, slices.Repeat(edges(3, 4), 3), "4<3")
}

// P11.2: the least number at edges, be it at a From alone, at a To alone, or at both, wherever it stands.
func TestOldest(t *testing.T) {
	eachOrder(edges(7, 9, 3, 8, 5, 4), func(l []api.Edge) { oldest(t, l, 3) })
	eachOrder(edges(7, 9, 8, 3, 5, 4), func(l []api.Edge) { oldest(t, l, 3) })
	eachOrder(edges(7, 3, 3, 8, 5, 4), func(l []api.Edge) { oldest(t, l, 3) })
	eachOrder(edges(7, 9, 3, 3, 5, 4), func(l []api.Edge) { oldest(t, l, 3) })
	eachOrder(edges(0, 9, 8, 1, 5, 4), func(l []api.Edge) { oldest(t, l, 0) })
	eachOrder(edges(1, 9, 8, 0, 5, 4), func(l []api.Edge) { oldest(t, l, 0) })
	eachOrder(edges(-1, 0, 3, -8, -7, 4), func(l []api.Edge) { oldest(t, l, -8) })
	eachOrder(edges(0, 5, math.MinInt, 8, 5, 4), func(l []api.Edge) { oldest(t, l, math.MinInt) })
	eachOrder(edges(0, 5, 8, math.MinInt, 5, 4), func(l []api.Edge) { oldest(t, l, math.MinInt) })
	oldest(t, edges(math.MaxInt, math.MaxInt), math.MaxInt)
	oldest(t, []api.Edge{{From: 5, Seq: 1, To: 6, ToSeq: -4}}, 5)
	oldest(t, []api.Edge{{From: 6, Seq: -1, To: 5, ToSeq: 2}}, 5)
}

// Any numbers may be at edges; they are elder or younger whole.
func TestFarNumbers(t *testing.T) {
	const far = 1 << 32
	l := edges(math.MinInt, math.MaxInt, math.MaxInt, 0, far, 1, 1, far+1, far+1, far, -far, -1, 0, -far, math.MinInt32, math.MinInt)
	of(t, l, wounded([]wound.Wound{{Tx: -1, By: -far}, {Tx: far + 1, By: 1}, {Tx: math.MaxInt, By: math.MinInt}}))
	leaves(t, l, 2, 6, 7)
	oldest(t, l, math.MinInt)
}

// What is handed in stays as it was, its spare room included; answers are nobody else's.
func TestOwnMemory(t *testing.T) {
	wrong := api.Edge{From: -1, Seq: -1, To: -1, ToSeq: -1}
	for _, l := range [][]api.Edge{edges(5, 4, 4, 1), edges(3, 1, 1, 3, 5, 2, 2, 2), edges(1, 3, 1, 4, 7, 6)} {
		whole := append(slices.Clone(l), wrong, wrong, wrong)
		kept, part := slices.Clone(whole), whole[:len(l)]
		wounds, rest := wound.Of(part), wound.Rest(part)
		old, _ := wound.Oldest(part)
		text, left := wounded(wounds), slices.Clone(rest)
		check.Spoil(wounds, wound.Wound{Tx: -7, By: -7})
		check.Spoil(rest, wrong)
		of(t, part, text)
		rests(t, part, left...)
		oldest(t, part, old)
		if !slices.Equal(whole, kept) {
			t.Errorf("%s, want %s", check.Edged(whole), check.Edged(kept))
		}
	}
}

// fits checks all answers of edges against what the document says, and what follows.
func fits(t *testing.T, l []api.Edge) {
	t.Helper()
	of(t, l, wounded(bookOf(l)))
	rests(t, l, bookOfRest(l)...)
	if all := check.Ends(l); len(all) > 0 {
		oldest(t, l, all[0])
	}
	follows(t, l)
}

// isWounded says whether a number is wounded.
func isWounded(l []api.Edge, n int) bool {
	return slices.ContainsFunc(wound.Of(l), func(w wound.Wound) bool { return w.Tx == n })
}

// follows checks P11.3: of the rest each edge goes from a younger one to an elder one, or to itself, and nobody is on a circle of two or more; on each circle of edges somebody is wounded; the oldest one isn't.
func follows(t *testing.T, l []api.Edge) {
	t.Helper()
	rest := wound.Rest(l)
	for _, e := range rest {
		if e.From < e.To {
			t.Errorf("Rest of %s = %s", check.Edged(l), check.Edged(rest))
		}
	}
	others := slices.DeleteFunc(rest, func(e api.Edge) bool { return e.From == e.To })
	if on := graph.Circles(others); len(on) != 0 {
		t.Errorf("on circles of the rest of %s: %v", check.Edged(l), on)
	}
	for _, c := range circles(l) {
		if !slices.ContainsFunc(c, func(n int) bool { return isWounded(l, n) }) {
			t.Errorf("of circle %v of %s nobody is wounded", c, check.Edged(l))
		}
	}
	if n, ok := wound.Oldest(l); ok && isWounded(l, n) {
		t.Errorf("the oldest one, %d, of %s is wounded", n, check.Edged(l))
	}
}

// P11.1 to P11.3: circles of two, of three and of many, and what is beside them.
func TestCircles(t *testing.T) {
	of(t, row(3, 8, 3), "8<3")
	rests(t, row(3, 8, 3))
	of(t, row(1, 2, 3, 1), "2<1 3<2")
	rests(t, row(1, 2, 3, 1))
	of(t, row(3, 2, 1, 3), "3<1")
	leaves(t, row(3, 2, 1, 3), 1)
	of(t, row(9, 7, 5, 3, 1, 2, 4, 6, 8, 9), "2<1 4<2 6<4 8<6 9<8")
	leaves(t, row(9, 7, 5, 3, 1, 2, 4, 6, 8, 9), 1, 2, 3)
	of(t, row(5, 5), "")
	leaves(t, row(5, 5), 0)
	for _, l := range [][]api.Edge{row(3, 8, 3), row(1, 2, 3, 1), row(3, 2, 1, 3), row(9, 7, 5, 3, 1, 2, 4, 6, 8, 9), row(-1, 0, -1), row(0, -1, 1, 0)} {
		if len(circles(l)) != 1 {
			t.Errorf("circles of %s: %v", check.Edged(l), circles(l))
		}
		fits(t, l)
	}
}

// P11.1 to P11.3: two circles that share one, be that the eldest, the youngest or another one, and two that share none.
func TestTwoCircles(t *testing.T) {
	of(t, row(1, 2, 1, 3, 1), "2<1 3<1")
	of(t, row(3, 1, 3, 2, 3), "3<1")
	rests(t, row(3, 1, 3, 2, 3))
	of(t, row(2, 1, 2, 3, 2), "2<1 3<2")
	of(t, row(5, 3, 1, 5, 4, 2, 5), "5<1")
	leaves(t, row(5, 3, 1, 5, 4, 2, 5), 1, 4)
	of(t, append(row(1, 2, 1), row(4, 3, 4)...), "2<1 4<3")
	for _, l := range [][]api.Edge{row(1, 2, 1, 3, 1), row(3, 1, 3, 2, 3), row(2, 1, 2, 3, 2), row(5, 3, 1, 5, 4, 2, 5), append(row(1, 2, 1), row(4, 3, 4)...)} {
		if len(circles(l)) != 2 {
			t.Errorf("circles of %s: %v", check.Edged(l), circles(l))
		}
		fits(t, l)
	}
}

// P11.1 to P11.3: all sets of edges among three numbers, and among four.
func TestAllSets(t *testing.T) {
	for l := range check.EdgeSets {
		fits(t, l)
		check.Stop(t)
	}
}

// P11.1 to P11.3: edges among more numbers, by chance, below 0 and above it.
func TestMany(t *testing.T) {
	by := uint64(11)
	for range 4000 {
		l := check.SomeEdges(&by)
		for i := range l {
			l[i].From -= 4
			l[i].To -= 4
		}
		fits(t, l)
		check.Stop(t)
	}
}

// many checks very many edges: who is wounded, whether all are left or none, and the oldest one.
func many(t *testing.T, l []api.Edge, want []wound.Wound, left bool) {
	t.Helper()
	if got := wound.Of(l); !slices.Equal(got, want) {
		t.Errorf("%d are wounded, want %d", len(got), len(want))
	}
	if got := wound.Rest(l); left && !slices.Equal(got, l) || !left && len(got) != 0 {
		t.Errorf("%d are left of %d, all: %v", len(got), len(l), left)
	}
	if got, ok := wound.Oldest(l); got != 1 || !ok {
		t.Errorf("Oldest = %d, %v", got, ok)
	}
}

// Very many edges end soon: in a row up, and in one down; to one that is wounded by all, and from one that wounds all.
func TestVeryMany(t *testing.T) {
	const n = 300000
	var each, first []wound.Wound
	var to, from []int
	for i := 1; i < n; i++ {
		each = append(each, wound.Wound{Tx: i + 1, By: i})
		first = append(first, wound.Wound{Tx: i + 1, By: 1})
		to, from = append(to, n-i, n), append(from, 1, n+1-i)
	}
	up, down := upTo(1, n), upTo(1, n)
	slices.Reverse(down)
	many(t, row(up...), each, false)
	many(t, row(down...), nil, true)
	many(t, edges(to...), []wound.Wound{{Tx: n, By: 1}}, false)
	many(t, edges(from...), first, false)
}
