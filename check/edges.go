package check

import (
	"math"
	"slices"

	"catchbolt/api"
)

// Edges are the ones from each first number of two to the one behind it. What else they have is another thing with each.
func Edges(ends ...int) []api.Edge {
	var l []api.Edge
	for i := 0; i < len(ends); i += 2 {
		l = append(l, api.Edge{From: ends[i], Seq: 1000 - i, To: ends[i+1], ToSeq: i % 3})
	}
	return l
}

// Row are edges from each number of a list to the one behind it.
func Row(numbers ...int) []api.Edge {
	var l []api.Edge
	for i := 1; i < len(numbers); i++ {
		l = append(l, Edges(numbers[i-1], numbers[i])...)
	}
	return l
}

// UpTo are the numbers from one on to another one.
func UpTo(from, to int) []int {
	var l []int
	for n := from; n <= to; n++ {
		l = append(l, n)
	}
	return l
}

// Ends are all numbers that are at edges, rising.
func Ends(l []api.Edge) []int {
	var all []int
	for _, e := range l {
		all = append(all, e.From, e.To)
	}
	slices.Sort(all)
	return slices.Compact(all)
}

// Circles are all circles of edges, each once, from its least number on, and without going through one twice.
func Circles(l []api.Edge) [][]int {
	next := map[int][]int{}
	for _, e := range l {
		if !slices.Contains(next[e.From], e.To) {
			next[e.From] = append(next[e.From], e.To)
		}
	}
	var found [][]int
	var on func(way []int)
	on = func(way []int) {
		for _, n := range next[way[len(way)-1]] {
			if n == way[0] {
				found = append(found, slices.Clone(way))
			} else if n > way[0] && !slices.Contains(way, n) {
				on(append(way, n))
			}
		}
	}
	for _, n := range Ends(l) {
		on([]int{n})
	}
	return found
}

// Next is the next number of a row that is the same each time.
func Next(by *uint64) int {
	*by = *by*6364136223846793005 + 1442695040888963407
	return int(*by >> 33)
}

// Mix puts a list into another order.
func Mix[E any](l []E, by *uint64) {
	for i := range l {
		k := i + Next(by)%(len(l)-i)
		l[i], l[k] = l[k], l[i]
	}
}

// EdgeSets goes over all sets of edges among three numbers, and among four, each in an order of its own; the numbers are near ones and far ones.
func EdgeSets(yield func([]api.Edge) bool) {
	names := [][]int{{1, 2, 3, 4}, {math.MinInt, -1, 0, math.MaxInt}, {1 << 20, 7, 1<<32 + 7, 3}, {4, 3, 2, 1}}
	by := uint64(10)
	for n := 3; n <= 4; n++ {
		for set := range 1 << (n * n) {
			name := names[Next(&by)%len(names)]
			var ends []int
			for bit := range n * n {
				if set>>bit&1 == 1 {
					ends = append(ends, name[bit/n], name[bit%n])
				}
			}
			l := Edges(ends...)
			Mix(l, &by)
			if !yield(l) {
				return
			}
		}
	}
}

// SomeEdges are edges among three to ten numbers from 0 on, by chance, from few to many; mostly from greater ones to lesser ones, so that many lots have no circle.
func SomeEdges(by *uint64) []api.Edge {
	n := 3 + Next(by)%8
	var ends []int
	for range Next(by) % (2*n + 1) {
		from, to := Next(by)%n, Next(by)%n
		if Next(by)%4 > 0 && from < to {
			from, to = to, from
		}
		ends = append(ends, from, to)
	}
	return Edges(ends...)
}
