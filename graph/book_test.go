package graph_test

import (
	"slices"

	"catchbolt/api"
	"catchbolt/check"
)

// book is what the document says of edges, word by word: all numbers that are at them, rising, and whether an edge goes from one to another one.
type book struct {
	all  []int
	goes map[[2]int]bool
}

// bookOf is the book of edges.
func bookOf(l []api.Edge) *book {
	b := &book{all: check.Ends(l), goes: map[[2]int]bool{}}
	for _, e := range l {
		b.goes[[2]int{e.From, e.To}] = true
	}
	return b
}

// reach are all that are reached from a number: those to which an edge goes from it, or from one that is reached.
func (b *book) reach(from int) []int {
	var reached []int
	for grown := true; grown; {
		grown = false
		for _, n := range b.all {
			more := func(by int) bool { return b.goes[[2]int{by, n}] }
			if !slices.Contains(reached, n) && (more(from) || slices.ContainsFunc(reached, more)) {
				reached, grown = append(reached, n), true
			}
		}
	}
	slices.Sort(reached)
	return reached
}

// circles are all that are reached from themselves.
func (b *book) circles() []int {
	var all []int
	for _, n := range b.all {
		if slices.Contains(b.reach(n), n) {
			all = append(all, n)
		}
	}
	return all
}

// way is the first row from a number to another one, of all rows of two, of three, and so on, each lot from the least one up. No shortest one has more than one number twice.
func (b *book) way(from, to int) []int {
	for between := range len(b.all) {
		if row := b.row([]int{from}, between, to); row != nil {
			return row
		}
	}
	return nil
}

// row is the least row that goes on from one with so many numbers more, and then ends.
func (b *book) row(begun []int, more, to int) []int {
	last := begun[len(begun)-1]
	if more == 0 {
		if b.goes[[2]int{last, to}] {
			return append(slices.Clone(begun), to)
		}
		return nil
	}
	for _, n := range b.all {
		if b.goes[[2]int{last, n}] {
			if row := b.row(append(slices.Clone(begun), n), more-1, to); row != nil {
				return row
			}
		}
	}
	return nil
}

// order is all numbers, in turn the least to which no edge goes from one that isn't there yet, and whether nobody is on a circle.
func (b *book) order() ([]int, bool) {
	if len(b.circles()) > 0 {
		return nil, false
	}
	var order []int
	for range b.all {
		order = append(order, b.free(order))
	}
	return order, true
}

// free is the least number that isn't there yet, to which no edge goes from one that isn't there yet.
func (b *book) free(there []int) int {
	missing := func(n int) bool { return !slices.Contains(there, n) }
	i := slices.IndexFunc(b.all, func(n int) bool {
		return missing(n) && !slices.ContainsFunc(b.all, func(by int) bool { return missing(by) && b.goes[[2]int{by, n}] })
	})
	return b.all[i]
}
