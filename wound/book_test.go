package wound_test

import (
	"slices"

	"catchbolt/api"
	"catchbolt/check"
	"catchbolt/wound"
)

// elders are all for whom a number is wounded: each From, that is elder, of an edge to it.
func elders(l []api.Edge, n int) []int {
	var all []int
	for _, e := range l {
		if e.To == n && e.From < n {
			all = append(all, e.From)
		}
	}
	return all
}

// bookOf are all that are wounded, as the document says it word by word.
func bookOf(l []api.Edge) []wound.Wound {
	var all []wound.Wound
	for _, n := range check.Ends(l) {
		if by := elders(l, n); len(by) > 0 {
			all = append(all, wound.Wound{Tx: n, By: slices.Min(by)})
		}
	}
	return all
}

// bookOfRest are the edges neither of whose ends is wounded, likewise.
func bookOfRest(l []api.Edge) []api.Edge {
	return slices.DeleteFunc(slices.Clone(l), func(e api.Edge) bool {
		return len(elders(l, e.From))+len(elders(l, e.To)) > 0
	})
}

// circles are all circles of two or more.
func circles(l []api.Edge) [][]int {
	return slices.DeleteFunc(check.Circles(l), func(c []int) bool { return len(c) < 2 })
}
