package wound_test

import (
	"slices"

	"catchbolt/api"
	"catchbolt/check"
	"catchbolt/wound"
)

// elders are all for whom a number is wounded: each From, that is elder, of an edge to it.
func elders(l []api.Edge, n int) []int {
	var all []int
	for _, e := range l {
		if e.To == n && e.From < n {
			all = append(all, e.From)
		}
	}
	return all
}

// bookOf are all that are wounded, as the document says it word by word.
func bookOf(l []api.Edge) []wound.Wound {
	var all []wound.Wound
	for _, n := range check.Ends(l) {
		if by := elders(l, n); len(by) > 0 {
			all = append(all, wound.Wound{Tx: n, By: slices.Min(by)})
		}
	}
	return all
}

// bookOfRest are the edges neither of whose ends is wounded, likewise.
func bookOfRest(l []api.Edge) []api.Edge {
	return slices.DeleteFunc(slices.Clone(l), func(e api.Edge) bool {
		return len(elders(l, e.From))+len(elders(l, e.To)) > 0
	})
}

// goes says whether an edge goes from a number to another one.
func goes(l []api.Edge, from, to int) bool {
	return slices.ContainsFunc(l, func(e api.Edge) bool { return e.From == from && e.To == to })
}

// circles are all circles of two or more, each once, from its least number on, and without going through one twice.
func circles(l []api.Edge) [][]int {
	all := check.Ends(l)
	var found [][]int
	var on func(way []int)
	on = func(way []int) {
		first, last := way[0], way[len(way)-1]
		if len(way) > 1 && goes(l, last, first) {
			found = append(found, slices.Clone(way))
		}
		for _, n := range all {
			if n > first && goes(l, last, n) && !slices.Contains(way, n) {
				on(append(way, n))
			}
		}
	}
	for _, n := range all {
		on([]int{n})
	}
	return found
}
