package check

import (
	"math"
	"slices"

	"catchbolt/api"
)

// FarFrom are numbers near below and beyond what may be from low to high, and far from it: many would be within again if a number were cut, or its sign lost.
func FarFrom(low, high int) []int {
	var l []int
	for _, n := range []int{low, high, -low, -high, ^low, ^high} {
		for shift := range 64 {
			l = append(l, n+1<<shift, n-1<<shift)
		}
	}
	l = append(l, math.MinInt64, math.MinInt64+1, math.MinInt32, math.MaxInt32, math.MaxInt64-1, math.MaxInt64)
	return slices.DeleteFunc(l, func(n int) bool { return n >= low && n <= high })
}

// WrongLimits are those that no line may have; some would be near if they were cut.
func WrongLimits() []int {
	return []int{
		math.MinInt64, math.MinInt64 + 1, math.MinInt64 + 64, -1 << 32, -1<<32 + 7, math.MinInt32, -256, -255, -64, -2, -1,
		0, 65, 66, 127, 128, 129, 256, 257, 320, 65536, 65537, math.MaxInt32, 1 << 32, 1<<32 + 1, 1<<32 + 64, 1 << 48, math.MaxInt64,
	}
}

// Numbers are those around the edges of what a transaction, and a request's number, may be.
func Numbers() []int {
	return []int{1, 2, 3, 7, 9, 10, 255, 256, 257, 65535, 65536, 65537, 1<<19 + 1, 1048574, 1048575, 1048576}
}

// WrongNumbers are those that neither may be; some would be near if they were cut.
func WrongNumbers() []int {
	return []int{
		math.MinInt64, math.MinInt64 + 1, math.MinInt64 + 7, -1 << 62, -1<<32 + 1, -1 << 32, math.MinInt32, -1048577, -1048576, -256, -255, -7, -2, -1,
		0, 1048577, 1048578, 1048583, 1 << 21, 1<<24 + 7, math.MaxInt32, 1 << 32, 1<<32 + 1, 1<<32 + 7, 1 << 48, 1<<53 + 1, 1 << 62, math.MaxInt64 - 1, math.MaxInt64,
	}
}

// Modes are those that one may ask for.
func Modes() []api.Mode {
	return []api.Mode{api.IS, api.IX, api.S, api.X}
}

// WrongModes are numbers that nobody may ask for; some would be modes if they were cut.
func WrongModes() []api.Mode {
	return []api.Mode{
		math.MinInt64, math.MinInt64 + 1, math.MinInt64 + 4, -1<<32 + 1, math.MinInt32, -256, -255, -252, -4, -3, -2, -1,
		api.None, 5, 6, 7, 8, 127, 128, 255, 256, 257, 260, 65537, 1<<32 + 1, 1<<32 + 4, 1 << 48, math.MaxInt64,
	}
}

// WrongResources are those that may not be; some would be near if a number of theirs were cut.
func WrongResources() []api.Res {
	all := []api.Res{{}, {Table: 251, Row: 251}, {Table: -1, Row: -1}, {Table: math.MaxInt64, Row: math.MaxInt64}}
	for _, n := range []int{
		math.MinInt64, math.MinInt64 + 3, -1<<32 + 3, math.MinInt32, -253, -250, -3, -2, -1,
		251, 252, 255, 256, 257, 259, 506, 65536, 65539, math.MaxInt32, 1 << 32, 1<<32 + 3, 1 << 48, 1 << 62, math.MaxInt64,
	} {
		all = append(all, api.Res{Table: n}, api.Res{Table: n, Row: 1}, api.Res{Table: 3, Row: n}, api.Res{Table: 250, Row: n})
	}
	return append(all, api.Res{Row: 1}, api.Res{Row: 250})
}

// MaxTime is the document's greatest time.
const MaxTime = 1099511627776

// Times are those around the edges of what a time may be; some would be others if they were cut.
func Times() []int {
	return []int{
		0, 1, 2, 3, 999, 1000, 1001, 65535, 65536, math.MaxInt32, math.MaxInt32 + 1, 1<<32 - 1, 1 << 32, 1<<32 + 1,
		1 << 39, MaxTime - 1001, MaxTime - 1000, MaxTime - 999, MaxTime - 2, MaxTime - 1, MaxTime,
	}
}

// NoTimes are numbers that are no times.
func NoTimes() []int {
	return []int{
		math.MinInt64, math.MinInt64 + 1, math.MinInt64 + 1001, -1 << 62, -MaxTime - 1, -MaxTime, -MaxTime + 1, -1 << 32, math.MinInt32, -1001, -1000, -2, -1,
		MaxTime + 1, MaxTime + 2, MaxTime + 1000, 1 << 41, 1<<41 + 7, 1 << 48, 1<<53 + 1, 1 << 62, math.MaxInt64 - 1000, math.MaxInt64 - 1, math.MaxInt64,
	}
}
