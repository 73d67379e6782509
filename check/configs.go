package check

import (
	"math"
	"slices"

	"catchbolt/api"
)

// Roomy is a config that has room for whatever most tests do, in which no lease ends, and nothing is sent again, for long.
func Roomy(probe bool) api.Config {
	return api.Config{Shards: 4, Probe: probe, Lease: 1000, Resend: 1000, Slots: 4096, Queue: 64, Flight: 100}
}

// Both calls f for a config without probes, and for one with probes, which are alike but for that.
func Both(f func(c api.Config)) {
	f(Roomy(false))
	f(Roomy(true))
}

// Field is one of a config's numbers, and its greatest one.
type Field struct {
	Name string
	Of   func(c *api.Config) *int
	Most int
}

// Fields are all of a config's.
func Fields() []Field {
	return []Field{
		{"Shards", func(c *api.Config) *int { return &c.Shards }, 64},
		{"Lease", func(c *api.Config) *int { return &c.Lease }, 1000},
		{"Resend", func(c *api.Config) *int { return &c.Resend }, 1000},
		{"Slots", func(c *api.Config) *int { return &c.Slots }, 4096},
		{"Queue", func(c *api.Config) *int { return &c.Queue }, 64},
		{"Flight", func(c *api.Config) *int { return &c.Flight }, 65536},
	}
}

// Wrong are numbers that a field may not have: just past its edges, and far beyond; some would be near if they were cut.
func (f Field) Wrong() []int {
	all := []int{f.Most + 1, f.Most + 2, f.Most + 255, f.Most + 256, 2 * f.Most, f.Most + 65536, f.Most + 1<<32, -f.Most, -f.Most - 1, math.MinInt + f.Most}
	all = append(all, WrongLimits()...)
	all = append(all, WrongNumbers()...)
	return slices.DeleteFunc(all, func(n int) bool { return n >= 1 && n <= f.Most })
}
