package check

import (
	"math"
	"slices"

	"catchbolt/api"
)

// Roomy is a config that has room for whatever most tests do, in which no lease ends, and nothing is sent again, for long.
func Roomy(probe bool) api.Config {
	return api.Config{Shards: 4, Probe: probe, Lease: 1000, Resend: 1000, Slots: 4096, Queue: 64, Flight: 100}
}

// Both calls f for a config without probes, and for one with probes, which are alike but for that.
func Both(f func(c api.Config)) {
	f(Roomy(false))
	f(Roomy(true))
}

// Field is one of a config's numbers, and its greatest one.
type Field struct {
	Name string
	Of   func(c *api.Config) *int
	Most int
}

// Fields are all of a config's.
func Fields() []Field {
	return []Field{
		{"Shards", func(c *api.Config) *int { return &c.Shards }, 64},
		{"Lease", func(c *api.Config) *int { return &c.Lease }, 1000},
		{"Resend", func(c *api.Config) *int { return &c.Resend }, 1000},
		{"Slots", func(c *api.Config) *int { return &c.Slots }, 4096},
		{"Queue", func(c *api.Config) *int { return &c.Queue }, 64},
		{"Flight", func(c *api.Config) *int { return &c.Flight }, 65536},
	}
}

// Wrong are numbers that a field may not have: just past its edges, and far beyond; some would be near if they were cut.
func (f Field) Wrong() []int {
	all := []int{f.Most + 1, f.Most + 2, f.Most + 255, f.Most + 256, 2 * f.Most, f.Most + 65536, f.Most + 1<<32, -f.Most, -f.Most - 1, math.MinInt + f.Most}
	all = append(all, WrongLimits()...)
	all = append(all, WrongNumbers()...)
	return slices.DeleteFunc(all, func(n int) bool { return n >= 1 && n <= f.Most })
}

// Beginnings calls f with configs and numbers of clients, at the edges of both and far beyond them, and with the error that whatever is made by both tells first; OK is none.
func Beginnings(f func(c api.Config, clients int, want api.Errno)) {
	Both(func(c api.Config) {
		for _, n := range UpTo(1, api.MaxClients) {
			f(c, n, api.OK)
		}
		for _, n := range FarFrom(1, api.MaxClients) {
			f(c, n, api.ErrRange)
		}
		for _, field := range Fields() {
			one := c
			for _, n := range []int{1, 2, field.Most - 1, field.Most} {
				*field.Of(&one) = n
				f(one, 8, api.OK)
				f(one, 9, api.ErrRange)
			}
			for _, n := range field.Wrong() {
				*field.Of(&one) = n
				for _, clients := range []int{1, 0, 9} {
					f(one, clients, api.ErrConfig)
				}
			}
		}
	})
	f(api.Config{}, math.MinInt, api.ErrConfig)
}
