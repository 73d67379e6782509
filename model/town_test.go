package model_test

import (
	"slices"
	"testing"

	"catchbolt/api"
	"catchbolt/check"
	"catchbolt/coord"
	"catchbolt/shard"
)

// What a coordinator and shards trace is the model's, whatever the net between them does: by that the model asks no more than it may.

// town is a coordinator with its shards, and the messages that are on their way between them.
type town struct {
	o      *coord.Coord
	shards []*shard.Shard
	way    []api.Msg
}

// settled is a town in which nothing happened yet.
func settled(t *testing.T, c api.Config, clients int) *town {
	t.Helper()
	o, err := coord.New(c, clients)
	if err != nil {
		t.Fatal(err)
	}
	w := &town{o: o}
	for id := 1; id <= c.Shards; id++ {
		s, err := shard.New(id, c)
		if err != nil {
			t.Fatal(err)
		}
		w.shards = append(w.shards, s)
	}
	return w
}

// send puts on their way what is sent, which is nothing beside an error.
func (w *town) send(l []api.Msg, _ error) { w.way = append(w.way, l...) }

// comes is the message at a place on the way: it comes to its node.
func (w *town) comes(place int) {
	m := w.way[place]
	w.way = slices.Delete(w.way, place, place+1)
	if m.To == 0 {
		w.send(w.o.Handle(m))
		return
	}
	w.send(w.shards[m.To-1].Handle(m))
}

// ticks is a tick of all nodes.
func (w *town) ticks() {
	w.send(w.o.Tick(), nil)
	for _, s := range w.shards {
		w.send(s.Tick(), nil)
	}
}

// acts is what a client does by chance: mostly what brings its transaction on.
func (w *town) acts(q chance, by *uint64) {
	client, at := 1+check.Next(by)%q.clients, q.place(by)
	switch n := check.Next(by) % 40; {
	case check.Next(by)%q.crashes == 0:
		w.o.Crash(client)
	case n < 8:
		w.o.Begin(client)
	case n < 33:
		w.send(w.o.Lock(client, at, q.mode(by, at)))
	case n < 39:
		w.send(w.o.Commit(client))
	default:
		w.send(w.o.Abort(client))
	}
}

// happens is something that happens in a town, by chance.
func (w *town) happens(q chance, by *uint64) {
	n, place := check.Next(by)%60, check.Next(by)%max(1, len(w.way))
	switch {
	case n < 3:
		w.ticks()
	case n < 20 || len(w.way) == 0:
		w.acts(q, by)
	case n < 22:
		w.way = slices.Delete(w.way, place, place+1)
	case n < 24 && len(w.way) < 500:
		w.way = append(w.way, w.way[place])
	default:
		w.comes(place)
	}
}

func TestTracesOfACoordinatorWithShards(t *testing.T) {
	by, kinds := uint64(22), map[int]int{}
	for _, q := range chances() {
		for n := range 24 {
			check.Both(func(c api.Config) {
				c.Shards, c.Lease, c.Resend = 1+n%3, []int{3, 9, 1000}[n%3], 1+n%2
				w := settled(t, c, q.clients)
				for range 2000 {
					w.happens(q, &by)
				}
				l := w.o.View().Trace
				follows(t, l)
				for _, e := range l {
					kinds[e.Kind+10*e.Code*(e.Kind/7)]++ // of those that are aborted by reasons
				}
				check.Stop(t)
			})
		}
	}
	for _, kind := range []int{began, asked, granted, refused, finish, committed, aborted + 10, aborted + 20, aborted + 30, aborted + 40, aborted + 50, crashed} {
		if kinds[kind] == 0 {
			t.Errorf("they are of these kinds: %v", kinds)
		}
	}
	t.Log(kinds)
}
