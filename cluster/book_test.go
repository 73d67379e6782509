package cluster_test

import (
	"slices"
	"testing"

	"catchbolt/api"
	"catchbolt/check"
	"catchbolt/cluster"
	"catchbolt/coord"
	"catchbolt/script"
	"catchbolt/shard"
)

// book is a cluster as the document tells it, word by word: of the layers below it asks the coordinator, the shards, and which entries there are; its net is a list.
type book struct {
	c      api.Config
	o      *coord.Coord
	shards []*shard.Shard
	way    []api.Msg
	lost   int
}

// opened is a book, and a new cluster beside it.
func opened(t *testing.T, c api.Config, clients int) (*book, *cluster.Cluster) {
	t.Helper()
	o, err := coord.New(c, clients)
	if err != nil {
		t.Fatal(err)
	}
	b := &book{c: c, o: o}
	for n := range c.Shards {
		s, err := shard.New(n+1, c)
		if err != nil {
			t.Fatal(err)
		}
		b.shards = append(b.shards, s)
	}
	return b, made(t, c, clients)
}

// gets is what the net gets of a node.
func (b *book) gets(l []api.Msg) {
	for _, m := range l {
		if len(b.way) == b.c.Flight {
			b.lost++
		} else {
			b.way = append(b.way, m)
		}
	}
}

// comes is a message that comes to its node.
func (b *book) comes(m api.Msg) {
	var sent []api.Msg
	if m.To == 0 {
		sent, _ = b.o.Handle(m)
	} else {
		sent, _ = b.shards[m.To-1].Handle(m)
	}
	b.gets(sent)
}

// tick is a tick of all.
func (b *book) tick() {
	b.gets(b.o.Tick())
	for _, s := range b.shards {
		b.gets(s.Tick())
	}
}

// calm is a calm round.
func (b *book) calm() {
	b.tick()
	l := b.way
	b.way = nil
	for _, m := range l {
		b.comes(m)
	}
}

// acts is what a client does, where that has no error.
func (b *book) acts(e script.Entry) {
	var sent []api.Msg
	switch e.Kind {
	case 2:
		b.o.Begin(e.Client)
	case 3:
		sent, _ = b.o.Lock(e.Client, e.At, e.Mode)
	case 4:
		sent, _ = b.o.Commit(e.Client)
	case 5:
		sent, _ = b.o.Abort(e.Client)
	case 6:
		b.o.Crash(e.Client)
	}
	b.gets(sent)
}

// happens is an entry that happens, if it is Ok.
func (b *book) happens(e script.Entry) {
	picks := e.Kind >= 7 && len(b.way) > 0
	switch {
	case !script.Ok(e):
	case e.Kind == 1:
		b.tick()
	case e.Kind < 7:
		b.acts(e)
	case picks && e.Kind == 9 && len(b.way) < b.c.Flight:
		b.way = append(b.way, b.way[e.Pick%len(b.way)])
	case picks && e.Kind < 9:
		place := e.Pick % len(b.way)
		m := b.way[place]
		b.way = append(slices.Clone(b.way[:place]), b.way[place+1:]...)
		if e.Kind == 7 {
			b.comes(m)
		}
	}
}

// view is all that it has.
func (b *book) view() cluster.View {
	v := cluster.View{Coord: b.o.View(), Net: slices.Clone(b.way), Lost: b.lost}
	for _, s := range b.shards {
		v.Shards = append(v.Shards, s.View())
	}
	return v
}

// both lets an entry happen in a book and in a cluster, and checks that both have the same.
func (b *book) both(t *testing.T, k *cluster.Cluster, e script.Entry) {
	t.Helper()
	before := b.view()
	b.happens(e)
	k.Do(e)
	if got, want := k.View(), b.view(); !same(got, want) {
		t.Errorf("%+v: it has\n%s, want\n%s, of\n%s", e, text(got), text(want), text(before))
	}
}

// The book itself, by the document's example.
func TestBook(t *testing.T) {
	c := check.Roomy(false)
	c.Shards = 1
	b, _ := opened(t, c, 1)
	for _, e := range entries("begin 1, lock 1 1X, deliver 0") {
		b.happens(e)
	}
	want := "time 0\n  last 1\n  1 Active; request 1 of 1: 1X, open; touched 1\n  trace began 1 client 1, asked 1 1X\n  shard 1: states 1=Active; leases 1; book 1; held 1:1X; log 1:1.1X\n  net 1>0 granted 1:1.1X\n  lost 0"
	if got := text(b.view()); got != want {
		t.Errorf("it has\n%s, want\n%s", got, want)
	}
}
