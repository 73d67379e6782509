package model_test

import (
	"slices"
	"strconv"
	"testing"

	"catchbolt/api"
	"catchbolt/check"
)

// P20.1 and P20.2, by what a book and the model tell.

// world is what there may be, for events of all kinds: so many clients and transactions, and so much that each transaction asks.
type world struct {
	clients, txs, asks int
	locks              []string // resources with modes, that may be asked for
	more               []string // of which others there are events, too
}

// events are all that there may be, some wrong ones among them.
func (w world) events() []api.Event {
	var all []api.Event
	for client := 1; client <= w.clients; client++ {
		all = append(all, api.Event{Kind: crashed, Client: client}, api.Event{Kind: crashed, Client: client, Tx: 1})
		for tx := 1; tx <= w.txs+1; tx++ {
			all = append(all, api.Event{Kind: began, Client: client, Tx: tx})
		}
	}
	for n := 1; n <= w.txs; n++ {
		tx := strconv.Itoa(n)
		all = append(all, trace("finish "+tx+", committed "+tx+", aborted "+tx+" 3")...)
		all = append(all, api.Event{Kind: committed, Tx: n, Code: 1}, api.Event{Kind: aborted, Tx: n, Code: 6})
		for _, lock := range slices.Concat(w.locks, w.more) {
			l := trace(gets(tx, lock))
			all = append(all, l...)
			all = append(all, api.Event{Kind: refused, Tx: n, At: l[0].At, Code: 9})
		}
	}
	return all
}

// isIn says whether what happened is of a world.
func (w world) isIn(b book) bool {
	asks := map[int]int{}
	for _, e := range b {
		lock := check.Res(e.At) + check.Mode(e.Mode)
		if e.Kind == asked {
			asks[e.Tx]++
		}
		if asks[e.Tx] > w.asks || e.Kind == began && e.Tx > w.txs || e.Kind == asked && !slices.Contains(w.locks, lock) {
			return false
		}
	}
	return true
}

// key is all that may tell in what is yet to come, as a text: books of one key are one from then on.
func (b book) key(w world) string {
	text := strconv.Itoa(b.many())
	for client := 1; client <= w.clients; client++ {
		text += " " + strconv.FormatBool(b.alive(client))
	}
	for tx := 1; tx <= b.many(); tx++ {
		if b.decided(tx) {
			text += "; decided"
			continue
		}
		text += "; " + strconv.Itoa(b[b.last(tx, began)].Client) + " " + strconv.FormatBool(b.finishing(tx)) + strconv.FormatBool(b.clashes(tx))
		var got []string
		for _, e := range b {
			if e.Tx == tx && e.Kind == granted {
				got = append(got, check.Res(e.At)+check.Mode(e.Mode))
			} else if e.Tx == tx && e.Kind == asked {
				text += "?"
			}
		}
		q := b.question(tx)
		slices.Sort(got)
		for _, lock := range append(slices.Compact(got), check.Res(q.At)+check.Mode(q.Mode)) {
			text += " " + lock
		}
	}
	return text
}

// eachState calls f with what happened, by which each state comes about to which all events can bring a world.
func (w world) eachState(f func(b book)) int {
	every, next := w.events(), []book{nil}
	seen := map[string]bool{book(nil).key(w): true}
	for len(next) > 0 {
		b := next[0]
		next = next[1:]
		f(b)
		for _, e := range every {
			if b.against(e) != api.OK || !w.isIn(b.with(e)) {
				continue
			}
			if key := b.with(e).key(w); !seen[key] {
				seen[key] = true
				next = append(next, b.with(e))
			}
		}
	}
	return len(seen)
}

// worlds are some small ones.
func worlds() []world {
	return []world{
		{1, 2, 3, []string{"1IS", "1.1S", "1X", "1.1X"}, []string{"1S", "2X"}},
		{2, 2, 2, []string{"1IX", "1.1X", "1.1S"}, []string{"1X", "1.2X"}},
		{2, 3, 1, []string{"1S", "1X"}, []string{"1IX"}},
		{3, 3, 1, []string{"1X"}, []string{"2X"}},
	}
}

func TestEachEventFromEachState(t *testing.T) {
	for i, w := range worlds() {
		every, hows := w.events(), map[api.Errno]int{}
		many := w.eachState(func(b book) {
			for _, e := range every {
				hows[b.both(t, e)]++
			}
			check.Stop(t)
		})
		t.Logf("%d: %d states, %d events: %v", i, many, len(every), hows)
	}
}

// chance is how events are picked: how many clients, tables and rows there are, and how often one of that many events is a crash.
type chance struct {
	clients, tables, rows, crashes int
}

// chances are those of all runs.
func chances() []chance {
	return []chance{{1, 2, 2, 1000}, {2, 1, 1, 300}, {3, 2, 2, 1000}, {8, 3, 1, 500}, {8, 1, 3, 100}, {5, 250, 250, 300}, {4, 1, 0, 1000}}
}

// pick is an event by chance: one that may well be next, or any.
func (q chance) pick(by *uint64, b book) api.Event {
	client := 1 + check.Next(by)%q.clients
	tx := b.now(client)
	switch n := check.Next(by) % 40; {
	case check.Next(by)%q.crashes == 0:
		return api.Event{Kind: crashed, Client: client}
	case n < 4:
		return q.any(by, b)
	case tx == 0:
		return api.Event{Kind: began, Client: client, Tx: b.many() + 1}
	case n < 6:
		return api.Event{Kind: aborted, Tx: tx, Code: 1 + n%5}
	case n == 6 || b.finishing(tx):
		return api.Event{Kind: committed, Tx: tx}
	case b.question(tx).Kind == asked:
		return q.answer(by, b, tx)
	case n < 15:
		return api.Event{Kind: finish, Tx: tx}
	}
	return q.question(by, b, tx)
}

// question is one that a transaction may well ask: mostly of rows whose tables it has.
func (q chance) question(by *uint64, b book, tx int) api.Event {
	at := q.place(by)
	if b.mode(tx, api.Res{Table: at.Table}) == api.None && check.Next(by)%8 > 0 {
		at.Row = 0
	}
	return api.Event{Kind: asked, Tx: tx, At: at, Mode: q.mode(by, at)}
}

// place is a resource.
func (q chance) place(by *uint64) api.Res {
	return api.Res{Table: 1 + check.Next(by)%q.tables, Row: check.Next(by) % (q.rows + 1)}
}

// mode is one that may well be asked for: of rows mostly S and X, of tables mostly the lesser ones.
func (q chance) mode(by *uint64, at api.Res) api.Mode {
	if at.Row > 0 && check.Next(by)%8 > 0 {
		return []api.Mode{api.S, api.X}[check.Next(by)%2]
	}
	return []api.Mode{api.IS, api.IX, api.IS, api.IX, api.IX, api.S, api.X}[check.Next(by)%7]
}

// answer is one to the open question, mostly a right one.
func (q chance) answer(by *uint64, b book, tx int) api.Event {
	open := b.question(tx)
	e := api.Event{Kind: granted, Tx: tx, At: open.At, Mode: least[b.mode(tx, open.At)][open.Mode-1]}
	switch check.Next(by) % 12 {
	case 0:
		e.Mode = api.Mode(1 + check.Next(by)%4)
	case 1:
		e.At = q.place(by)
	case 2:
		return api.Event{Kind: refused, Tx: tx, At: e.At, Code: 1 + check.Next(by)%15}
	}
	return e
}

// any is an event of any kind, mostly of one of the last transactions, whose form mostly may be.
func (q chance) any(by *uint64, b book) api.Event {
	e := ones()[check.Next(by)%8]
	if e.Tx != 0 {
		e.Tx = max(1, b.many()+1-check.Next(by)%(2*q.clients+1))
	}
	if e.Client != 0 {
		e.Client = 1 + check.Next(by)%q.clients
	}
	if e.At != (api.Res{}) {
		e.At = q.place(by)
	}
	if e.Mode != api.None {
		e.Mode = q.mode(by, e.At)
	}
	if check.Next(by)%8 == 0 {
		f := fields[check.Next(by)%len(fields)]
		e = with(e, f, check.Next(by)%20-1)
	}
	return e
}

// eachRun calls f for what happens in runs of all chances.
func eachRun(runs, events int, f func(q chance, by *uint64, b book) book) []book {
	var all []book
	by := uint64(20)
	for _, q := range chances() {
		for range runs {
			var b book
			for range events {
				b = f(q, &by, b)
			}
			all = append(all, b)
		}
	}
	return all
}

func TestRunsAgainstABook(t *testing.T) {
	kinds, hows := map[int]int{}, map[api.Errno]int{}
	eachRun(24, 300, func(q chance, by *uint64, b book) book {
		e := q.pick(by, b)
		how := b.both(t, e)
		check.Stop(t)
		hows[how]++
		if how != api.OK {
			return b
		}
		kinds[e.Kind]++
		return b.with(e)
	})
	for kind := began; kind <= crashed; kind++ {
		if kinds[kind] < 50 {
			t.Errorf("they are of these kinds: %v", kinds)
		}
	}
	if len(hows) != 4 || hows[api.ErrBusy] < 50 || hows[api.ErrForm] < 50 {
		t.Errorf("they are told as %v", hows)
	}
	t.Log(kinds, hows)
}

// Any events, of which most may never be.
func TestAnyEvents(t *testing.T) {
	numbers := []int{0, 0, 0, 0, 0, 0, 1, 1, 1, 1, 2, 2, 3, 4, 5, 8, 9, -1, 15, 16, 250, 251}
	by := uint64(21)
	for range 20000 {
		var b book
		for range 6 {
			e := api.Event{Kind: check.Next(&by)%11 - 1}
			for _, f := range fields {
				if low, _ := edges(e.Kind, f); low > 0 {
					e = with(e, f, low)
				}
				if check.Next(&by)%3 == 0 {
					e = with(e, f, numbers[check.Next(&by)%len(numbers)])
				}
			}
			if b.both(t, e) == api.OK {
				b = b.with(e)
			}
		}
		check.Stop(t)
	}
}
