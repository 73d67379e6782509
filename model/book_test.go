package model_test

import (
	"strings"
	"testing"

	"catchbolt/api"
	"catchbolt/check"
	"catchbolt/mode"
)

// table is the document's: what fields each kind has, by letters.
var table = [...]string{began: "CT", asked: "TAM", granted: "TAM", refused: "TAE", finish: "T", committed: "T", aborted: "TR", crashed: "C"}

// field is a number of an event: the letters by which kinds have it, and of each from where to where it may be.
type field struct {
	letters string
	may     [][2]int
	of      func(e *api.Event) *int
}

// fields are all numbers of an event, but for its kind.
var fields = []field{
	{"C", [][2]int{{1, 8}}, func(e *api.Event) *int { return &e.Client }},
	{"T", [][2]int{{1, 1<<63 - 1}}, func(e *api.Event) *int { return &e.Tx }},
	{"A", [][2]int{{1, 250}}, func(e *api.Event) *int { return &e.At.Table }},
	{"A", [][2]int{{0, 250}}, func(e *api.Event) *int { return &e.At.Row }},
	{"M", [][2]int{{1, 4}}, func(e *api.Event) *int { return (*int)(&e.Mode) }},
	{"ER", [][2]int{{1, 15}, {1, 5}}, func(e *api.Event) *int { return &e.Code }},
}

// edges are from where to where a field of a kind may be.
func edges(kind int, f field) (int, int) {
	if kind >= began && kind <= crashed {
		for i, letter := range strings.Split(f.letters, "") {
			if strings.Contains(table[kind], letter) {
				return f.may[i][0], f.may[i][1]
			}
		}
	}
	return 0, 0
}

// isForm says by the document's words whether an event's form may be.
func isForm(e api.Event) bool {
	for _, f := range fields {
		if low, high := edges(e.Kind, f); *f.of(&e) < low || *f.of(&e) > high {
			return false
		}
	}
	return e.Kind >= began && e.Kind <= crashed
}

// book is what happened, of which it is told by the document's words what may come next: it has the events, and nothing else.
type book []api.Event

// last is the place of the last event of a transaction that is of one of these kinds, or -1.
func (b book) last(tx int, kinds ...int) int {
	found := -1
	for place, e := range b {
		for _, kind := range kinds {
			if e.Kind == kind && e.Tx == tx {
				found = place
			}
		}
	}
	return found
}

// has says whether there is an event of a transaction that is of one of these kinds.
func (b book) has(tx int, kinds ...int) bool { return b.last(tx, kinds...) >= 0 }

func (b book) decided(tx int) bool { return b.has(tx, committed, aborted) }

func (b book) finishing(tx int) bool { return b.has(tx, finish) && !b.decided(tx) }

func (b book) running(tx int) bool { return b.has(tx, began) && !b.has(tx, finish) && !b.decided(tx) }

// question is the open one of a transaction, as the event by which it was asked; a zero one, if there is none.
func (b book) question(tx int) api.Event {
	if place := b.last(tx, asked, granted, refused); place >= 0 && b[place].Kind == asked {
		return b[place]
	}
	return api.Event{}
}

// mode is what a transaction has on a resource.
func (b book) mode(tx int, at api.Res) api.Mode {
	m := api.None
	for _, e := range b {
		if e.Kind == granted && e.Tx == tx && e.At == at {
			m = e.Mode
		}
	}
	return m
}

// many is the last transaction's number.
func (b book) many() int {
	n := 0
	for _, e := range b {
		if e.Kind == began {
			n = e.Tx
		}
	}
	return n
}

func (b book) alive(client int) bool {
	for _, e := range b {
		if e.Kind == crashed && e.Client == client {
			return false
		}
	}
	return true
}

// now is a client's transaction that isn't decided, or 0.
func (b book) now(client int) int {
	for _, e := range b {
		if e.Kind == began && e.Client == client && !b.decided(e.Tx) {
			return e.Tx
		}
	}
	return 0
}

// fits says whether a lock that is granted is what the open question asked for.
func (b book) fits(e api.Event) bool {
	q := b.question(e.Tx)
	least, err := mode.Least(b.mode(e.Tx, e.At), q.Mode)
	if q.At != e.At || err != nil || least != e.Mode {
		return false
	}
	need, err := mode.Need(q.Mode)
	return e.At.Row == 0 || err == nil && mode.Covers(b.mode(e.Tx, api.Res{Table: e.At.Table}), need)
}

// clashes says whether a transaction would clash, if it were committed now.
func (b book) clashes(tx int) bool {
	for place, one := range b {
		for _, other := range b {
			if one.Kind != granted || other.Kind != granted || one.Tx != tx || other.Tx == tx || one.At != other.At || mode.Together(one.Mode, other.Mode) {
				continue
			}
			if place < b.last(other.Tx, committed) {
				return true
			}
		}
	}
	return false
}

// comes says whether an event whose form may be may come next, but for clashes.
func (b book) comes(e api.Event) bool {
	closed := b.question(e.Tx) == api.Event{}
	switch e.Kind {
	case began:
		return e.Tx == b.many()+1 && b.alive(e.Client) && b.now(e.Client) == 0
	case asked:
		return b.running(e.Tx) && closed
	case granted:
		return b.running(e.Tx) && !closed && b.fits(e)
	case refused:
		return b.running(e.Tx) && !closed && b.question(e.Tx).At == e.At
	case finish:
		return b.running(e.Tx) && closed && b.has(e.Tx, asked)
	case committed:
		return b.finishing(e.Tx) || b.running(e.Tx) && !b.has(e.Tx, asked)
	case aborted:
		return b.running(e.Tx) || b.finishing(e.Tx)
	}
	return b.alive(e.Client)
}

// against is why an event may not come next; OK, if it may.
func (b book) against(e api.Event) api.Errno {
	switch {
	case !isForm(e):
		return api.ErrForm
	case !b.comes(e):
		return api.ErrState
	case e.Kind == committed && b.clashes(e.Tx):
		return api.ErrBusy
	}
	return api.OK
}

// with is what happened, and one event more, in new memory.
func (b book) with(e api.Event) book { return append(b[:len(b):len(b)], e) }

// serial are the committed transactions, in order.
func (b book) serial() []int {
	var all []int
	for _, e := range b {
		if e.Kind == committed {
			all = append(all, e.Tx)
		}
	}
	return all
}

// both checks that the model tells of an event behind what happened what the book tells of it, which it answers.
func (b book) both(t *testing.T, e api.Event) api.Errno {
	t.Helper()
	how := b.against(e)
	if how == api.OK {
		holds(t, b.with(e), b.with(e).serial()...)
	} else {
		breaks(t, b.with(e), len(b), how)
	}
	return how
}

// The book itself, by the document's examples and some more.
func TestBook(t *testing.T) {
	for text, want := range map[string]api.Errno{
		"began 1 client 1": api.OK,
		"began 1 client 1, asked 1 3X, granted 1 3X, finish 1, committed 1":                                                                             api.OK,
		"began 1 client 1, asked 1 3X, granted 1 3X, finish 1, committed 1, granted 2 3X":                                                               api.ErrState,
		"began 1 client 1, asked 1 3X, granted 1 3S":                                                                                                    api.ErrState,
		"began 1 client 1, asked 1 3X, refused 1 3 16":                                                                                                  api.ErrForm,
		"began 1 client 1, began 2 client 2, asked 1 3S, granted 1 3S, asked 2 3S, granted 2 3S, finish 1, finish 2, committed 1, committed 2":          api.OK,
		"began 1 client 1, began 2 client 2, asked 1 3S, granted 1 3S, asked 2 3X, granted 2 3X, finish 1, finish 2, committed 1, committed 2":          api.ErrBusy,
		"began 1 client 1, began 2 client 2, asked 1 3S, granted 1 3S, finish 1, committed 1, asked 2 3X, granted 2 3X, finish 2, committed 2":          api.OK,
		"began 1 client 1, began 2 client 2, asked 1 3S, granted 1 3S, asked 2 3X, granted 2 3X, finish 2, committed 2, finish 1, aborted 1 3":          api.OK,
		"began 1 client 1, asked 1 3IS, granted 1 3IS, asked 1 3.4S, granted 1 3.4S, asked 1 3IX, granted 1 3IX, asked 1 3.4X, granted 1 3.4X":          api.OK,
		"began 1 client 1, asked 1 3IS, granted 1 3IS, asked 1 3.4X, granted 1 3.4X":                                                                    api.ErrState,
		"began 1 client 1, asked 1 3X, granted 1 3X, asked 1 3.4IS, granted 1 3.4IS":                                                                    api.ErrState,
		"began 1 client 1, asked 1 3X, granted 1 3X, asked 1 3.4IS, refused 1 3.4 12, crashed client 1, asked 1 3.4S, granted 1 3.4S, aborted 1 5":      api.OK,
		"began 1 client 1, asked 1 3X, granted 1 3X, asked 1 3.4IS, refused 1 3.4 12, crashed client 1, asked 1 3.4S, granted 1 3.4S, crashed client 1": api.ErrState,
	} {
		l := trace(text)
		for place, e := range l {
			how := book(l[:place]).against(e)
			if how != api.OK && (place < len(l)-1 || how != want) || place == len(l)-1 && how != want {
				t.Errorf("%s: at %d %v", check.Traced(l), place, how)
			}
		}
	}
}
