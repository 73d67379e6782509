package model_test

import (
	"slices"
	"strconv"
	"testing"

	"catchbolt/api"
	"catchbolt/check"
	"catchbolt/mode"
	"catchbolt/model"
)

// P20.1: ErrState, of each kind. P20.2.

func TestExamples(t *testing.T) {
	may(t, "began 1 client 1, asked 1 3X, granted 1 3X, finish 1, committed 1", 1)
	mayNot(t, "began 1 client 1, asked 1 3X, granted 1 3X, finish 1, committed 1, granted 2 3X", api.ErrState)
}

func TestNothing(t *testing.T) {
	holds(t, nil)
	holds(t, []api.Event{})
	holds(t, ones()[:0])
}

func TestFirstEvents(t *testing.T) {
	may(t, "began 1 client 8")
	may(t, "crashed client 8")
	for _, text := range []string{
		"began 2 client 1", "asked 1 3X", "granted 1 3X", "refused 1 3 9", "finish 1", "committed 1", "aborted 1 1",
		"began 1048576 client 1", "began 9223372036854775807 client 1", "aborted 9223372036854775807 1",
	} {
		mayNot(t, text, api.ErrState)
	}
}

func TestBegan(t *testing.T) {
	var l []api.Event
	for client := 8; client >= 1; client-- {
		l = append(l, api.Event{Kind: began, Client: client, Tx: 9 - client})
	}
	holds(t, l)
	may(t, "began 1 client 1, aborted 1 1, began 2 client 1, committed 2, began 3 client 1", 2)
	may(t, "began 1 client 1, began 2 client 2, aborted 1 1, began 3 client 1")
	may(t, "began 1 client 1, crashed client 2, began 2 client 3")
	mayNot(t, "began 1 client 1, began 1 client 2", api.ErrState)
	mayNot(t, "began 1 client 1, began 3 client 2", api.ErrState)
	mayNot(t, "began 1 client 1, aborted 1 1, began 1 client 1", api.ErrState)
	mayNot(t, "began 1 client 1, began 2 client 2, aborted 1 1, began 1 client 1", api.ErrState)
	mayNot(t, "began 1 client 1, began 2 client 2, aborted 2 1, began 2 client 2", api.ErrState)
	mayNot(t, "began 1 client 1, began 2 client 1", api.ErrState)
	mayNot(t, "began 1 client 1, asked 1 3X, began 2 client 1", api.ErrState)
	mayNot(t, "began 1 client 1, asked 1 3X, granted 1 3X, finish 1, began 2 client 1", api.ErrState)
	mayNot(t, "began 1 client 1, began 2 client 2, aborted 2 1, began 3 client 1", api.ErrState)
	mayNot(t, "crashed client 1, began 1 client 1", api.ErrState)
	mayNot(t, "began 1 client 1, aborted 1 1, crashed client 1, began 2 client 1", api.ErrState)
	mayNot(t, "began 1 client 1, crashed client 1, began 2 client 1", api.ErrState)
}

// pairs are so many transactions of clients in turn, each of which is committed, or aborted, at once.
func pairs(many int) ([]api.Event, []int) {
	var l []api.Event
	var serial []int
	for tx := 1; tx <= many; tx++ {
		l = append(l, api.Event{Kind: began, Client: 1 + tx%8, Tx: tx})
		if tx%3 == 0 {
			l = append(l, api.Event{Kind: aborted, Tx: tx, Code: 1 + tx%5})
			continue
		}
		l = append(l, api.Event{Kind: committed, Tx: tx})
		serial = append(serial, tx)
	}
	return l, serial
}

// The model has no greatest number of a transaction.
func TestBeganOfMany(t *testing.T) {
	l, serial := pairs(1048600)
	if err := model.Check(l); err != nil {
		t.Errorf("Check = %v", err)
	}
	if all, err := model.Serial(l); err != nil || !slices.Equal(all, serial) {
		t.Errorf("Serial = %d, %v", len(all), err)
	}
	for _, tx := range []int{1, 1048576, 1048600, 1048602, 1048601 + 1<<32} {
		if err := model.Check(append(l, api.Event{Kind: began, Client: 1, Tx: tx})); !check.Fault(err, len(l), api.ErrState) {
			t.Errorf("Check = %s", told(err))
		}
	}
}

func TestAsked(t *testing.T) {
	may(t, "began 1 client 1, asked 1 3X")
	may(t, "began 1 client 1, asked 1 3X, refused 1 3 7, asked 1 3X")
	may(t, "began 1 client 1, asked 1 3X, granted 1 3X, asked 1 3X, granted 1 3X, asked 1 4IS")
	may(t, "began 1 client 1, began 2 client 2, asked 1 3X, asked 2 3X")
	may(t, "began 1 client 1, crashed client 1, asked 1 3X")
	may(t, "began 1 client 1, asked 1 3.14IS")
	mayNot(t, "began 1 client 1, asked 2 3X", api.ErrState)
	mayNot(t, "began 1 client 1, asked 1 3X, asked 1 3X", api.ErrState)
	mayNot(t, "began 1 client 1, asked 1 3X, asked 1 4X", api.ErrState)
	mayNot(t, "began 1 client 1, asked 1 3X, granted 1 3X, asked 1 3.1X, asked 1 3.2X", api.ErrState)
	mayNot(t, "began 1 client 1, asked 1 3X, granted 1 3X, finish 1, asked 1 4X", api.ErrState)
	mayNot(t, "began 1 client 1, asked 1 3X, granted 1 3X, finish 1, committed 1, asked 1 4X", api.ErrState)
	mayNot(t, "began 1 client 1, aborted 1 2, asked 1 4X", api.ErrState)
	mayNot(t, "began 1 client 1, committed 1, began 2 client 1, asked 1 4X", api.ErrState)
}

func TestGrantedOfWhatWasAsked(t *testing.T) {
	may(t, "began 1 client 1, began 2 client 2, asked 1 3X, asked 2 3X, granted 2 3X, granted 1 3X")
	may(t, "began 1 client 1, crashed client 1, asked 1 3X, granted 1 3X")
	mayNot(t, "began 1 client 1, granted 1 3X", api.ErrState)
	mayNot(t, "began 1 client 1, asked 1 3X, granted 1 4X", api.ErrState)
	mayNot(t, "began 1 client 1, asked 1 3X, granted 1 3.3X", api.ErrState)
	mayNot(t, "began 1 client 1, asked 1 3X, granted 2 3X", api.ErrState)
	mayNot(t, "began 1 client 1, began 2 client 2, asked 1 3X, granted 2 3X", api.ErrState)
	mayNot(t, "began 1 client 1, asked 1 3X, granted 1 3X, granted 1 3X", api.ErrState)
	mayNot(t, "began 1 client 1, asked 1 3X, refused 1 3 9, granted 1 3X", api.ErrState)
	mayNot(t, "began 1 client 1, asked 1 3X, aborted 1 3, granted 1 3X", api.ErrState)
	mayNot(t, "began 1 client 1, asked 1 3S, granted 1 3S, finish 1, granted 1 3S", api.ErrState)
	mayNot(t, "began 1 client 1, asked 1 3S, granted 1 3S, finish 1, committed 1, granted 1 3S", api.ErrState)
	mayNot(t, "began 1 client 1, asked 1 3X, granted 1 3X, asked 1 3.4X, granted 1 3.5X", api.ErrState)
	mayNot(t, "began 1 client 1, asked 1 3X, granted 1 3X, asked 1 4X, granted 1 3X", api.ErrState)
}

// least are by the document's words the least modes above that which one has (by rows, from None on) and that for which it asks (IS, IX, S, X).
var least = [][]api.Mode{
	{api.IS, api.IX, api.S, api.X},
	{api.IS, api.IX, api.S, api.X},
	{api.IX, api.IX, api.X, api.X},
	{api.S, api.X, api.S, api.X},
	{api.X, api.X, api.X, api.X},
}

// got is a trace in which 1 asked for a lock and was granted it, if it is one.
func got(text string, m api.Mode) string {
	if m == api.None {
		return ""
	}
	lock := text + check.Mode(m)
	return ", asked 1 " + lock + ", granted 1 " + lock
}

func TestGrantedModesOfTables(t *testing.T) {
	for has := api.None; has <= api.X; has++ {
		for _, ask := range check.Modes() {
			first := "began 1 client 1" + got("3", has) + ", asked 1 3" + check.Mode(ask)
			for _, m := range check.Modes() {
				text := first + ", granted 1 3" + check.Mode(m)
				if m == least[has][ask-1] {
					may(t, text)
				} else {
					mayNot(t, text, api.ErrState)
				}
			}
		}
	}
}

// What one has is what it was told last, of that resource, and of it alone.
func TestGrantedModesBehindOthers(t *testing.T) {
	may(t, "began 1 client 1, asked 1 3IS, granted 1 3IS, asked 1 3S, granted 1 3S, asked 1 3IX, granted 1 3X, asked 1 3IS, granted 1 3X")
	mayNot(t, "began 1 client 1, asked 1 3IS, granted 1 3IS, asked 1 3S, granted 1 3S, asked 1 3IX, granted 1 3IX", api.ErrState)
	mayNot(t, "began 1 client 1, asked 1 3S, granted 1 3S, asked 1 3IX, granted 1 3X, asked 1 3IX, granted 1 3IX", api.ErrState)
	may(t, "began 1 client 1, asked 1 3S, granted 1 3S, asked 1 4IX, granted 1 4IX")
	mayNot(t, "began 1 client 1, asked 1 3S, granted 1 3S, asked 1 4IX, granted 1 4X", api.ErrState)
	may(t, "began 1 client 1, asked 1 3S, granted 1 3S, asked 1 3IX, refused 1 3 6, asked 1 3IS, granted 1 3S")
	mayNot(t, "began 1 client 1, asked 1 3S, granted 1 3S, asked 1 3IX, refused 1 3 6, asked 1 3IS, granted 1 3X", api.ErrState)
	may(t, "began 1 client 1, began 2 client 2, asked 1 3S, granted 1 3S, asked 2 3IX, granted 2 3IX")
	mayNot(t, "began 1 client 1, began 2 client 2, asked 1 3S, granted 1 3S, asked 2 3IX, granted 2 3X", api.ErrState)
	may(t, "began 1 client 1, asked 1 3S, granted 1 3S, finish 1, committed 1, began 2 client 1, asked 2 3IX, granted 2 3IX", 1)
	may(t, "began 1 client 1, asked 1 3S, granted 1 3S, aborted 1 3, began 2 client 1, asked 2 3IX, granted 2 3IX")
}

// Of a row, what it has and what it asks for may be S and X alone; its table must be had as what it asks for needs.
func TestGrantedModesOfRows(t *testing.T) {
	for table := api.None; table <= api.X; table++ {
		for has := api.None; has <= api.X; has++ {
			if !mode.Covers(table, []api.Mode{api.None, api.X + 1, api.X + 1, api.IS, api.IX}[has]) {
				continue // nobody has that row so with that table
			}
			for _, ask := range check.Modes() {
				first := "began 1 client 1" + got("3", table) + got("3.14", has) + ", asked 1 3.14" + check.Mode(ask)
				fits := ask == api.S && table >= api.IS || ask == api.X && (table == api.IX || table == api.X)
				for _, m := range check.Modes() {
					text := first + ", granted 1 3.14" + check.Mode(m)
					if fits && m == max(has, ask) {
						may(t, text)
					} else {
						mayNot(t, text, api.ErrState)
					}
				}
				may(t, first+", refused 1 3.14 12")
			}
		}
	}
}

func TestGrantedOfRowsByTheirTables(t *testing.T) {
	may(t, "began 1 client 1, asked 1 3IX, granted 1 3IX, asked 1 3.250X, granted 1 3.250X")
	mayNot(t, "began 1 client 1, asked 1 3IX, granted 1 3IX, asked 1 4.3X, granted 1 4.3X", api.ErrState)
	mayNot(t, "began 1 client 1, asked 1 3IX, refused 1 3 6, asked 1 3.4X, granted 1 3.4X", api.ErrState)
	mayNot(t, "began 1 client 1, began 2 client 2, asked 2 3IX, granted 2 3IX, asked 1 3.4X, granted 1 3.4X", api.ErrState)
	mayNot(t, "began 1 client 1, asked 1 3IS, granted 1 3IS, asked 1 3.4S, granted 1 3.4S, asked 1 3.4X, granted 1 3.4X", api.ErrState)
	mayNot(t, "began 1 client 1, asked 1 3IS, granted 1 3IS, asked 1 3.4S, granted 1 3.4S, asked 1 3.4X, granted 1 3.4S", api.ErrState)
	may(t, "began 1 client 1, asked 1 3IS, granted 1 3IS, asked 1 3.4S, granted 1 3.4S, asked 1 3IX, granted 1 3IX, asked 1 3.4X, granted 1 3.4X")
	mayNot(t, "began 1 client 1, asked 1 3X, granted 1 3X, finish 1, committed 1, began 2 client 1, asked 2 3.4X, granted 2 3.4X", api.ErrState)
}

func TestRefused(t *testing.T) {
	may(t, "began 1 client 1, asked 1 3X, refused 1 3 1")
	may(t, "began 1 client 1, asked 1 3.14X, refused 1 3.14 15, asked 1 3.14X, refused 1 3.14 9")
	may(t, "began 1 client 1, crashed client 1, asked 1 3X, refused 1 3 8")
	mayNot(t, "began 1 client 1, refused 1 3 9", api.ErrState)
	mayNot(t, "began 1 client 1, asked 1 3X, refused 1 4 9", api.ErrState)
	mayNot(t, "began 1 client 1, asked 1 3X, refused 1 3.3 9", api.ErrState)
	mayNot(t, "began 1 client 1, asked 1 3.3X, refused 1 3 9", api.ErrState)
	mayNot(t, "began 1 client 1, asked 1 3X, refused 2 3 9", api.ErrState)
	mayNot(t, "began 1 client 1, began 2 client 2, asked 1 3X, refused 2 3 9", api.ErrState)
	mayNot(t, "began 1 client 1, asked 1 3X, refused 1 3 9, refused 1 3 9", api.ErrState)
	mayNot(t, "began 1 client 1, asked 1 3X, granted 1 3X, refused 1 3 9", api.ErrState)
	mayNot(t, "began 1 client 1, asked 1 3X, granted 1 3X, finish 1, refused 1 3 9", api.ErrState)
	mayNot(t, "began 1 client 1, asked 1 3X, aborted 1 1, refused 1 3 9", api.ErrState)
}

func TestFinish(t *testing.T) {
	may(t, "began 1 client 1, asked 1 3X, granted 1 3X, finish 1")
	may(t, "began 1 client 1, asked 1 3X, refused 1 3 9, finish 1")
	may(t, "began 1 client 1, asked 1 3X, refused 1 3 9, crashed client 1, finish 1")
	mayNot(t, "began 1 client 1, finish 1", api.ErrState)
	mayNot(t, "began 1 client 1, asked 1 3X, finish 1", api.ErrState)
	mayNot(t, "began 1 client 1, asked 1 3X, granted 1 3X, asked 1 4X, finish 1", api.ErrState)
	mayNot(t, "began 1 client 1, asked 1 3X, granted 1 3X, finish 1, finish 1", api.ErrState)
	mayNot(t, "began 1 client 1, asked 1 3X, granted 1 3X, finish 1, committed 1, finish 1", api.ErrState)
	mayNot(t, "began 1 client 1, asked 1 3X, refused 1 3 9, aborted 1 1, finish 1", api.ErrState)
	mayNot(t, "began 1 client 1, began 2 client 2, asked 1 3X, granted 1 3X, finish 2", api.ErrState)
	mayNot(t, "began 1 client 1, asked 1 3X, granted 1 3X, finish 2", api.ErrState)
}

func TestCommitted(t *testing.T) {
	may(t, "began 1 client 1, committed 1", 1)
	may(t, "began 1 client 1, crashed client 1, committed 1", 1)
	may(t, "began 1 client 1, asked 1 3X, refused 1 3 9, finish 1, committed 1", 1)
	may(t, "began 1 client 1, asked 1 3X, granted 1 3X, asked 1 3.4X, granted 1 3.4X, finish 1, crashed client 1, committed 1", 1)
	mayNot(t, "began 1 client 1, committed 2", api.ErrState)
	mayNot(t, "began 1 client 1, asked 1 3X, committed 1", api.ErrState)
	mayNot(t, "began 1 client 1, asked 1 3X, granted 1 3X, committed 1", api.ErrState)
	mayNot(t, "began 1 client 1, asked 1 3X, refused 1 3 9, committed 1", api.ErrState)
	mayNot(t, "began 1 client 1, committed 1, committed 1", api.ErrState)
	mayNot(t, "began 1 client 1, asked 1 3X, granted 1 3X, finish 1, committed 1, committed 1", api.ErrState)
	mayNot(t, "began 1 client 1, aborted 1 1, committed 1", api.ErrState)
	mayNot(t, "began 1 client 1, asked 1 3X, granted 1 3X, finish 1, aborted 1 2, committed 1", api.ErrState)
}

func TestAborted(t *testing.T) {
	for reason := 1; reason <= 5; reason++ {
		last := ", aborted 1 " + strconv.Itoa(reason)
		for _, text := range []string{"", ", asked 1 3X", ", asked 1 3X, refused 1 3 9", ", asked 1 3X, granted 1 3X", ", asked 1 3X, granted 1 3X, finish 1", ", crashed client 1"} {
			may(t, "began 1 client 1"+text+last)
			mayNot(t, "began 1 client 1"+text+last+last, api.ErrState)
		}
		mayNot(t, "began 1 client 1, committed 1"+last, api.ErrState)
		mayNot(t, "began 1 client 1, asked 1 3X, granted 1 3X, finish 1, committed 1"+last, api.ErrState)
	}
	mayNot(t, "began 1 client 1, aborted 2 1", api.ErrState)
	mayNot(t, "began 1 client 1, began 2 client 2, aborted 1 1, aborted 2 1, aborted 1 1", api.ErrState)
}

func TestCrashed(t *testing.T) {
	may(t, "crashed client 1, crashed client 2, crashed client 3, crashed client 4, crashed client 5, crashed client 6, crashed client 7, crashed client 8")
	may(t, "began 1 client 1, aborted 1 1, crashed client 1")
	may(t, "began 1 client 1, crashed client 1, aborted 1 5")
	mayNot(t, "crashed client 8, crashed client 8", api.ErrState)
	mayNot(t, "crashed client 1, crashed client 2, crashed client 1", api.ErrState)
	mayNot(t, "began 1 client 1, crashed client 1, aborted 1 5, crashed client 1", api.ErrState)
}

// P20.2

func TestSerial(t *testing.T) {
	may(t, "began 1 client 1")
	may(t, "began 1 client 1, began 2 client 2, began 3 client 3, committed 2, aborted 1 1, committed 3, began 4 client 1, committed 4", 2, 3, 4)
	may(t, "began 1 client 1, began 2 client 2, began 3 client 3, committed 3, committed 1, committed 2", 3, 1, 2)
	may(t, "began 1 client 1, began 2 client 2, asked 1 3X, granted 1 3X, finish 1, asked 2 4X, granted 2 4X, finish 2, committed 2, committed 1", 2, 1)
	mayNot(t, "began 1 client 1, committed 1, committed 2", api.ErrState)
}

// Of several events that may not come the first one is told, whatever is wrong with the others.
func TestFirstOfSeveralThatMayNotCome(t *testing.T) {
	first := trace("began 1 client 1, began 2 client 2, asked 1 3X, granted 1 3X, asked 2 3X, granted 2 3X, finish 1, finish 2, committed 1")
	more := append(slices.Clone(first), trace("began 3 client 1, asked 3 3S")...)
	lasts := []struct {
		e   api.Event
		how api.Errno
	}{
		{api.Event{Kind: committed, Tx: 2}, api.ErrBusy},
		{api.Event{Kind: committed, Tx: 2, Code: 1}, api.ErrForm},
		{api.Event{Kind: committed, Tx: 1}, api.ErrState},
		{api.Event{Kind: committed}, api.ErrForm},
		{api.Event{Kind: aborted, Tx: 9, Code: 1}, api.ErrState},
		{api.Event{}, api.ErrForm},
	}
	for _, one := range lasts {
		breaks(t, append(slices.Clone(first), one.e), len(first), one.how)
		for _, other := range lasts {
			breaks(t, append(slices.Clone(first), one.e, other.e), len(first), one.how)
			breaks(t, append(slices.Clone(first), one.e, api.Event{Kind: aborted, Tx: 2, Code: 3}, other.e), len(first), one.how)
			breaks(t, append(slices.Clone(more), one.e, other.e), len(more), one.how)
		}
	}
}

// spoiled is an event that no list has.
var spoiled = api.Event{Kind: -1, Client: -1, Tx: -1, Code: -1}

func TestNothingIsChangedAndNothingIsKept(t *testing.T) {
	full, all := pairs(20)
	for size := range len(full) + 1 {
		room := append(slices.Clone(full), spoiled)
		was := slices.Clone(room)
		model.Check(room[:size])
		one, err := model.Serial(room[:size])
		other, also := model.Serial(room[:size])
		model.Check(room)
		model.Serial(room)
		if err != nil || also != nil || !slices.Equal(room, was) {
			t.Errorf("%v, %v; it changed what it was given: %s", err, also, check.Traced(room))
		}
		check.Spoil(room, spoiled)
		check.Spoil(other, -1)
		_ = append(other, -1)
		if !slices.Equal(one, all[:len(one)]) {
			t.Errorf("two answers of Serial are one: %v", one)
		}
		if again, err := model.Serial(was[:size]); err != nil || !slices.Equal(again, one) {
			t.Errorf("Serial = %v, %v, and %v", one, err, again)
		}
	}
}
