package model_test

import (
	"strings"
	"testing"

	"catchbolt/api"
	"catchbolt/check"
	"catchbolt/model"
)

// P20.1: ErrBusy.

// clashes checks that a trace may be, and that the last event of it is the commit of one that clashes, if it does; it may be aborted then.
func clashes(t *testing.T, text string, does bool, serial ...int) {
	t.Helper()
	if !does {
		may(t, text, serial...)
		return
	}
	mayNot(t, text, api.ErrBusy)
	l := trace(text)
	last := len(l) - 1
	ended := append(l[:last:last], api.Event{Kind: aborted, Tx: l[last].Tx, Code: 3})
	holds(t, ended, serial[:len(serial)-1]...)
	breaks(t, append(ended, l[last]), len(ended), api.ErrState)
}

// Two began: of these and their locks the traces below are made.
const two = "began 1 client 1, began 2 client 2"

// gets is a trace in which one asks for a lock, and is granted it.
func gets(who, lock string) string {
	return ", asked " + who + " " + lock + ", granted " + who + " " + lock
}

// commits is a trace in which one finishes, and is committed.
func commits(who string) string { return ", finish " + who + ", committed " + who }

// together are the pairs of modes that go together, by the document's words.
const together = "IS+IS IS+IX IS+S IX+IS IX+IX S+IS S+S"

func TestClashesOfAnyTwoModes(t *testing.T) {
	for _, m := range check.Modes() {
		for _, n := range check.Modes() {
			one, other := check.Mode(m), check.Mode(n)
			does := true
			for _, pair := range strings.Fields(together) {
				does = does && pair != one+"+"+other
			}
			clashes(t, two+gets("1", "3"+one)+gets("2", "3"+other)+commits("1")+commits("2"), does, 1, 2)
			clashes(t, two+gets("2", "3"+other)+gets("1", "3"+one)+commits("1")+commits("2"), does, 1, 2)
			clashes(t, two+gets("1", "3"+one)+gets("2", "3"+other)+commits("2")+commits("1"), does, 2, 1)
			clashes(t, two+gets("1", "3"+one)+gets("2", "3"+other)+", finish 2, finish 1, committed 2, committed 1", does, 2, 1)
			may(t, two+gets("1", "3"+one)+commits("1")+gets("2", "3"+other)+commits("2"), 1, 2)
			may(t, two+gets("1", "3"+one)+", finish 1, asked 2 3"+other+", committed 1, granted 2 3"+other+commits("2"), 1, 2)
			may(t, two+gets("1", "3"+one)+gets("2", "4"+other)+commits("1")+commits("2"), 1, 2)
			may(t, two+gets("1", "3"+one)+gets("2", "3"+other)+", aborted 1 3"+commits("2"), 2)
			may(t, two+gets("1", "3"+one)+gets("2", "3"+other)+", finish 1, aborted 1 2"+commits("2"), 2)
			clashes(t, two+gets("1", "3"+one)+gets("2", "3"+other)+", crashed client 1"+commits("1")+", crashed client 2"+commits("2"), does, 1, 2)
		}
	}
}

func TestClashesOfRows(t *testing.T) {
	one, other := gets("1", "3IX")+gets("1", "3.14X"), gets("2", "3IX")+gets("2", "3.14X")
	clashes(t, two+one+other+commits("1")+commits("2"), true, 1, 2)
	clashes(t, two+one+gets("2", "3IX")+commits("1")+gets("2", "3.14X")+commits("2"), false, 1, 2)
	clashes(t, two+one+gets("2", "3IX")+gets("2", "3.15X")+commits("1")+commits("2"), false, 1, 2)
	clashes(t, two+one+gets("2", "4IX")+gets("2", "4.14X")+commits("1")+commits("2"), false, 1, 2)
	clashes(t, two+one+gets("2", "3IS")+gets("2", "3.14S")+commits("2")+commits("1"), true, 2, 1)
	clashes(t, two+gets("1", "3IS")+gets("1", "3.14S")+gets("2", "3IS")+gets("2", "3.14S")+commits("2")+commits("1"), false, 2, 1)
	clashes(t, two+gets("1", "3X")+gets("1", "3.14X")+gets("2", "3IX")+commits("2")+commits("1"), true, 2, 1)
	clashes(t, two+one+gets("2", "14X")+commits("2")+commits("1"), false, 2, 1)
}

// Of locks that a transaction got behind the other one's commit none clashes; of all that it got ahead each may.
func TestClashesByWhenOneGotWhat(t *testing.T) {
	clashes(t, two+gets("1", "3S")+gets("2", "3S")+commits("1")+gets("2", "3X")+commits("2"), false, 1, 2)
	clashes(t, two+gets("1", "3S")+gets("2", "3S")+gets("2", "3X")+commits("1")+commits("2"), true, 1, 2)
	clashes(t, two+gets("1", "3S")+gets("2", "3X")+commits("1")+", asked 2 3S, granted 2 3X"+commits("2"), true, 1, 2)
	clashes(t, two+gets("1", "3X")+gets("2", "3IS")+commits("1")+gets("2", "3IX")+gets("2", "4X")+commits("2"), true, 1, 2)
	clashes(t, two+gets("1", "3IX")+gets("2", "3IS")+commits("1")+gets("2", "3S")+commits("2"), false, 1, 2)
	clashes(t, two+gets("1", "3IS")+gets("1", "3X")+gets("2", "3IS")+commits("1")+commits("2"), true, 1, 2)
	clashes(t, two+gets("1", "3IS")+gets("1", "4X")+gets("2", "3IS")+gets("2", "5X")+commits("1")+commits("2"), false, 1, 2)
	clashes(t, two+gets("2", "3X")+gets("1", "4S")+gets("1", "3S")+gets("2", "4S")+commits("1")+commits("2"), true, 1, 2)
	clashes(t, two+", asked 1 3X, asked 2 3X, granted 1 3X, refused 2 3 7"+commits("1")+commits("2"), false, 1, 2)
	clashes(t, two+", asked 1 3X, asked 2 3X, granted 2 3X, refused 1 3 7"+commits("1")+commits("2"), false, 1, 2)
}

func TestClashesWithOneOfSeveral(t *testing.T) {
	three := two + ", began 3 client 3"
	clashes(t, three+gets("3", "3S")+gets("1", "3X")+commits("1")+gets("2", "3S")+commits("2")+commits("3"), true, 1, 2, 3)
	clashes(t, three+gets("1", "3X")+commits("1")+gets("3", "3S")+gets("2", "3S")+commits("2")+commits("3"), false, 1, 2, 3)
	clashes(t, three+gets("1", "3S")+commits("1")+gets("3", "3S")+gets("2", "3X")+commits("2")+commits("3"), true, 1, 2, 3)
	clashes(t, three+gets("1", "3X")+gets("3", "3S")+gets("2", "3S")+commits("2")+", aborted 1 3"+commits("3"), false, 2, 3)
	clashes(t, three+gets("1", "3X")+commits("1")+gets("2", "4X")+gets("3", "3X")+commits("2")+commits("3"), false, 1, 2, 3)
	clashes(t, two+gets("1", "3X")+gets("2", "3X")+commits("2")+", began 3 client 2"+gets("3", "4X")+commits("3")+commits("1"), true, 2, 3, 1)
	clashes(t, two+gets("1", "3X")+gets("2", "3X")+", aborted 2 3, began 3 client 2"+gets("3", "3X")+commits("1")+commits("3"), true, 1, 3)
	clashes(t, two+gets("1", "3X")+gets("2", "3X")+", aborted 2 3"+commits("1")+", began 3 client 2"+gets("3", "3X")+commits("3"), false, 1, 3)
}

// An event that may not come for another reason, too, is told by that.
func TestClashesBesideOtherFaults(t *testing.T) {
	text := two + gets("1", "3X") + gets("2", "3X") + commits("1")
	mayNot(t, text+", committed 2", api.ErrState)
	mayNot(t, text+", finish 2, committed 2", api.ErrBusy)
	mayNot(t, text+", finish 2, aborted 2 3, committed 2", api.ErrState)
	mayNot(t, text+", asked 2 4X, committed 2", api.ErrState)
	mayNot(t, text+", asked 2 4X, refused 2 4 9, committed 2", api.ErrState)
	may(t, text+gets("2", "4X")+", finish 2, aborted 2 5", 1)
	l := trace(text + ", finish 2, committed 2")
	for _, f := range fields {
		if !strings.Contains(f.letters, table[committed]) {
			breaks(t, append(l[:len(l)-1:len(l)-1], with(l[len(l)-1], f, 1)), len(l)-1, api.ErrForm)
		}
	}
}

// rounds is a trace in which one transaction gets a lock again and again, between others that get it, and are committed.
func rounds(many int, lock string) []api.Event {
	l := trace("began 1 client 1")
	again, other := trace(gets("1", lock)), trace(", began 2 client 2"+gets("2", lock)+commits("2"))
	for tx := 2; tx < 2+many; tx++ {
		l = append(l, again...)
		for _, e := range other {
			e.Tx = tx
			l = append(l, e)
		}
	}
	return append(l, trace(commits("1"))...)
}

func TestClashesOfManyThatEndSoon(t *testing.T) {
	l := rounds(100000, "3S")
	if err := model.Check(l); err != nil {
		t.Errorf("Check = %v", err)
	}
	l = rounds(100000, "3X")
	if err := model.Check(l); !check.Fault(err, len(l)-1, api.ErrBusy) {
		t.Errorf("Check = %s", told(err))
	}
}
