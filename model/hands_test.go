package model_test

import (
	"errors"
	"slices"
	"strconv"
	"strings"
	"testing"

	"catchbolt/api"
	"catchbolt/check"
	"catchbolt/model"
)

// The kinds of events, by the document's numbers.
const (
	began = iota + 1
	asked
	granted
	refused
	finish
	committed
	aborted
	crashed
)

// number is the one that a text is.
func number(text string) int {
	n, err := strconv.Atoi(text)
	if err != nil {
		panic(err)
	}
	return n
}

// trace are the events of a text, as package check tells them: "began 1 client 2, asked 1 3.14X, refused 1 3.14 9". A text that is to stand behind others begins with a comma.
func trace(text string) []api.Event {
	text = strings.TrimPrefix(text, ", ")
	var l []api.Event
	for part := range strings.SplitSeq(text, ", ") {
		if part != "" {
			l = append(l, event(strings.Fields(part)))
		}
	}
	if check.Traced(l) != text {
		panic(text)
	}
	return l
}

// event is the one of its words.
func event(words []string) api.Event {
	names := []string{began: "began", asked: "asked", granted: "granted", refused: "refused", finish: "finish", committed: "committed", aborted: "aborted", crashed: "crashed"}
	e := api.Event{Kind: slices.Index(names, words[0])}
	if e.Kind != crashed {
		e.Tx = number(words[1])
	}
	last := words[len(words)-1]
	switch e.Kind {
	case began, crashed:
		e.Client = number(last)
	case asked, granted:
		at := strings.TrimRight(last, "ISX")
		modes := []string{"", "IS", "IX", "S", "X"}
		e.At, e.Mode = check.At(at), api.Mode(slices.Index(modes, last[len(at):]))
	case refused:
		e.At = check.At(words[2])
		fallthrough
	case aborted:
		e.Code = number(last)
	}
	return e
}

// told is the text of what Check tells.
func told(err error) string {
	if err == nil {
		return "nil"
	}
	return err.Error()
}

// holds checks that a trace may be, and which transactions of it are committed.
func holds(t *testing.T, l []api.Event, serial ...int) {
	t.Helper()
	if err := model.Check(l); err != nil {
		t.Errorf("Check(%s) = %v", check.Traced(l), err)
	}
	if all, err := model.Serial(l); err != nil || !slices.Equal(all, serial) {
		t.Errorf("Serial(%s) = %v, %v, not %v", check.Traced(l), all, err, serial)
	}
}

// breaks checks that a trace may not be, as the event at that place is the first one that may not come, and why.
func breaks(t *testing.T, l []api.Event, at int, want api.Errno) {
	t.Helper()
	err := model.Check(l)
	if !check.Fault(err, at, want) {
		t.Errorf("Check(%s) = %s, not a fault at %d, %v", check.Traced(l), told(err), at, want)
	}
	all, also := model.Serial(l)
	if len(all) != 0 || !check.Fault(also, at, want) {
		t.Errorf("Serial(%s) = %v, %s, not a fault at %d, %v", check.Traced(l), all, told(also), at, want)
	}
	var f *api.Fault
	if errors.As(err, &f) && f.Err != error(want) {
		t.Errorf("Check(%s): behind the fault is %v", check.Traced(l), f.Err)
	}
}

// may checks that the trace of a text may be, and which transactions of it are committed.
func may(t *testing.T, text string, serial ...int) {
	t.Helper()
	holds(t, trace(text), serial...)
}

// mayNot checks that the last event of a text may not come next, whatever is behind it, and all ahead of it may.
func mayNot(t *testing.T, text string, want api.Errno) {
	t.Helper()
	l := trace(text)
	last := len(l) - 1
	if err := model.Check(l[:last]); err != nil {
		t.Errorf("Check(%s) = %v", check.Traced(l[:last]), err)
	}
	breaks(t, l, last, want)
	for _, e := range behind() {
		breaks(t, append(slices.Clone(l), e), last, want)
		breaks(t, append(slices.Clone(l), e, l[last], e), last, want)
	}
}

// behind are events that stand behind one that may not come: of each kind one, and some that may never be.
func behind() []api.Event {
	return append(ones(), api.Event{}, api.Event{Kind: 9}, api.Event{Kind: crashed, Client: 9}, api.Event{Kind: -1, Tx: -1})
}

// ones are events whose forms may be, of each kind one.
func ones() []api.Event {
	return trace("began 7 client 5, asked 7 3.14X, granted 7 3.14S, refused 7 3.14 9, finish 7, committed 7, aborted 7 3, crashed client 5")
}
