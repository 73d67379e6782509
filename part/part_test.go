package part_test

import (
	"math"
	"slices"
	"strings"
	"testing"

	"catchbolt/api"
	"catchbolt/check"
	"catchbolt/msg"
	"catchbolt/part"
)

// The states' and the events' names; a state's number is its place here, an event's is 1 more.
var (
	states = []string{"Fresh", "Active", "Prepared", "Expired", "Committed", "Aborted"}
	events = []string{"Lock", "Prepare", "Commit", "Abort", "Renew", "Expire"}
)

// table is the document's: of each state what each event tells.
const table = `
| Fresh | Active | Fresh, KVote 0 | Committed, KAck | Aborted, KAck | Fresh | ErrState |
| Active | Active | Prepared, KVote 1 | Committed, KAck | Aborted, KAck | Active | Expired, KExpired |
| Prepared | ErrState | Prepared, KVote 1 | Committed, KAck | Aborted, KAck | Prepared | ErrState |
| Expired | Expired, KExpired | Expired, KVote 0 | Committed, KAck | Aborted, KAck | Expired, KExpired | Expired, KExpired |
| Committed | ErrDone | ErrDone | Committed, KAck | Committed, KAck | ErrDone | ErrDone |
| Aborted | ErrDone | ErrDone | Aborted, KAck | Aborted, KAck | ErrDone | ErrDone |
`

// asked is a state, and an event.
type asked struct{ state, event int }

// told is what Next answers; OK is no error.
type told struct {
	next   int
	answer part.Answer
	err    api.Errno
}

// cell is what a place of the table says of a state.
func cell(t *testing.T, state int, text string) told {
	t.Helper()
	next, answer, _ := strings.Cut(text, ", ")
	switch next {
	case "ErrState":
		return told{next: state, err: api.ErrState}
	case "ErrDone":
		return told{next: state, err: api.ErrDone}
	}
	answers := map[string]part.Answer{
		"":         {},
		"KVote 0":  {Kind: api.KVote, Code: 0},
		"KVote 1":  {Kind: api.KVote, Code: 1},
		"KAck":     {Kind: api.KAck},
		"KExpired": {Kind: api.KExpired},
	}
	a, is := answers[answer]
	if !is || !slices.Contains(states, next) {
		t.Fatalf("the table says %q", text)
	}
	return told{next: slices.Index(states, next), answer: a}
}

// whole is the table, by what is asked.
func whole(t *testing.T) map[asked]told {
	t.Helper()
	all := map[asked]told{}
	for state, row := range strings.Split(strings.TrimSpace(table), "\n") {
		cells := strings.Split(strings.Trim(row, "| "), " | ")
		if cells[0] != states[state] || len(cells) != 1+len(events) {
			t.Fatalf("the table says %q of %s", row, states[state])
		}
		for i, text := range cells[1:] {
			all[asked{state, i + 1}] = cell(t, state, text)
		}
	}
	if len(all) != 36 {
		t.Fatalf("the table says %d things", len(all))
	}
	return all
}

// beyond are numbers that aren't from low to high: all near ones, those that are near if they are cut to fewer bits, and those at the edges of int.
func beyond(low, high int) []int {
	var all []int
	for n := -300; n <= 300; n++ {
		all = append(all, n)
	}
	for bit := 9; bit <= 62; bit++ {
		for near := -1; near <= 7; near++ {
			all = append(all, 1<<bit+near, -1<<bit+near)
		}
	}
	for near := range 8 {
		all = append(all, math.MinInt+near, math.MaxInt-near)
	}
	return slices.DeleteFunc(all, func(n int) bool { return n >= low && n <= high })
}

// noStates and noEvents are numbers that are none of these.
func noStates() []int { return beyond(0, 5) }
func noEvents() []int { return beyond(1, 6) }

// tells checks what Next answers.
func tells(t *testing.T, q asked, want told) {
	t.Helper()
	next, answer, err := part.Next(q.state, q.event)
	right := err == nil
	if want.err != api.OK {
		right = check.Plain(err, want.err)
	}
	if next != want.next || answer != want.answer || !right {
		t.Errorf("Next(%d, %d) = %d, %+v, %v, want %+v", q.state, q.event, next, answer, err, want)
	}
}

// isNone checks what Next answers where the state, the event, or both are none.
func isNone(t *testing.T, state, event int) {
	t.Helper()
	tells(t, asked{state, event}, told{err: api.ErrArg})
}

// P14.1

func TestNumbersOfStates(t *testing.T) {
	all := []int{part.Fresh, part.Active, part.Prepared, part.Expired, part.Committed, part.Aborted}
	if !slices.Equal(all, []int{0, 1, 2, 3, 4, 5}) {
		t.Errorf("the states are %v", all)
	}
}

func TestNumbersOfEvents(t *testing.T) {
	all := []int{part.Lock, part.Prepare, part.Commit, part.Abort, part.Renew, part.Expire}
	if !slices.Equal(all, []int{1, 2, 3, 4, 5, 6}) {
		t.Errorf("the events are %v", all)
	}
}

func TestNextOfEachStateAndEvent(t *testing.T) {
	for q, want := range whole(t) {
		tells(t, q, want)
	}
}

func TestNextAsTheExamplesHaveIt(t *testing.T) {
	tells(t, asked{part.Active, part.Prepare}, told{next: part.Prepared, answer: part.Answer{Kind: 5, Code: 1}})
	tells(t, asked{part.Prepared, part.Expire}, told{next: part.Prepared, err: api.ErrState})
}

func TestNextBesideAnErrorIsTheStateItself(t *testing.T) {
	for _, q := range []struct {
		state, event int
		want         api.Errno
	}{
		{0, 6, api.ErrState}, {2, 1, api.ErrState}, {2, 6, api.ErrState},
		{4, 1, api.ErrDone}, {4, 2, api.ErrDone}, {4, 5, api.ErrDone}, {4, 6, api.ErrDone},
		{5, 1, api.ErrDone}, {5, 2, api.ErrDone}, {5, 5, api.ErrDone}, {5, 6, api.ErrDone},
	} {
		tells(t, asked{q.state, q.event}, told{next: q.state, err: q.want})
	}
}

func TestNextOfAStateThatIsNone(t *testing.T) {
	for _, state := range noStates() {
		for event := 1; event <= 6; event++ {
			isNone(t, state, event)
		}
	}
}

func TestNextOfAnEventThatIsNone(t *testing.T) {
	for state := 0; state <= 5; state++ {
		for _, event := range noEvents() {
			isNone(t, state, event)
		}
	}
}

func TestNextOfBothThatAreNone(t *testing.T) {
	edges := []int{math.MinInt, -1, 7, math.MaxInt}
	for _, edge := range append(edges, 6) {
		for _, event := range noEvents() {
			isNone(t, edge, event)
		}
	}
	for _, edge := range append(edges, 0) {
		for _, state := range noStates() {
			isNone(t, state, edge)
		}
	}
	for _, both := range noStates() {
		isNone(t, both, both)
	}
}

func TestNextHangsOnItsArgumentsAlone(t *testing.T) {
	all := whole(t)
	for _, wrong := range []asked{{-1, 1}, {6, 1}, {0, 0}, {4, 0}, {0, 7}, {4, 7}, {-1, 0}, {6, 7}} {
		all[wrong] = told{err: api.ErrArg}
	}
	for first := range all {
		for then, want := range all {
			part.Next(first.state, first.event)
			tells(t, then, want)
		}
	}
}

func TestEachAnswerMayBeSent(t *testing.T) {
	for q := range whole(t) {
		_, answer, _ := part.Next(q.state, q.event)
		m := api.Msg{Kind: answer.Kind, From: 2, Tx: 7, Code: answer.Code}
		if answer != (part.Answer{}) && msg.Ok(m) != nil {
			t.Errorf("Next(%d, %d) answers %+v", q.state, q.event, answer)
		}
	}
}

func TestDecidedOfEachState(t *testing.T) {
	for state, name := range states {
		if want := name == "Committed" || name == "Aborted"; part.Decided(state) != want {
			t.Errorf("Decided(%d) = %t", state, !want)
		}
	}
}

func TestDecidedOfAStateThatIsNone(t *testing.T) {
	for _, state := range noStates() {
		if part.Decided(state) {
			t.Errorf("Decided(%d)", state)
		}
	}
}
