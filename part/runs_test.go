package part_test

import (
	"testing"

	"catchbolt/part"
)

// length is how many events the longest runs have that are gone through.
const length = 9

// past is what a run of events has brought: the state that it is at, whether it ever was expired, and the state as which it was decided first, or Fresh, which isn't decided.
type past struct {
	state, decided int
	expired        bool
}

// at is a past, and that the state is this one then.
func (p past) at(state int) past {
	p.state = state
	switch state {
	case part.Expired:
		p.expired = true
	case part.Committed, part.Aborted:
		if p.decided == part.Fresh {
			p.decided = state
		}
	}
	return p
}

// decides says whether a state is what an event decides.
func decides(event, state int) bool {
	return event == part.Commit && state == part.Committed || event == part.Abort && state == part.Aborted
}

// broken is what of P14.2 is broken, if an event brings a past to a state; nothing, if it holds.
func (p past) broken(event, state int) string {
	switch {
	case p.decided != part.Fresh && state != p.decided:
		return "what is decided stays so"
	case p.state == part.Prepared && state != part.Prepared && !decides(event, state):
		return "what is prepared is left by a decision alone"
	case p.expired && (state == part.Active || state == part.Prepared):
		return "what expired is never active or prepared again"
	}
	return ""
}

// onward is the past that an event brings, if P14.2 holds, behind that run.
func (p past) onward(t *testing.T, run []int, event int) past {
	state, _, _ := part.Next(p.state, event)
	if broken := p.broken(event, state); broken != "" {
		t.Fatalf("%s: by %v and %d from %d to %d", broken, run, event, p.state, state)
	}
	return p.at(state)
}

// runs goes through all runs that are so many events longer than that one, and is how many there are.
func (p past) runs(t *testing.T, run []int, more int) int {
	if more == 0 {
		return 1
	}
	all := 0
	for event := part.Lock; event <= part.Expire; event++ {
		all += p.onward(t, run, event).runs(t, append(run, event), more-1)
	}
	return all
}

// pasts are all that runs from a state bring, however long they are.
func pasts(t *testing.T, from int) map[past]bool {
	seen := map[past]bool{}
	next := []past{past{}.at(from)}
	for len(next) > 0 {
		p := next[0]
		next = next[1:]
		if seen[p] {
			continue
		}
		seen[p] = true
		for event := part.Lock; event <= part.Expire; event++ {
			next = append(next, p.onward(t, nil, event))
		}
	}
	return seen
}

// P14.2

func TestBrokenFindsWhatIsBroken(t *testing.T) {
	fresh := past{}
	for i, q := range []struct {
		p            past
		event, state int
		holds        bool
	}{
		{fresh.at(part.Committed), part.Commit, part.Committed, true},
		{fresh.at(part.Committed), part.Abort, part.Aborted, false},
		{fresh.at(part.Aborted), part.Renew, part.Fresh, false},
		{fresh.at(part.Aborted).at(part.Committed), part.Commit, part.Committed, false},
		{fresh.at(part.Prepared), part.Renew, part.Prepared, true},
		{fresh.at(part.Prepared), part.Commit, part.Committed, true},
		{fresh.at(part.Prepared), part.Abort, part.Aborted, true},
		{fresh.at(part.Prepared), part.Abort, part.Committed, false},
		{fresh.at(part.Prepared), part.Lock, part.Active, false},
		{fresh.at(part.Prepared), part.Expire, part.Expired, false},
		{fresh.at(part.Prepared), part.Expire, part.Aborted, false},
		{fresh.at(part.Expired), part.Renew, part.Expired, true},
		{fresh.at(part.Expired), part.Lock, part.Active, false},
		{fresh.at(part.Expired), part.Prepare, part.Prepared, false},
		{fresh.at(part.Expired).at(part.Fresh), part.Lock, part.Active, false},
		{fresh, part.Lock, part.Active, true},
		{fresh.at(part.Active), part.Expire, part.Expired, true},
	} {
		if broken := q.p.broken(q.event, q.state); (broken == "") != q.holds {
			t.Errorf("%d: %q", i, broken)
		}
	}
}

func TestEachRunFromEachState(t *testing.T) {
	want := 1
	for range length {
		want *= len(events)
	}
	for state := range states {
		room := make([]int, 0, length) // else each of the millions of runs would be new memory
		if all := (past{}).at(state).runs(t, room, length); all != want {
			t.Errorf("%d runs from %d, want %d", all, state, want)
		}
	}
}

func TestRunsOfAnyLengthFromEachState(t *testing.T) {
	for state := range states {
		pasts(t, state)
	}
}

func TestEachStateIsReachedFromAFreshOne(t *testing.T) {
	reached := map[int]bool{}
	for p := range pasts(t, part.Fresh) {
		reached[p.state] = true
	}
	for state, name := range states {
		if !reached[state] {
			t.Errorf("%s is never reached", name)
		}
	}
}
