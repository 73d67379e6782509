package shard_test

import (
	"slices"
	"strconv"
	"strings"
	"testing"

	"catchbolt/api"
	"catchbolt/check"
	"catchbolt/msg"
	"catchbolt/shard"
)

// here is the number of the shard of most tests.
const here = 3

// states are the states' names, by their numbers.
var states = []string{"Fresh", "Active", "Prepared", "Expired", "Committed", "Aborted"}

// mixed are transactions that don't rise; as texts they would stand in another order, too.
var mixed = []int{100, 9, 1048576, 10, 1, 2, 65536, 99, 65537, 1000, 256}

// numbered is a new shard of a number.
func numbered(t *testing.T, id int, c api.Config) *shard.Shard {
	t.Helper()
	s, err := shard.New(id, c)
	if s == nil || err != nil {
		t.Fatalf("New(%d, %+v) = %v, %v", id, c, s, err)
	}
	return s
}

// made is a new shard of the usual number.
func made(t *testing.T, c api.Config) *shard.Shard {
	t.Helper()
	return numbered(t, here, c)
}

// step is a transaction's request.
func step(tx, seq int) api.Step { return api.Step{Tx: tx, Seq: seq} }

// The messages to the usual shard.

func lock(tx, seq int, text string, m api.Mode) api.Msg {
	return api.Msg{Kind: api.KLock, To: here, Tx: tx, Seq: seq, At: check.At(text), Mode: m}
}

func prepare(tx int) api.Msg { return api.Msg{Kind: api.KPrepare, To: here, Tx: tx} }

func decide(tx, code int) api.Msg {
	return api.Msg{Kind: api.KDecide, To: here, Tx: tx, Code: code}
}

func renew(tx int) api.Msg { return api.Msg{Kind: api.KRenew, To: here, Tx: tx} }

// probing is a probe with those steps, for the first one.
func probing(next api.Step, steps ...api.Step) api.Msg {
	m := api.Msg{Kind: api.KProbe, To: here, Next: next.Tx, NextSeq: next.Seq, N: len(steps)}
	copy(m.Path[:], steps)
	return m
}

// text is all that a view has, as a text, without what it has nothing of: "time 2; states 5=Active; leases 5; book 5; held 3:5X; log 3:5.1X".
func text(v shard.View) string {
	var all []string
	add := func(name, text string) {
		if text != "" {
			all = append(all, name+" "+text)
		}
	}
	if v.Time != 0 {
		add("time", strconv.Itoa(v.Time))
	}
	add("states", stated(v.States))
	add("leases", numbers(v.Leases))
	add("book", numbers(v.Book))
	add("edges", check.Edged(v.Edges))
	add("held", check.Granted(v.Held))
	add("waits", check.Granted(v.Waits))
	add("log", check.Granted(v.Log))
	return strings.Join(all, "; ")
}

// stated are states as a text.
func stated(l []shard.State) string {
	var all []string
	for _, s := range l {
		name := "?" + strconv.Itoa(s.State)
		if s.State >= 0 && s.State < len(states) {
			name = states[s.State]
		}
		all = append(all, strconv.Itoa(s.Tx)+"="+name)
	}
	return strings.Join(all, " ")
}

// numbers are numbers as a text.
func numbers(l []int) string {
	var all []string
	for _, n := range l {
		all = append(all, strconv.Itoa(n))
	}
	return strings.Join(all, " ")
}

// of is all that a shard has, as a text.
func of(s *shard.Shard) string { return text(s.View()) }

// same says whether two views have the same. Lists that are nil and that are empty are one.
func same(a, b shard.View) bool {
	return a.Time == b.Time && slices.Equal(a.States, b.States) && slices.Equal(a.Leases, b.Leases) && slices.Equal(a.Book, b.Book) &&
		slices.Equal(a.Edges, b.Edges) && slices.Equal(a.Held, b.Held) && slices.Equal(a.Waits, b.Waits) && slices.Equal(a.Log, b.Log)
}

// has checks that a shard has what a view has.
func has(t *testing.T, s *shard.Shard, want shard.View) {
	t.Helper()
	if got := s.View(); !same(got, want) {
		t.Errorf("it has\n%s, want\n%s", text(got), text(want))
	}
}

// tells checks all that a shard has, as a text.
func tells(t *testing.T, s *shard.Shard, want string) {
	t.Helper()
	if got := of(s); got != want {
		t.Errorf("it has\n%s, want\n%s", got, want)
	}
}

// isState checks a transaction's state.
func isState(t *testing.T, s *shard.Shard, tx, want int) {
	t.Helper()
	if got := s.State(tx); got != want {
		t.Errorf("State(%d) = %d, want %d, of %s", tx, got, want, of(s))
	}
}

// fromHere checks that each message may be, and is from the usual shard to the coordinator.
func fromHere(t *testing.T, l []api.Msg) {
	t.Helper()
	for _, m := range l {
		if m.From != here || m.To != 0 || msg.Ok(m) != nil {
			t.Errorf("%+v is sent", m)
		}
	}
}

// sends checks what a message that comes sends.
func sends(t *testing.T, s *shard.Shard, m api.Msg, want string) {
	t.Helper()
	sent, err := s.Handle(m)
	if got := check.Sent(sent); got != want || err != nil {
		t.Errorf("%s sends %s, %v, want %s, now %s", check.Sent([]api.Msg{m}), got, err, want, of(s))
	}
	fromHere(t, sent)
}

// come are messages that come, whatever they send.
func come(t *testing.T, s *shard.Shard, l ...api.Msg) {
	t.Helper()
	for _, m := range l {
		if _, err := s.Handle(m); err != nil {
			t.Errorf("Handle(%+v) = %v", m, err)
		}
	}
}

// stays checks what a message that comes sends, and that it leaves the shard as it was.
func stays(t *testing.T, s *shard.Shard, m api.Msg, want string) {
	t.Helper()
	before := s.View()
	sends(t, s, m, want)
	has(t, s, before)
}

// mayNot checks that a message has that error, and that it leaves the shard as it was.
func mayNot(t *testing.T, s *shard.Shard, m api.Msg, want api.Errno) {
	t.Helper()
	before := s.View()
	if sent, err := s.Handle(m); len(sent) != 0 || !check.Plain(err, want) {
		t.Errorf("Handle(%+v) = %v, %v, want %v, now %s", m, sent, err, want, of(s))
	}
	has(t, s, before)
}

// ticks checks what a tick sends, and that the time is one more then.
func ticks(t *testing.T, s *shard.Shard, want string) {
	t.Helper()
	time := s.View().Time
	sent := s.Tick()
	if got := check.Sent(sent); got != want {
		t.Errorf("the tick sends %s, want %s, now %s", got, want, of(s))
	}
	if now := s.View().Time; now != time+1 {
		t.Errorf("the time is %d behind %d", now, time)
	}
	fromHere(t, sent)
}

// quiet checks that so many ticks send nothing.
func quiet(t *testing.T, s *shard.Shard, many int) {
	t.Helper()
	for range many {
		ticks(t, s, "")
	}
}

// either is the text of what is sent without probes, or with probes, as a config has it.
func either(c api.Config, without, with string) string {
	if c.Probe {
		return with
	}
	return without
}
