package shard_test

import (
	"testing"

	"catchbolt/api"
	"catchbolt/check"
	"catchbolt/msg"
	"catchbolt/shard"
)

// here is the number of the shard of most tests.
const here = 3

// states are the states' names, by their numbers.
var states = check.States()

// mixed are transactions that don't rise; as texts they would stand in another order, too.
var mixed = []int{100, 9, 1048576, 10, 1, 2, 65536, 99, 65537, 1000, 256}

// numbered is a new shard of a number.
func numbered(t *testing.T, id int, c api.Config) *shard.Shard {
	t.Helper()
	s, err := shard.New(id, c)
	if s == nil || err != nil {
		t.Fatalf("New(%d, %+v) = %v, %v", id, c, s, err)
	}
	return s
}

// made is a new shard of the usual number.
func made(t *testing.T, c api.Config) *shard.Shard {
	t.Helper()
	return numbered(t, here, c)
}

// step is a transaction's request.
func step(tx, seq int) api.Step { return api.Step{Tx: tx, Seq: seq} }

// The messages to the usual shard.

func lock(tx, seq int, text string, m api.Mode) api.Msg {
	return api.Msg{Kind: api.KLock, To: here, Tx: tx, Seq: seq, At: check.At(text), Mode: m}
}

func prepare(tx int) api.Msg { return api.Msg{Kind: api.KPrepare, To: here, Tx: tx} }

func decide(tx, code int) api.Msg {
	return api.Msg{Kind: api.KDecide, To: here, Tx: tx, Code: code}
}

func renew(tx int) api.Msg { return api.Msg{Kind: api.KRenew, To: here, Tx: tx} }

// probing is a probe with those steps, for the first one.
func probing(next api.Step, steps ...api.Step) api.Msg {
	m := api.Msg{Kind: api.KProbe, To: here, Next: next.Tx, NextSeq: next.Seq, N: len(steps)}
	copy(m.Path[:], steps)
	return m
}

// of is all that a shard has, as a text.
func of(s *shard.Shard) string { return check.Shard(s.View()) }

// has checks that a shard has what a view has.
func has(t *testing.T, s *shard.Shard, want shard.View) {
	t.Helper()
	if got := s.View(); !check.SameShard(got, want) {
		t.Errorf("it has\n%s, want\n%s", check.Shard(got), check.Shard(want))
	}
}

// tells checks all that a shard has, as a text.
func tells(t *testing.T, s *shard.Shard, want string) {
	t.Helper()
	if got := of(s); got != want {
		t.Errorf("it has\n%s, want\n%s", got, want)
	}
}

// isState checks a transaction's state.
func isState(t *testing.T, s *shard.Shard, tx, want int) {
	t.Helper()
	if got := s.State(tx); got != want {
		t.Errorf("State(%d) = %d, want %d, of %s", tx, got, want, of(s))
	}
}

// fromHere checks that each message may be, and is from the usual shard to the coordinator.
func fromHere(t *testing.T, l []api.Msg) {
	t.Helper()
	for _, m := range l {
		if m.From != here || m.To != 0 || msg.Ok(m) != nil {
			t.Errorf("%+v is sent", m)
		}
	}
}

// sends checks what a message that comes sends.
func sends(t *testing.T, s *shard.Shard, m api.Msg, want string) {
	t.Helper()
	sent, err := s.Handle(m)
	if got := check.Sent(sent); got != want || err != nil {
		t.Errorf("%s sends %s, %v, want %s, now %s", check.Sent([]api.Msg{m}), got, err, want, of(s))
	}
	fromHere(t, sent)
}

// come are messages that come, whatever they send.
func come(t *testing.T, s *shard.Shard, l ...api.Msg) {
	t.Helper()
	for _, m := range l {
		if _, err := s.Handle(m); err != nil {
			t.Errorf("Handle(%+v) = %v", m, err)
		}
	}
}

// stays checks what a message that comes sends, and that it leaves the shard as it was.
func stays(t *testing.T, s *shard.Shard, m api.Msg, want string) {
	t.Helper()
	before := s.View()
	sends(t, s, m, want)
	has(t, s, before)
}

// mayNot checks that a message has that error, and that it leaves the shard as it was.
func mayNot(t *testing.T, s *shard.Shard, m api.Msg, want api.Errno) {
	t.Helper()
	before := s.View()
	if sent, err := s.Handle(m); len(sent) != 0 || !check.Plain(err, want) {
		t.Errorf("Handle(%+v) = %v, %v, want %v, now %s", m, sent, err, want, of(s))
	}
	has(t, s, before)
}

// ticks checks what a tick sends, and that the time is one more then.
func ticks(t *testing.T, s *shard.Shard, want string) {
	t.Helper()
	time := s.View().Time
	sent := s.Tick()
	if got := check.Sent(sent); got != want {
		t.Errorf("the tick sends %s, want %s, now %s", got, want, of(s))
	}
	if now := s.View().Time; now != time+1 {
		t.Errorf("the time is %d behind %d", now, time)
	}
	fromHere(t, sent)
}

// quiet checks that so many ticks send nothing.
func quiet(t *testing.T, s *shard.Shard, many int) {
	t.Helper()
	for range many {
		ticks(t, s, "")
	}
}

// either is the text of what is sent without probes, or with probes, as a config has it.
func either(c api.Config, without, with string) string {
	if c.Probe {
		return with
	}
	return without
}
