package check

import (
	"strconv"
	"strings"

	"catchbolt/api"
	"catchbolt/res"
)

// By these texts tests name what is told.

// Held is the text of holders: "1S 2IX".
func Held(l []api.Hold) string {
	return joined(l, func(h api.Hold) string { return Step(h.Tx, 0) + Mode(h.Mode) })
}

// Queued is the text of waiting ones: "1.101X^ 3.103IS", each with its request's number, and ^ of one that has a lock.
func Queued(l []api.Wait) string {
	return joined(l, func(w api.Wait) string {
		text := Step(w.Tx, w.Seq) + Mode(w.Mode)
		if w.Up {
			text += "^"
		}
		return text
	})
}

// Edged is the text of edges: "1.101>2 3.103>1.101".
func Edged(l []api.Edge) string {
	return joined(l, func(e api.Edge) string { return Step(e.From, e.Seq) + ">" + Step(e.To, e.ToSeq) })
}

// Granted is the text of locks: "3:1.101IX 3.14:1X".
func Granted(l []api.Grant) string {
	return joined(l, func(g api.Grant) string { return Res(g.At) + ":" + Step(g.Tx, g.Seq) + Mode(g.Mode) })
}

// Sent is the text of messages: "granted 3:1.101IX, wound 2 by 1", without from where and to where they go.
func Sent(l []api.Msg) string { return between(", ", l, sent) }

// sent is the text of a message.
func sent(m api.Msg) string {
	switch m.Kind {
	case api.KLock, api.KGranted:
		return kind(m) + " " + Granted([]api.Grant{{Tx: m.Tx, Seq: m.Seq, At: m.At, Mode: m.Mode}})
	case api.KVote, api.KDecide, api.KRefused:
		return kind(m) + " " + Step(m.Tx, m.Seq) + " " + strconv.Itoa(m.Code)
	case api.KWound:
		return kind(m) + " " + Step(m.Tx, 0) + " by " + Step(m.Next, 0)
	case api.KProbe:
		steps := joined(m.Path[:m.N], func(s api.Step) string { return Step(s.Tx, s.Seq) })
		return kind(m) + " " + steps + " > " + Step(m.Next, m.NextSeq)
	}
	return kind(m) + " " + Step(m.Tx, 0)
}

// whole is the text of all that a message has, also of one that may not be: "lock from 0 to 65: 7.9 3.14X 0 > 0, 0 steps: 0 0 0 0 0 0 0 0".
func whole(m api.Msg) string {
	way := " from " + strconv.Itoa(m.From) + " to " + strconv.Itoa(m.To) + ": "
	lock := Step(m.Tx, m.Seq) + " " + Res(m.At) + Mode(m.Mode) + " " + strconv.Itoa(m.Code)
	steps := joined(m.Path[:], func(s api.Step) string { return Step(s.Tx, s.Seq) })
	return kind(m) + way + lock + " > " + Step(m.Next, m.NextSeq) + ", " + strconv.Itoa(m.N) + " steps: " + steps
}

// kind is the name of a message's kind.
func kind(m api.Msg) string {
	if m.Kind < api.KLock || m.Kind > api.KProbe {
		return "?" + strconv.Itoa(m.Kind)
	}
	return []string{"lock", "granted", "refused", "prepare", "vote", "decide", "ack", "renew", "expired", "wound", "probe"}[m.Kind-api.KLock]
}

// joined are the texts of all, with a space between.
func joined[E any](l []E, text func(E) string) string { return between(" ", l, text) }

// between are the texts of all, with that between.
func between[E any](with string, l []E, text func(E) string) string {
	var texts []string
	for _, e := range l {
		texts = append(texts, text(e))
	}
	return strings.Join(texts, with)
}

// Mode is a mode's name.
func Mode(m api.Mode) string {
	if m < api.None || m > api.X {
		return "?" + strconv.Itoa(int(m))
	}
	return []string{"None", "IS", "IX", "S", "X"}[m]
}

// Res is a resource's text, or what is like it of one that may not be.
func Res(r api.Res) string { return dotted(r.Table, r.Row) }

// At is the resource of a text: "3", "3.14".
func At(text string) api.Res {
	r, err := res.Parse(text)
	if err != nil {
		panic(text)
	}
	return r
}

// Step is the text of a transaction with its request's number, if it has one.
func Step(tx, seq int) string { return dotted(tx, seq) }

// dotted are two numbers with a dot between, or the first one alone, if the other one is 0.
func dotted(first, then int) string {
	if then == 0 {
		return strconv.Itoa(first)
	}
	return strconv.Itoa(first) + "." + strconv.Itoa(then)
}

// Traced is the text of events: "began 1 client 2, asked 1 3.14X, refused 1 3.14 9", each with all that it has that isn't 0.
func Traced(l []api.Event) string { return between(", ", l, traced) }

// traced is the text of an event.
func traced(e api.Event) string {
	text := "?" + strconv.Itoa(e.Kind)
	if e.Kind >= api.EvBegan && e.Kind <= api.EvCrashed {
		text = []string{"began", "asked", "granted", "refused", "finish", "committed", "aborted", "crashed"}[e.Kind-api.EvBegan]
	}
	if e.Tx != 0 {
		text += " " + strconv.Itoa(e.Tx)
	}
	if e.Client != 0 {
		text += " client " + strconv.Itoa(e.Client)
	}
	if e.At != (api.Res{}) {
		text += " " + Res(e.At)
	}
	if e.Mode != api.None {
		text += Mode(e.Mode)
	}
	if e.Code != 0 {
		text += " " + strconv.Itoa(e.Code)
	}
	return text
}
