package cluster_test

import (
	"slices"
	"strconv"
	"strings"
	"testing"

	"catchbolt/api"
	"catchbolt/check"
	"catchbolt/cluster"
	"catchbolt/msg"
	"catchbolt/script"
)

// names are those of the kinds of entries, by their numbers.
var names = []string{"skip", "tick", "begin", "lock", "commit", "abort", "crash", "deliver", "drop", "twice"}

// entries are those of a text: "begin 1, lock 1 3.14X, deliver 0, tick".
func entries(text string) []script.Entry {
	var l []script.Entry
	for part := range strings.SplitSeq(text, ", ") {
		if part != "" {
			l = append(l, entry(strings.Fields(part)))
		}
	}
	if told(l) != text {
		panic(text)
	}
	return l
}

// entry is the one of its words.
func entry(words []string) script.Entry {
	e := script.Entry{Kind: slices.Index(names, words[0])}
	switch e.Kind {
	case script.Lock:
		at := strings.TrimRight(words[2], "ISX")
		e.At, e.Mode = check.At(at), api.Mode(slices.Index([]string{"", "IS", "IX", "S", "X"}, words[2][len(at):]))
		fallthrough
	case script.Begin, script.Commit, script.Abort, script.Crash:
		e.Client, _ = strconv.Atoi(words[1])
	case script.Deliver, script.Drop, script.Twice:
		e.Pick, _ = strconv.Atoi(words[1])
	}
	return e
}

// told is the text of entries.
func told(l []script.Entry) string {
	var all []string
	for _, e := range l {
		text := names[e.Kind]
		switch e.Kind {
		case script.Lock:
			text += " " + strconv.Itoa(e.Client) + " " + check.Res(e.At) + check.Mode(e.Mode)
		case script.Begin, script.Commit, script.Abort, script.Crash:
			text += " " + strconv.Itoa(e.Client)
		case script.Deliver, script.Drop, script.Twice:
			text += " " + strconv.Itoa(e.Pick)
		}
		all = append(all, text)
	}
	return strings.Join(all, ", ")
}

// bytes are those of entries, that each are Ok.
func bytes(t *testing.T, l ...script.Entry) []byte {
	t.Helper()
	b, err := script.Encode(l...)
	if err != nil {
		t.Fatalf("%+v: %v", l, err)
	}
	return b
}

// made is a new cluster, in which the entries of texts happened.
func made(t *testing.T, c api.Config, clients int, texts ...string) *cluster.Cluster {
	t.Helper()
	k, err := cluster.New(c, clients)
	if k == nil || err != nil {
		t.Fatalf("New(%+v, %d) = %v, %v", c, clients, k, err)
	}
	for _, text := range texts {
		does(k, text)
	}
	return k
}

// does are the entries of a text, that happen.
func does(k *cluster.Cluster, text string) {
	for _, e := range entries(text) {
		k.Do(e)
	}
}

// onWay is the text of messages with from where and to where they go: "0>1 lock 3:1.1X, 1>0 granted 3:1.1X". That each may be says that all else in it is 0.
func onWay(l []api.Msg) string {
	var all []string
	for _, m := range l {
		text := strconv.Itoa(m.From) + ">" + strconv.Itoa(m.To) + " " + check.Sent([]api.Msg{m})
		if msg.Ok(m) != nil {
			text += ", which may not be"
		}
		all = append(all, text)
	}
	return strings.Join(all, ", ")
}

// text is all that a view has, as a text.
func text(v cluster.View) string {
	all := []string{check.Coord(v.Coord)}
	for i, s := range v.Shards {
		all = append(all, "shard "+strconv.Itoa(i+1)+": "+check.Shard(s))
	}
	return strings.Join(append(all, "net "+onWay(v.Net), "lost "+strconv.Itoa(v.Lost)), "\n  ")
}

// of is all that a cluster has, as a text.
func of(k *cluster.Cluster) string { return text(k.View()) }

// same says whether two views have the same. Lists that are nil and that are empty are one.
func same(a, b cluster.View) bool {
	return a.Lost == b.Lost && check.SameCoord(a.Coord, b.Coord) && slices.EqualFunc(a.Shards, b.Shards, check.SameShard) && slices.Equal(a.Net, b.Net)
}

// has checks that a cluster has what a view has.
func has(t *testing.T, k *cluster.Cluster, want cluster.View) {
	t.Helper()
	if got := k.View(); !same(got, want) {
		t.Errorf("it has\n%s, want\n%s", text(got), text(want))
	}
}

// left are those that were on their way, without the one that an entry takes off the net.
func left(l []api.Msg, e script.Entry) []api.Msg {
	if e.Kind != script.Deliver && e.Kind != script.Drop || len(l) == 0 {
		return l
	}
	place := e.Pick % len(l)
	return slices.Concat(l[:place], l[place+1:])
}

// sends checks that by an entry those messages, and no others, come to be on their way, behind all that are left, and how many are lost.
func sends(t *testing.T, k *cluster.Cluster, text, want string, lost int) {
	t.Helper()
	before := k.View()
	does(k, text)
	v, rest := k.View(), left(before.Net, entries(text)[0])
	if n := len(rest); len(v.Net) < n || !slices.Equal(v.Net[:n], rest) || onWay(v.Net[n:]) != want || v.Lost != before.Lost+lost {
		t.Errorf("%s: on their way are %s, %d are lost, want %s behind %s, and %d", text, onWay(v.Net), v.Lost, want, onWay(rest), before.Lost+lost)
	}
}

// net checks what is on its way.
func net(t *testing.T, k *cluster.Cluster, want string) {
	t.Helper()
	if got := onWay(k.View().Net); got != want {
		t.Errorf("on their way are %s, want %s, of\n%s", got, want, of(k))
	}
}

// traced checks the last events of the trace.
func traced(t *testing.T, k *cluster.Cluster, want string) {
	t.Helper()
	if got := check.Traced(k.View().Coord.Trace); !strings.HasSuffix(", "+got, ", "+want) {
		t.Errorf("the trace is %s, want %s last, of\n%s", got, want, of(k))
	}
}

// tells checks all that a shard has.
func tells(t *testing.T, k *cluster.Cluster, shard int, want string) {
	t.Helper()
	if got := check.Shard(k.View().Shards[shard-1]); got != want {
		t.Errorf("shard %d has\n%s, want\n%s", shard, got, want)
	}
}

// nothing checks that the entries of a text change nothing.
func nothing(t *testing.T, k *cluster.Cluster, d string) {
	t.Helper()
	before := k.View()
	does(k, d)
	has(t, k, before)
}
