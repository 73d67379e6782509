package coord_test

import (
	"slices"
	"testing"

	"catchbolt/api"
	"catchbolt/check"
	"catchbolt/coord"
)

// The document's example.

func TestExample(t *testing.T) {
	check.Both(func(c api.Config) {
		c.Shards = 2
		o := made(t, c, 2)
		if tx, err := o.Begin(1); tx != 1 || err != nil {
			t.Errorf("Begin(1) = %d, %v", tx, err)
		}
		does(t, o, lock(1, "3", api.X), "1: lock 3:1.1X", "asked 1 3X")
		mayNot(t, o, commit(1), api.ErrBusy)
		does(t, o, granted(1, 1, 1, "3", api.X), "", "granted 1 3X")
		does(t, o, commit(1), "1: prepare 1", "finish 1")
		does(t, o, voted(1, 1, 1), "1: decide 1 1", "committed 1")
		does(t, o, acked(1, 1), "", "")
		is(t, o, 1, "1 Committed; request 1 of 1: 3X; touched 1; votes 1; acks 1; got 3:1.1X")
	})
}

// P18.1

// isMade checks what New answers; OK is no error.
func isMade(t *testing.T, c api.Config, clients int, want api.Errno) {
	t.Helper()
	o, err := coord.New(c, clients)
	if (o != nil) != (want == api.OK) || want == api.OK && err != nil || want != api.OK && !check.Plain(err, want) {
		t.Errorf("New(%+v, %d) = %v, %v, want %v", c, clients, o, err, want)
	}
	if o != nil {
		has(t, o, coord.View{})
	}
}

// noClients are numbers that so many clients may not be, and of whom none is, if there are so many.
func noClients(many int) []int {
	all := slices.Concat(check.WrongLimits(), check.WrongNumbers(), []int{many + 1, many + 2, 9, 10, 16, 256 + many, 65536 + many, 1<<32 + many, -many})
	return slices.DeleteFunc(all, func(n int) bool { return n >= 1 && n <= many })
}

func TestNew(t *testing.T) {
	check.Beginnings(func(c api.Config, clients int, want api.Errno) { isMade(t, c, clients, want) })
}

// begun checks that a client begins a transaction of that number.
func begun(t *testing.T, o *coord.Coord, client, want int) {
	t.Helper()
	before := o.View()
	tx, err := o.Begin(client)
	after := o.View()
	if tx != want || err != nil || after.Last != want || len(after.Txns) != want {
		t.Errorf("Begin(%d) = %d, %v, want %d, of %s", client, tx, err, want, check.Coord(after))
	}
	if events := behind(t, before, after); !slices.Equal(events, []api.Event{{Kind: api.EvBegan, Client: client, Tx: want}}) {
		t.Errorf("Begin(%d) is traced as %s", client, check.Traced(events))
	}
	if !slices.EqualFunc(after.Txns[:want-1], before.Txns, check.SameTxn) || check.Txn(after.Txns[want-1]) != check.Step(want, 0)+" Active" {
		t.Errorf("Begin(%d) makes %s, of %s", client, check.Coord(after), check.Coord(before))
	}
}

func TestBeginOfEachClient(t *testing.T) {
	check.Both(func(c api.Config) {
		for many := 1; many <= 8; many++ {
			o := made(t, c, many)
			for i := range many {
				begun(t, o, many-i, i+1) // whoever begins
			}
			for i := range many {
				mayNot(t, o, begin(i+1), api.ErrBusy)
			}
			for n := range 3 * many {
				client := 1 + n*5%many
				more(t, o, []move{abort(client), commit(client)}[n%2])
				begun(t, o, client, many+n+1)
			}
		}
	})
}

func TestBeginOfWhoHasOneAlready(t *testing.T) {
	check.Both(func(c api.Config) {
		for i, ahead := range [][]move{
			{}, {lock(2, "3", api.X)}, locked(2, 1, 3), append(locked(2, 1, 3), commit(2)), append(locked(2, 1, 3, 1), commit(2), voted(1, 1, 1)),
		} {
			o := made(t, c, 3, []move{begin(2)}, ahead)
			mayNot(t, o, begin(2), api.ErrBusy)
			begun(t, o, 1, 2)
			begun(t, o, 3, 3)
			mayNot(t, o, begin(2), api.ErrBusy)
			if check.Stop(t); i > 0 {
				more(t, o, heard(1, 3)...) // of one that isn't decided it's no acknowledgement
				mayNot(t, o, begin(2), api.ErrBusy)
			}
		}
	})
}

// ends are moves by which client 2's first transaction is decided, in each way that there is without probes and with.
func ends(probe bool) [][]move {
	end := append(locked(2, 1, 3, 1), commit(2))
	all := [][]move{
		{abort(2)}, {commit(2)}, append(locked(2, 1, 3), abort(2)), {lock(2, "3", api.X), abort(2)},
		append(slices.Clone(end), yes(1, 1, 3)...), append(slices.Clone(end), voted(3, 1, 0)),
		{expired(3, 1)}, {lock(2, "3", api.X), expired(3, 1)}, append(slices.Clone(end), expired(3, 1)),
	}
	if probe {
		all = append(all, []move{lock(2, "3", api.X), probing(3, step(1, 1), step(1, 1))})
	}
	return all
}

func TestBeginOfWhoseOneIsDecided(t *testing.T) {
	check.Both(func(c api.Config) {
		for _, end := range ends(c.Probe) {
			o := made(t, c, 3, []move{begin(2)}, end)
			for _, d := range []move{lock(2, "3", api.X), commit(2), abort(2)} {
				mayNot(t, o, d, api.ErrNone) // it is its client's no more
			}
			begun(t, o, 2, 2)
			mayNot(t, o, begin(2), api.ErrBusy)
			check.Stop(t)
		}
	})
}

// moves are those of a client, of which those that ask for a lock are right ones and wrong ones.
func moves(client int) []move {
	return []move{begin(client), commit(client), abort(client), crash(client), lock(client, "3", api.X), {kind: locks, client: client}, {kind: locks, client: client, at: check.At("3"), mode: 5}}
}

func TestNoSuchClient(t *testing.T) {
	check.Both(func(c api.Config) {
		for many := 1; many <= 8; many++ {
			for _, o := range []*coord.Coord{made(t, c, many), made(t, c, many, []move{begin(1)}), made(t, c, many, []move{begin(1), crash(1)})} {
				for _, client := range noClients(many) {
					for _, d := range moves(client) {
						mayNot(t, o, d, api.ErrNone)
					}
				}
				check.Stop(t)
			}
		}
	})
}

func TestDeadClient(t *testing.T) {
	check.Both(func(c api.Config) {
		for _, ahead := range append(ends(c.Probe), nil, []move{lock(2, "3", api.X)}, locked(2, 1, 3), append(locked(2, 1, 3), commit(2))) {
			o := made(t, c, 3, []move{begin(2)}, ahead, []move{crash(2)})
			for _, d := range moves(2) { // ahead of all else
				mayNot(t, o, d, api.ErrState)
			}
			begun(t, o, 3, 2)
			more(t, o, lock(3, "4", api.S))
			for _, d := range moves(2) {
				mayNot(t, o, d, api.ErrState)
			}
			check.Stop(t)
		}
		o := made(t, c, 3, []move{crash(2)}) // one that never had any
		for _, d := range moves(2) {
			mayNot(t, o, d, api.ErrState)
		}
	})
}

func TestNoTransaction(t *testing.T) {
	check.Both(func(c api.Config) {
		o := made(t, c, 3, []move{begin(1), begin(3), lock(3, "3", api.X), abort(3)})
		for _, client := range []int{2, 3} {
			for _, d := range moves(client) {
				if d.kind != begins && d.kind != crashes {
					mayNot(t, o, d, api.ErrNone) // ahead of ErrArg
				}
			}
		}
	})
}

// The last transaction.

func TestBeginBehindTheLastNumber(t *testing.T) {
	o := made(t, config(false, 1, 1), 4, []move{crash(4)})
	for tx := 1; tx < 1048576; tx++ {
		client := 1 + tx%2
		got, err := o.Begin(client)
		sent, how := o.Abort(client)
		if got != tx || err != nil || len(sent) != 0 || how != nil {
			t.Fatalf("Begin = %d, %v, Abort = %v, %v, want %d", got, err, sent, how, tx)
		}
		if tx%20000 == 0 && len(o.Tick()) > 0 {
			t.Fatal("a tick sends something")
		}
	}
	if tx, err := o.Begin(3); tx != 1048576 || err != nil {
		t.Fatalf("Begin = %d, %v", tx, err)
	}
	for client, want := range map[int]api.Errno{1: api.ErrFull, 2: api.ErrFull, 3: api.ErrBusy, 4: api.ErrState, 5: api.ErrNone, 0: api.ErrNone} { // the others are ahead of ErrFull
		if tx, err := o.Begin(client); tx != 0 || !check.Plain(err, want) {
			t.Errorf("Begin(%d) = %d, %v, want %v", client, tx, err, want)
		}
	}
	sent, err := o.Lock(3, check.At("3"), api.X)
	if got := check.SentTo(sent); got != "3: lock 3:1048576.1X" || err != nil {
		t.Errorf("it sends %s, %v", got, err)
	}
	for range 10000 { // those that are over aren't gone over at each tick
		if got := check.SentTo(o.Tick()); got != "3: lock 3:1048576.1X, 3: renew 1048576" {
			t.Fatalf("a tick sends %s", got)
		}
	}
	more(t, o, abort(3))
	if tx, err := o.Begin(3); tx != 0 || !check.Plain(err, api.ErrFull) {
		t.Errorf("Begin(3) = %d, %v", tx, err)
	}
	v := o.View()
	if v.Last != 1048576 || len(v.Txns) != 1048576 || v.Time != 10052 || len(v.Trace) != 2*1048576+2 {
		t.Errorf("last %d, %d transactions, time %d, %d events", v.Last, len(v.Txns), v.Time, len(v.Trace))
	}
	for i, x := range v.Txns[:1048575] {
		if x.Tx != i+1 || x.State != 4 || x.Reason != 1 {
			t.Fatalf("%d is %s", i+1, check.Txn(x))
		}
	}
}

// P18.2

func TestLockOfEachShard(t *testing.T) {
	for n := 1; n <= 64; n++ {
		c := check.Roomy(n%2 == 0)
		c.Shards = n
		o := made(t, c, 1, []move{begin(1)})
		for table := 1; table <= 250; table++ {
			at, m, shard := api.Res{Table: table, Row: 250 - table}, check.Modes()[table%4], (table-1)%n+1
			sent, err := o.Lock(1, at, m)
			if want := (api.Msg{Kind: api.KLock, To: shard, Tx: 1, Seq: table, At: at, Mode: m}); !slices.Equal(sent, []api.Msg{want}) || err != nil {
				t.Errorf("Lock(1, %v, %v) = %s, %v, want %+v", at, m, check.SentTo(sent), err, want)
			}
			more(t, o, refused(shard, 1, table, 9))
		}
		v := o.View()
		if len(v.Txns[0].Touched) != n || len(v.Trace) != 501 {
			t.Errorf("of %d shards: %s", n, check.Coord(v))
		}
		for i, e := range v.Trace[1:] {
			at := api.Res{Table: i/2 + 1, Row: 249 - i/2}
			want := []api.Event{{Kind: api.EvAsked, Tx: 1, At: at, Mode: check.Modes()[at.Table%4]}, {Kind: api.EvRefused, Tx: 1, At: at, Code: 9}}[i%2]
			if e != want {
				t.Errorf("%+v, want %+v", e, want)
			}
		}
	}
}

func TestLockInEachModeOfEachClient(t *testing.T) {
	check.Both(func(c api.Config) {
		o := made(t, c, 8)
		for client := 8; client >= 1; client-- {
			more(t, o, begin(client))
		}
		for i, m := range check.Modes() {
			for client := 1; client <= 8; client++ {
				tx, seq := 9-client, i+1
				does(t, o, lock(client, "250.250", m), "2: lock 250.250:"+check.Step(tx, seq)+check.Mode(m), "asked "+check.Step(tx, 0)+" 250.250"+check.Mode(m))
				mayNot(t, o, lock(client, "250", m), api.ErrBusy)
				more(t, o, refused(2, tx, seq, 15))
			}
		}
	})
}

// wrongLocks are those that may not be asked for.
func wrongLocks(client int) []move {
	var all []move
	for _, r := range check.WrongResources() {
		all = append(all, move{kind: locks, client: client, at: r, mode: api.X})
	}
	for i, m := range check.WrongModes() {
		all = append(all, move{kind: locks, client: client, at: check.At("3.14"), mode: m}, move{kind: locks, client: client, at: check.WrongResources()[i], mode: m})
	}
	return all
}

func TestLockOfWhatMayNotBe(t *testing.T) {
	check.Both(func(c api.Config) {
		for _, ahead := range [][]move{nil, {lock(1, "3", api.X)}, locked(1, 1, 3), append(locked(1, 1, 3), commit(1))} {
			o := made(t, c, 1, []move{begin(1)}, ahead)
			for _, d := range wrongLocks(1) { // ahead of ErrState and ErrBusy
				mayNot(t, o, d, api.ErrArg)
			}
			check.Stop(t)
		}
	})
}

func TestLockInEachState(t *testing.T) {
	check.Both(func(c api.Config) {
		o := made(t, c, 1, []move{begin(1)})
		does(t, o, lock(1, "5", api.IX), "1: lock 5:1.1IX", "asked 1 5IX")
		is(t, o, 1, "1 Active; request 1 of 1: 5IX, open; touched 1")
		mayNot(t, o, lock(1, "5", api.IX), api.ErrBusy)
		does(t, o, granted(1, 1, 1, "5", api.X), "", "granted 1 5X") // it has more than it asked for, and is told what
		does(t, o, lock(1, "4.1", api.S), "4: lock 4.1:1.2S", "asked 1 4.1S")
		does(t, o, refused(4, 1, 2, 9), "", "refused 1 4.1 9")
		is(t, o, 1, "1 Active; request 2 of 4: 4.1S; touched 1 4; got 5:1.1X")
		does(t, o, commit(1), "1: prepare 1, 4: prepare 1", "finish 1")
		mayNot(t, o, lock(1, "5", api.IX), api.ErrState)
	})
}

func TestLockBehindTheLastNumber(t *testing.T) {
	o, at := made(t, check.Roomy(false), 1, []move{begin(1)}), check.At("3.14")
	for seq := 1; seq <= 1048576; seq++ {
		sent, err := o.Lock(1, at, api.X)
		if len(sent) != 1 || sent[0].Seq != seq || err != nil {
			t.Fatalf("Lock = %s, %v, want the request %d", check.SentTo(sent), err, seq)
		}
		if seq == 1048576 {
			if _, err := o.Lock(1, at, api.X); !check.Plain(err, api.ErrBusy) { // ahead of ErrFull
				t.Errorf("Lock = %v", err)
			}
		}
		more(t, o, refused(3, 1, seq, 9))
	}
	for _, d := range []struct {
		at   api.Res
		want api.Errno
	}{{at, api.ErrFull}, {check.At("1"), api.ErrFull}, {api.Res{}, api.ErrArg}} {
		if sent, err := o.Lock(1, d.at, api.X); len(sent) != 0 || !check.Plain(err, d.want) {
			t.Errorf("Lock(1, %v, X) = %s, %v, want %v", d.at, check.SentTo(sent), err, d.want)
		}
	}
	if v := o.View(); len(v.Trace) != 1+2*1048576 || len(v.Txns[0].Touched) != 1 || v.Txns[0].Open {
		t.Errorf("%d events, %s", len(v.Trace), check.Txn(v.Txns[0]))
	}
	more(t, o, commit(1))
	if _, err := o.Lock(1, at, api.X); !check.Plain(err, api.ErrState) { // likewise
		t.Errorf("Lock = %v", err)
	}
}

func TestCommit(t *testing.T) {
	check.Both(func(c api.Config) {
		o := made(t, c, 2, []move{begin(2), begin(1)})
		does(t, o, commit(1), "", "committed 2") // it has touched none, so there is nobody to be asked
		is(t, o, 2, "2 Committed")
		is(t, o, 1, "1 Active")
		mayNot(t, o, commit(1), api.ErrNone)
		does(t, o, lock(2, "4", api.S), "4: lock 4:1.1S", "asked 1 4S")
		mayNot(t, o, commit(2), api.ErrBusy)
		more(t, o, refused(4, 1, 1, 6))
		does(t, o, lock(2, "2", api.S), "2: lock 2:1.2S", "asked 1 2S")
		mayNot(t, o, commit(2), api.ErrBusy)
		more(t, o, granted(2, 1, 2, "2", api.S))
		does(t, o, commit(2), "2: prepare 1, 4: prepare 1", "finish 1") // who refused was touched, too
		is(t, o, 1, "1 Preparing; request 2 of 2: 2S; touched 2 4; got 2:1.2S")
		mayNot(t, o, commit(2), api.ErrState)
	})
}

func TestAbort(t *testing.T) {
	check.Both(func(c api.Config) {
		for _, q := range []struct {
			ahead    []move
			sent, is string
		}{
			{nil, "", "1 Aborted 1"},
			{[]move{lock(1, "3", api.X)}, "3: decide 1 0", "1 Aborted 1; request 1 of 3: 3X; touched 3"},
			{locked(1, 1, 3), "3: decide 1 0", "1 Aborted 1; request 1 of 3: 3X; touched 3; got 3:1.1X"},
			{append(locked(1, 1, 3, 1), lock(1, "4.1", api.S)), to("decide 1 0", 1, 3, 4), "1 Aborted 1; request 3 of 4: 4.1S; touched 1 3 4; got 3:1.1X 1:1.2X"},
		} {
			o := made(t, c, 1, []move{begin(1)}, q.ahead)
			does(t, o, abort(1), q.sent, "aborted 1 1")
			is(t, o, 1, q.is)
			mayNot(t, o, abort(1), api.ErrNone)
		}
		o := made(t, c, 1, []move{begin(1)}, locked(1, 1, 3), []move{commit(1)})
		mayNot(t, o, abort(1), api.ErrState)
		more(t, o, voted(3, 1, 1))
		mayNot(t, o, abort(1), api.ErrNone)
	})
}

func TestCrash(t *testing.T) {
	check.Both(func(c api.Config) {
		o := made(t, c, 3, []move{begin(2)}, locked(2, 1, 3))
		before := o.View().Txns
		does(t, o, crash(2), "", "crashed client 2")
		if !slices.EqualFunc(o.View().Txns, before, check.SameTxn) {
			t.Errorf("it has %s", of(o))
		}
		mayNot(t, o, crash(2), api.ErrState)
		does(t, o, crash(1), "", "crashed client 1") // one without a transaction
		begun(t, o, 3, 2)
		does(t, o, crash(3), "", "crashed client 3")
		is(t, o, 1, "1 Active; request 1 of 3: 3X; touched 3; got 3:1.1X")
		is(t, o, 2, "2 Active")
	})
}

func TestWhatIsOfADeadClientGoesOn(t *testing.T) {
	check.Both(func(c api.Config) {
		o := made(t, c, 1, []move{begin(1), lock(1, "3", api.X), crash(1)})
		does(t, o, granted(3, 1, 1, "3", api.X), "", "granted 1 3X")
		does(t, o, expired(3, 1), "3: decide 1 0", "aborted 1 5")

		o = made(t, c, 1, []move{begin(1)}, locked(1, 1, 3, 4), []move{commit(1), crash(1)})
		does(t, o, voted(4, 1, 1), "", "")
		does(t, o, voted(3, 1, 1), to("decide 1 1", 3, 4), "committed 1")
		does(t, o, acked(3, 1), "", "")
		is(t, o, 1, "1 Committed; request 2 of 4: 4X; touched 3 4; votes 3 4; acks 3; got 3:1.1X 4:1.2X")
		mayNot(t, o, begin(1), api.ErrState)
	})
}
