package msg_test

import (
	"encoding/hex"
	"math"
	"slices"
	"strings"
	"testing"

	"catchbolt/api"
	"catchbolt/check"
	"catchbolt/msg"
)

// field is a number of a message: its bytes, and where it stands.
type field struct {
	name  string
	width int
	of    func(m *api.Msg) *int
}

// fields are all numbers of a message, in the order of the document's bytes.
var fields = append([]field{
	{"Kind", 1, func(m *api.Msg) *int { return &m.Kind }},
	{"From", 1, func(m *api.Msg) *int { return &m.From }},
	{"To", 1, func(m *api.Msg) *int { return &m.To }},
	{"Tx", 4, func(m *api.Msg) *int { return &m.Tx }},
	{"Seq", 4, func(m *api.Msg) *int { return &m.Seq }},
	{"Table", 1, func(m *api.Msg) *int { return &m.At.Table }},
	{"Row", 1, func(m *api.Msg) *int { return &m.At.Row }},
	{"Mode", 1, func(m *api.Msg) *int { return (*int)(&m.Mode) }},
	{"Code", 1, func(m *api.Msg) *int { return &m.Code }},
	{"Next", 4, func(m *api.Msg) *int { return &m.Next }},
	{"NextSeq", 4, func(m *api.Msg) *int { return &m.NextSeq }},
	{"N", 1, func(m *api.Msg) *int { return &m.N }},
}, stepFields()...)

// stepFields are the numbers of a message's steps.
func stepFields() []field {
	var l []field
	for i := range api.MaxPath {
		l = append(l,
			field{"Path.Tx", 4, func(m *api.Msg) *int { return &m.Path[i].Tx }},
			field{"Path.Seq", 4, func(m *api.Msg) *int { return &m.Path[i].Seq }})
	}
	return l
}

// with is a message with another number in a field.
func with(m api.Msg, f field, n int) api.Msg {
	*f.of(&m) = n
	return m
}

// span is from where to where a number may be.
type span [2]int

func (s span) has(n int) bool { return s[0] <= n && n <= s[1] }

// The document's table: how each kind goes, and what it names (of probes but the steps; of wounds Next as far as it can ever be). What isn't named is 0.
var (
	anyTx   = span{1, 1048576}
	anySeq  = span{1, 1048576}
	table   = span{1, 250}
	row     = span{0, 250}
	anyMode = span{1, 4}
	yesNo   = span{0, 1}
)

var kinds = []struct {
	kind     int
	name     string
	down, up bool
	names    map[string]span
}{
	{1, "lock", true, false, map[string]span{"Tx": anyTx, "Seq": anySeq, "Table": table, "Row": row, "Mode": anyMode}},
	{2, "granted", false, true, map[string]span{"Tx": anyTx, "Seq": anySeq, "Table": table, "Row": row, "Mode": anyMode}},
	{3, "refused", false, true, map[string]span{"Tx": anyTx, "Seq": anySeq, "Code": {1, 15}}},
	{4, "prepare", true, false, map[string]span{"Tx": anyTx}},
	{5, "vote", false, true, map[string]span{"Tx": anyTx, "Code": yesNo}},
	{6, "decide", true, false, map[string]span{"Tx": anyTx, "Code": yesNo}},
	{7, "ack", false, true, map[string]span{"Tx": anyTx}},
	{8, "renew", true, false, map[string]span{"Tx": anyTx}},
	{9, "expired", false, true, map[string]span{"Tx": anyTx}},
	{10, "wound", false, true, map[string]span{"Tx": anyTx, "Next": {1, 1048575}}},
	{11, "probe", true, true, map[string]span{"N": {1, 8}, "Next": anyTx, "NextSeq": {0, 1048576}}},
}

// mayBe says by the document's words whether a message may be.
func mayBe(m api.Msg) bool {
	if m.Kind < 1 || m.Kind > 11 {
		return false
	}
	k := kinds[m.Kind-1]
	down := m.From == 0 && m.To >= 1 && m.To <= 64
	up := m.To == 0 && m.From >= 1 && m.From <= 64
	if !(k.down && down || k.up && up) || m.Kind == api.KWound && m.Next >= m.Tx {
		return false
	}
	for _, f := range fields[3:12] {
		if !k.names[f.name].has(*f.of(&m)) {
			return false
		}
	}
	return stepsMayBe(m)
}

// stepsMayBe says likewise whether its steps may be.
func stepsMayBe(m api.Msg) bool {
	txs := map[int]bool{}
	for _, s := range m.Path[:m.N] {
		txs[s.Tx] = true
		if !anyTx.has(s.Tx) || !anySeq.has(s.Seq) {
			return false
		}
	}
	for _, s := range m.Path[m.N:] {
		if s.Tx != 0 || s.Seq != 0 {
			return false
		}
	}
	return len(txs) == m.N
}

// may checks that a message may be.
func may(t *testing.T, m api.Msg) {
	t.Helper()
	if err := msg.Ok(m); err != nil {
		t.Errorf("Ok(%+v): %v", m, err)
	}
}

// mayNot checks that a message may not be, and has no bytes.
func mayNot(t *testing.T, m api.Msg) {
	t.Helper()
	if err := msg.Ok(m); !check.Plain(err, api.ErrForm) {
		t.Errorf("Ok(%+v): %v, not ErrForm", m, err)
	}
	if b, err := msg.Encode(m); len(b) != 0 || !check.Plain(err, api.ErrForm) {
		t.Errorf("Encode(%+v): %v, %v, not ErrForm", m, b, err)
	}
}

// edges checks that the field of that name may be low and high, and neither below nor beyond that.
func edges(t *testing.T, m api.Msg, name string, low, high int) {
	t.Helper()
	i := slices.IndexFunc(fields, func(f field) bool { return f.name == name })
	if i < 0 {
		t.Fatal("no field", name)
	}
	edgesOf(t, m, fields[i], low, high)
}

// edgesOf checks the same of a field.
func edgesOf(t *testing.T, m api.Msg, f field, low, high int) {
	t.Helper()
	may(t, with(m, f, low))
	may(t, with(m, f, high))
	mayNot(t, with(m, f, low-1))
	mayNot(t, with(m, f, high+1))
	for _, n := range check.FarFrom(low, high) {
		mayNot(t, with(m, f, n))
	}
}

// unnamed checks that of all fields that stand behind To and aren't named none may be another number than 0.
func unnamed(t *testing.T, m api.Msg, names ...string) {
	t.Helper()
	for _, f := range fields[3:] {
		if slices.Contains(names, f.name) {
			continue
		}
		edgesOf(t, m, f, 0, 0)
		mayNot(t, with(m, f, 7)) // as its Tx
	}
}

// fromCoordinator checks that a message goes from the coordinator to a shard, and no other way.
func fromCoordinator(t *testing.T, m api.Msg) {
	t.Helper()
	m.From, m.To = 0, 2
	edges(t, m, "To", 1, 64)
	edges(t, m, "From", 0, 0)
	wrongWays(t, m)
	for shard := -2; shard <= 66; shard++ {
		m.From, m.To = shard, 0
		mayNot(t, m)
	}
}

// fromShard checks that a message goes from a shard to the coordinator, and no other way.
func fromShard(t *testing.T, m api.Msg) {
	t.Helper()
	m.From, m.To = 2, 0
	edges(t, m, "From", 1, 64)
	edges(t, m, "To", 0, 0)
	wrongWays(t, m)
	for shard := -2; shard <= 66; shard++ {
		m.From, m.To = 0, shard
		mayNot(t, m)
	}
}

// wrongWays checks the ways that no message goes.
func wrongWays(t *testing.T, m api.Msg) {
	t.Helper()
	for _, way := range [][2]int{{0, 0}, {1, 1}, {1, 2}, {64, 1}, {64, 64}, {65, 0}, {0, 65}, {-1, 0}, {0, -1}, {-1, 1}, {1, -1}, {65, 65}, {-1, -1}, {256, 0}, {0, 256}, {257, 0}, {0, 257}} {
		m.From, m.To = way[0], way[1]
		mayNot(t, m)
	}
}

// P4.1: Ok.

func TestOkOfOneOfEachKind(t *testing.T) {
	seen := map[int]bool{}
	for _, m := range check.Messages() {
		may(t, m)
		seen[m.Kind] = true
	}
	if len(seen) != 11 {
		t.Error("kinds:", seen)
	}
}

func TestOkOfLock(t *testing.T) {
	m := api.Msg{Kind: api.KLock, To: 2, Tx: 7, Seq: 9, At: api.Res{Table: 3, Row: 14}, Mode: api.X}
	fromCoordinator(t, m)
	okOfLocks(t, m)
}

func TestOkOfGranted(t *testing.T) {
	m := api.Msg{Kind: api.KGranted, From: 2, Tx: 7, Seq: 9, At: api.Res{Table: 3, Row: 14}, Mode: api.S}
	fromShard(t, m)
	okOfLocks(t, m)
}

// okOfLocks checks what of a lock may be, asked for or granted.
func okOfLocks(t *testing.T, m api.Msg) {
	t.Helper()
	edges(t, m, "Tx", 1, 1048576)
	edges(t, m, "Seq", 1, 1048576)
	edges(t, m, "Table", 1, 250)
	edges(t, m, "Row", 0, 250)
	edges(t, m, "Mode", 1, 4)
	unnamed(t, m, "Tx", "Seq", "Table", "Row", "Mode")
	for mode := api.IS; mode <= api.X; mode++ { // a row's may be any of them here, too
		for _, at := range []api.Res{{Table: 1}, {Table: 1, Row: 1}, {Table: 250}, {Table: 250, Row: 250}} {
			m.Mode, m.At = mode, at
			may(t, m)
		}
	}
}

func TestOkOfRefused(t *testing.T) {
	m := api.Msg{Kind: api.KRefused, From: 2, Tx: 7, Seq: 9, Code: 7}
	fromShard(t, m)
	edges(t, m, "Tx", 1, 1048576)
	edges(t, m, "Seq", 1, 1048576)
	edges(t, m, "Code", 1, 15)
	unnamed(t, m, "Tx", "Seq", "Code")
}

func TestOkOfVoteAndDecide(t *testing.T) {
	vote, decide := api.Msg{Kind: api.KVote, From: 2, Tx: 7}, api.Msg{Kind: api.KDecide, To: 2, Tx: 7}
	fromShard(t, vote)
	fromCoordinator(t, decide)
	for _, m := range []api.Msg{vote, decide} {
		for m.Code = range 2 {
			edges(t, m, "Tx", 1, 1048576)
			edges(t, m, "Code", 0, 1)
			unnamed(t, m, "Tx", "Code")
		}
	}
}

func TestOkOfThoseWithATransactionAlone(t *testing.T) {
	prepare, renew := api.Msg{Kind: api.KPrepare, To: 2, Tx: 7}, api.Msg{Kind: api.KRenew, To: 2, Tx: 7}
	ack, expired := api.Msg{Kind: api.KAck, From: 2, Tx: 7}, api.Msg{Kind: api.KExpired, From: 2, Tx: 7}
	fromCoordinator(t, prepare)
	fromCoordinator(t, renew)
	fromShard(t, ack)
	fromShard(t, expired)
	for _, m := range []api.Msg{prepare, renew, ack, expired} {
		edges(t, m, "Tx", 1, 1048576)
		unnamed(t, m, "Tx")
	}
}

func TestOkOfWound(t *testing.T) {
	m := api.Msg{Kind: api.KWound, From: 2, Tx: 7, Next: 5}
	fromShard(t, m)
	edges(t, m, "Next", 1, 6) // by an elder one
	edges(t, m, "Tx", 6, 1048576)
	unnamed(t, m, "Tx", "Next")
	m.Tx = 1048576
	edges(t, m, "Next", 1, 1048575)
	m.Tx, m.Next = 2, 1
	edges(t, m, "Next", 1, 1)
	edges(t, m, "Tx", 2, 1048576)
	for _, q := range [][2]int{{1, 1}, {1, 0}, {0, 0}, {0, -1}, {-1, -2}, {1048577, 1048576}, {1048577, 5}, {math.MinInt64, 1}, {math.MinInt64, math.MaxInt64}, {math.MaxInt64, 1}} {
		m.Tx, m.Next = q[0], q[1]
		mayNot(t, m)
	}
}

func TestOkOfProbe(t *testing.T) {
	for n := 1; n <= 8; n++ {
		m := check.Probe(n)
		edges(t, m, "From", 1, 64)
		edges(t, check.Down(m), "To", 1, 64)
		wrongWays(t, m)
		edges(t, m, "Next", 1, 1048576)
		edges(t, m, "NextSeq", 0, 1048576)
		edges(t, m, "N", n, n) // with other steps than so many
		unnamed(t, m, "Next", "NextSeq", "N", "Path.Tx", "Path.Seq")
	}
}

func TestOkOfProbesOfSoManySteps(t *testing.T) {
	for n := -1; n <= 9; n++ { // in each way
		m := check.Probe(min(max(n, 0), 8))
		m.N = n
		for _, m := range []api.Msg{m, check.Down(m)} {
			if n >= 1 && n <= 8 {
				may(t, m)
			} else {
				mayNot(t, m)
			}
		}
	}
}

func TestOkOfProbesThatNameAStepAsNext(t *testing.T) {
	m := check.Probe(8)
	for _, s := range m.Path {
		for _, seq := range []int{0, s.Seq, s.Seq + 1} {
			m.Next, m.NextSeq = s.Tx, seq
			may(t, m)
		}
	}
}

func TestOkOfEachStep(t *testing.T) {
	for n := 1; n <= 8; n++ {
		for i, f := range stepFields() {
			switch m := check.Probe(n); {
			case i >= 2*n: // behind the first ones there are zero ones alone
				for _, wrong := range append(check.FarFrom(0, 0), 1, -1, 300) {
					mayNot(t, with(m, f, wrong))
				}
				m.Path[i/2] = api.Step{Tx: 300, Seq: 300}
				mayNot(t, m)
			default:
				may(t, with(m, f, 1))
				may(t, with(m, f, 1048576))
				for _, wrong := range append(check.FarFrom(1, 1048576), 0, 1048577) {
					mayNot(t, with(m, f, wrong))
				}
				m.Path[i/2] = api.Step{}
				mayNot(t, m)
			}
		}
	}
}

func TestOkOfTwoStepsOfOneTransaction(t *testing.T) {
	for n := 2; n <= 8; n++ {
		for i := range n {
			for j := range i {
				m := check.Probe(n)
				m.Path[i].Tx = m.Path[j].Tx
				mayNot(t, m)
				m.Path[i].Seq = m.Path[j].Seq
				mayNot(t, m)
				m = check.Probe(n)
				m.Path[i].Seq = m.Path[j].Seq // of two transactions a request may have one number
				may(t, m)
			}
		}
	}
}

func TestOkOfNoKinds(t *testing.T) {
	for _, m := range append(check.Messages(), api.Msg{}, api.Msg{Tx: 7}, api.Msg{To: 2}, api.Msg{From: 2}) {
		for _, kind := range append(check.FarFrom(1, 11), 0, -1, -11, 12, 13, 255, 256, 257) {
			m.Kind = kind
			mayNot(t, m)
		}
	}
}

func TestOkOfEachKindInAnothersPlace(t *testing.T) {
	for _, m := range check.Messages() {
		for m.Kind = range 13 {
			if err := msg.Ok(m); (err == nil) != mayBe(m) {
				t.Errorf("Ok(%+v): %v", m, err)
			}
		}
	}
}

// near are numbers around the edges of all fields.
var near = []int{-1, 0, 1, 2, 4, 5, 6, 7, 8, 9, 15, 16, 64, 65, 101, 250, 251, 256, 1048575, 1048576, 1048577, 1 << 32, math.MinInt64}

// eachNear calls f for all messages that are one that may be, but for two fields.
func eachNear(f func(m api.Msg)) {
	for _, one := range check.Messages() {
		for i, x := range fields {
			for _, y := range fields[:i] {
				for _, a := range near {
					for _, b := range near {
						f(with(with(one, x, a), y, b))
					}
				}
			}
		}
	}
}

func TestOkOfAnyTwoFields(t *testing.T) {
	eachNear(func(m api.Msg) {
		if err := msg.Ok(m); (err == nil) != mayBe(m) {
			t.Fatalf("Ok(%+v): %v", m, err)
		}
	})
}

// P4.1: Encode.

// encode answers the bytes of a message that may be.
func encode(t *testing.T, m api.Msg) []byte {
	t.Helper()
	b, err := msg.Encode(m)
	if err != nil || len(b) != 88 {
		t.Fatalf("Encode(%+v): %v, %v", m, b, err)
	}
	return b
}

// encodedAs checks a message's bytes, both ways, by their hexadecimal digits, behind which are bytes 0.
func encodedAs(t *testing.T, digits string, m api.Msg) {
	t.Helper()
	digits = strings.ReplaceAll(digits, " ", "")
	want, err := hex.DecodeString(digits + strings.Repeat("0", 176-len(digits)))
	if err != nil {
		t.Fatal(err)
	}
	if b := encode(t, m); !slices.Equal(b, want) {
		t.Errorf("Encode(%+v): %x, not %x", m, b, want)
	}
	if back := decode(t, want); back != m {
		t.Errorf("Decode(%x): %+v, not %+v", want, back, m)
	}
}

func TestBytesOfEachKind(t *testing.T) {
	encodedAs(t, "01 00 02 00012345 00054321 03 0e 04 00", api.Msg{Kind: api.KLock, To: 2, Tx: 0x12345, Seq: 0x54321, At: api.Res{Table: 3, Row: 14}, Mode: api.X})
	encodedAs(t, "02 40 00 00100000 00100000 fa fa 01 00", api.Msg{Kind: api.KGranted, From: 64, Tx: 1048576, Seq: 1048576, At: api.Res{Table: 250, Row: 250}, Mode: api.IS})
	encodedAs(t, "03 05 00 00000007 00000100 00 00 00 0f", api.Msg{Kind: api.KRefused, From: 5, Tx: 7, Seq: 256, Code: 15})
	encodedAs(t, "04 00 02 00000007", api.Msg{Kind: api.KPrepare, To: 2, Tx: 7})
	encodedAs(t, "05 01 00 000000ff 00000000 00 00 00 01", api.Msg{Kind: api.KVote, From: 1, Tx: 255, Code: 1})
	encodedAs(t, "05 01 00 000000ff", api.Msg{Kind: api.KVote, From: 1, Tx: 255})
	encodedAs(t, "06 00 40 00010000 00000000 00 00 00 01", api.Msg{Kind: api.KDecide, To: 64, Tx: 65536, Code: 1})
	encodedAs(t, "07 03 00 00000001", api.Msg{Kind: api.KAck, From: 3, Tx: 1})
	encodedAs(t, "08 00 03 00000001", api.Msg{Kind: api.KRenew, To: 3, Tx: 1})
	encodedAs(t, "09 03 00 00000001", api.Msg{Kind: api.KExpired, From: 3, Tx: 1})
	encodedAs(t, "0a 03 00 00100000 00000000 00 00 00 00 000fffff", api.Msg{Kind: api.KWound, From: 3, Tx: 1048576, Next: 1048575})
}

func TestBytesOfProbes(t *testing.T) {
	m := api.Msg{Kind: api.KProbe, From: 6, Next: 0x10203, NextSeq: 0x40506, N: 1}
	m.Path[0] = api.Step{Tx: 0x70809, Seq: 0xa0b0c}
	encodedAs(t, "0b 06 00 00000000 00000000 00 00 00 00 00010203 00040506 01 00070809 000a0b0c", m)
	encodedAs(t, "0b 00 06 00000000 00000000 00 00 00 00 00010203 00040506 01 00070809 000a0b0c", check.Down(m))
	m.N, m.NextSeq = 8, 0
	for i := range m.Path {
		m.Path[i] = api.Step{Tx: 16*i + 1, Seq: 16*i + 2}
	}
	encodedAs(t, "0b 06 00 00000000 00000000 00 00 00 00 00010203 00000000 08"+
		"00000001 00000002 00000011 00000012 00000021 00000022 00000031 00000032"+
		"00000041 00000042 00000051 00000052 00000061 00000062 00000071 00000072", m)
}

func TestEncodeAnswersNewMemory(t *testing.T) {
	for _, m := range check.Messages() {
		a, b := encode(t, m), encode(t, m)
		want := slices.Clone(b)
		for i := range a {
			a[i] = 200
		}
		_ = append(a, 201, 202)
		if !slices.Equal(b, want) || !slices.Equal(encode(t, m), want) {
			t.Errorf("two answers of Encode(%+v) are one", m)
		}
	}
}

// P4.2

// decode answers the message of bytes that are one's.
func decode(t *testing.T, b []byte) api.Msg {
	t.Helper()
	m, err := msg.Decode(b)
	if err != nil {
		t.Fatalf("Decode(%x): %v", b, err)
	}
	return m
}

// notDecoded checks that bytes are no message's, for that reason.
func notDecoded(t *testing.T, b []byte, want api.Errno) {
	t.Helper()
	if m, err := msg.Decode(b); m != (api.Msg{}) || !check.Plain(err, want) {
		t.Errorf("Decode(%x): %+v, %v, not %v", b, m, err, want)
	}
}

func TestDecodeOfTooFewAndTooMany(t *testing.T) {
	wrong := make([]byte, 88)
	for _, m := range check.Messages() {
		for _, whole := range [][]byte{encode(t, m), wrong, slices.Repeat([]byte{255}, 88)} { // ahead of ErrForm
			for size := range 88 {
				notDecoded(t, whole[:size], api.ErrShort)
				notDecoded(t, slices.Clip(slices.Clone(whole[:size])), api.ErrShort)
			}
			for more := 1; more <= 100; more++ {
				notDecoded(t, append(slices.Clone(whole), make([]byte, more)...), api.ErrMore)
			}
			notDecoded(t, append(slices.Clone(whole), whole...), api.ErrMore)
		}
	}
	notDecoded(t, nil, api.ErrShort)
	notDecoded(t, []byte{}, api.ErrShort)
	notDecoded(t, make([]byte, 1<<20), api.ErrMore)
}

func TestDecodeOfNoMessages(t *testing.T) {
	for n := range 256 {
		notDecoded(t, slices.Repeat([]byte{byte(n)}, 88), api.ErrForm)
		b := make([]byte, 88)
		b[0] = byte(n)
		notDecoded(t, b, api.ErrForm)
	}
}

// taken are the numbers that stand in bytes, by the document's words.
func taken(b []byte) api.Msg {
	var m api.Msg
	for _, f := range fields {
		n := 0
		for _, one := range b[:f.width] {
			n = 256*n + int(one)
		}
		*f.of(&m), b = n, b[f.width:]
	}
	return m
}

func TestDecodeWithAnyByteInEachPlace(t *testing.T) {
	var refused, other [88]bool
	for _, one := range check.Messages() {
		b := encode(t, one)
		for place, was := range b {
			for n := range 256 {
				b[place] = byte(n)
				m := taken(b)
				if !mayBe(m) {
					notDecoded(t, b, api.ErrForm)
					refused[place] = true
					continue
				}
				if got := decode(t, b); got != m {
					t.Fatalf("Decode(%x): %+v, not %+v", b, got, m)
				}
				if back := encode(t, m); !slices.Equal(back, b) {
					t.Fatalf("Encode(%+v): %x, not %x", m, back, b)
				}
				other[place] = other[place] || n != int(was)
			}
			b[place] = was
		}
	}
	for place := range refused {
		if !refused[place] {
			t.Error("no byte was refused at", place)
		}
	}
	if !other[0] || !other[1] || !other[2] || !other[6] || !other[87] {
		t.Error("no other byte was taken at some places:", other)
	}
}

func TestDecodeOfBytesBeyondWhatMayBe(t *testing.T) {
	offset := 0
	for _, f := range fields {
		for _, m := range check.Messages() {
			b := encode(t, m)
			b[offset] = 255 // the highest byte: by it each number is more than it may be
			notDecoded(t, b, api.ErrForm)
		}
		offset += f.width
	}
	if offset != 88 {
		t.Error("bytes:", offset)
	}
}

func TestDecodeChangesNothingAndKeepsNothing(t *testing.T) {
	for _, m := range check.Messages() {
		room := append(encode(t, m), 1, 2, 3, 4)
		want := slices.Clone(room)
		got := decode(t, room[:88])
		if !slices.Equal(room, want) {
			t.Errorf("Decode changed what it was given: %x", room)
		}
		clear(room)
		if got != m {
			t.Errorf("Decode: %+v, not %+v", got, m)
		}
		notDecoded(t, room[:88], api.ErrForm)
	}
}

// P4.3

func TestNameOfEachKind(t *testing.T) {
	for kind, want := range map[int]string{
		api.KLock: "lock", api.KGranted: "granted", api.KRefused: "refused", api.KPrepare: "prepare",
		api.KVote: "vote", api.KDecide: "decide", api.KAck: "ack", api.KRenew: "renew",
		api.KExpired: "expired", api.KWound: "wound", api.KProbe: "probe",
	} {
		if name, ok := msg.Name(kind); name != want || !ok {
			t.Errorf("Name(%d): %q, %v, not %q", kind, name, ok, want)
		}
	}
	for _, k := range kinds {
		if name, ok := msg.Name(k.kind); name != k.name || !ok {
			t.Errorf("Name(%d): %q, %v, not %q", k.kind, name, ok, k.name)
		}
	}
}

func TestNameOfNoKinds(t *testing.T) {
	for _, kind := range append(check.FarFrom(1, 11), 0, -1, 12) {
		if name, ok := msg.Name(kind); name != "" || ok {
			t.Errorf("Name(%d): %q, %v", kind, name, ok)
		}
	}
}

// P4.4

func TestWhatWasEncodedIsDecoded(t *testing.T) {
	count := 0
	eachNear(func(m api.Msg) {
		if !mayBe(m) {
			return
		}
		count++
		if got := decode(t, encode(t, m)); got != m {
			t.Fatalf("%+v came back as %+v", m, got)
		}
	})
	if count < 10000 {
		t.Error("messages:", count)
	}
}

func TestWhatWasDecodedIsEncoded(t *testing.T) {
	count := 0
	for _, one := range check.Messages() {
		b := encode(t, one)
		for i, x := range b {
			for j, y := range b[:i] { // any two bytes are others, or themselves
				for _, n := range []byte{x, 0, 1, 15} {
					for _, o := range []byte{y, 0, 2} {
						b[i], b[j] = n, o
						m, err := msg.Decode(b)
						if err != nil {
							continue
						}
						count++
						if back := encode(t, m); !slices.Equal(back, b) {
							t.Fatalf("%x came back as %x", b, back)
						}
					}
				}
				b[i], b[j] = x, y
			}
		}
	}
	if count < 10000 {
		t.Error("messages:", count)
	}
}

// The document's example.

func TestExample(t *testing.T) {
	b := encode(t, api.Msg{Kind: api.KPrepare, To: 2, Tx: 7})
	if !slices.Equal(b, append([]byte{4, 0, 2, 0, 0, 0, 7}, make([]byte, 81)...)) {
		t.Errorf("%x", b)
	}
}
