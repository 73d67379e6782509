package memo_test

import (
	"fmt"
	"maps"
	"slices"
	"testing"

	"catchbolt/api"
	"catchbolt/check"
	"catchbolt/memo"
)

// move is what is done to a book: a request that comes; or, of seq 0, that the transaction is forgotten; or an answer, if it is one.
type move struct {
	tx, seq int
	answer  api.Msg
}

// isAnswer says whether a move is an answer.
func (d move) isAnswer() bool { return d.answer != api.Msg{} }

// moves are all requests of those transactions and numbers, with two answers to each, and that each is forgotten.
func moves(txs, seqs []int) []move {
	var all []move
	for _, tx := range txs {
		all = append(all, move{tx: tx})
		for _, seq := range seqs {
			all = append(all, move{tx: tx, seq: seq}, move{answer: granted(tx, seq)}, move{answer: refused(tx, seq, 9)})
		}
	}
	return all
}

// asked is a request that came, and its answer, if it has one.
type asked struct {
	seq    int
	answer api.Msg
}

// record is a book as the document tells it: of each transaction all requests that were opened since it was forgotten, one behind the other.
type record map[int][]asked

// open is a request that comes; OK is no error.
func (r record) open(tx, seq int) (api.Msg, api.Errno) {
	l := r[tx]
	if slices.ContainsFunc(l, func(a asked) bool { return a.seq > seq }) {
		return api.Msg{}, api.ErrStale
	}
	for _, a := range l {
		if a.seq == seq && a.answer != (api.Msg{}) {
			return a.answer, api.ErrDone
		}
		if a.seq == seq {
			return api.Msg{}, api.ErrBusy
		}
	}
	r[tx] = append(l, asked{seq: seq})
	return api.Msg{}, api.OK
}

// close is an answer.
func (r record) close(m api.Msg) api.Errno {
	if len(r[m.Tx]) == 0 {
		return api.ErrNone
	}
	last := &r[m.Tx][len(r[m.Tx])-1]
	switch {
	case last.seq != m.Seq:
		return api.ErrStale
	case last.answer != (api.Msg{}):
		return api.ErrDone
	}
	last.answer = m
	return api.OK
}

// forget forgets a transaction's.
func (r record) forget(tx int) api.Errno {
	if len(r[tx]) == 0 {
		return api.ErrNone
	}
	delete(r, tx)
	return api.OK
}

// do does a move to a record alone: what it tells.
func (r record) do(d move) (api.Msg, api.Errno) {
	switch {
	case d.isAnswer():
		return api.Msg{}, r.close(d.answer)
	case d.seq == 0:
		return api.Msg{}, r.forget(d.tx)
	}
	return r.open(d.tx, d.seq)
}

// state is what each transaction's last request is, as a text.
func (r record) state() string {
	text := ""
	for _, tx := range slices.Sorted(maps.Keys(r)) {
		text += fmt.Sprint(tx, r[tx][len(r[tx])-1], ";")
	}
	return text
}

// told does a move to a book.
func told(b *memo.Book, d move) (api.Msg, error) {
	switch {
	case d.isAnswer():
		return api.Msg{}, b.Close(d.answer)
	case d.seq == 0:
		return api.Msg{}, b.Forget(d.tx)
	}
	return b.Open(d.tx, d.seq)
}

// both does a move to a record and to a book, and checks that both tell the same.
func (r record) both(t *testing.T, b *memo.Book, d move) {
	t.Helper()
	want, how := r.do(d)
	got, err := told(b, d)
	if got != want || how == api.OK && err != nil || how != api.OK && !check.Plain(err, how) {
		t.Errorf("%+v tells %v, %v, want %v, %v, of %s", d, got, err, want, how, r.state())
	}
}

// same checks that a book has what a record has, and nothing of those others. To open each last request once more changes nothing.
func (r record) same(t *testing.T, b *memo.Book, others ...int) {
	t.Helper()
	all(t, b, slices.Sorted(maps.Keys(r))...)
	for tx, l := range r {
		last := l[len(l)-1]
		isLast(t, b, tx, last.seq)
		r.both(t, b, move{tx: tx, seq: last.seq})
	}
	for _, tx := range others {
		if seq, err := b.Last(tx); len(r[tx]) == 0 && (seq != 0 || !check.Plain(err, api.ErrNone)) {
			t.Errorf("Last(%d) = %d, %v, of %s", tx, seq, err, r.state())
		}
	}
}

// eachState calls f with moves of a list by which each state comes about to which these can bring a book.
func eachState(all []move, f func(ahead []move)) int {
	seen := map[string]bool{}
	next := [][]move{nil}
	for len(next) > 0 {
		ahead, r := next[0], record{}
		next = next[1:]
		for _, d := range ahead {
			r.do(d)
		}
		if seen[r.state()] {
			continue
		}
		seen[r.state()] = true
		f(ahead)
		for _, d := range all {
			next = append(next, append(slices.Clone(ahead), d))
		}
	}
	return len(seen)
}

// P13.1 to P13.3, by what both tell.

func TestEachMoveFromEachState(t *testing.T) {
	txs := []int{7, 1048576}
	every := moves(txs, []int{1, 2, 1048576})
	states := eachState(every, func(ahead []move) {
		for _, d := range every {
			b, r := memo.New(), record{}
			for _, one := range append(slices.Clone(ahead), d) {
				r.both(t, b, one)
			}
			r.same(t, b, append(txs, 1, 6, 8)...)
			check.Stop(t)
		}
	})
	if states != 100 { // of each of both: none, or each of three numbers with none and each of both answers
		t.Errorf("%d states", states)
	}
}

func TestRunsAgainstARecord(t *testing.T) {
	for _, q := range []struct{ txs, seqs, forgets int }{
		{1, 3, 5}, {2, 5, 10}, {5, 20, 50}, {30, 4, 8}, {200, 1000, 30}, {1048576, 1048576, 10},
	} {
		b, r, by := memo.New(), record{}, uint64(q.txs)
		for range 1000 {
			d := picked(&by, q.txs, q.seqs, q.forgets)
			r.both(t, b, d)
			r.same(t, b, d.tx, d.answer.Tx)
			check.Stop(t)
		}
	}
}

// picked is a move by chance, of transactions and numbers up to those; in so many moves one is forgotten about once.
func picked(by *uint64, txs, seqs, forgets int) move {
	tx, seq := 1+check.Next(by)%txs, 1+check.Next(by)%seqs
	if check.Next(by)%forgets == 0 {
		return move{tx: tx}
	}
	switch check.Next(by) % 4 {
	case 0:
		return move{answer: granted(tx, seq)}
	case 1:
		return move{answer: refused(tx, seq, 1+check.Next(by)%15)}
	}
	return move{tx: tx, seq: seq}
}

// P13.4

// seen is what a book told since each transaction was forgotten: which requests are new, rising, and which answer each took.
type seen struct {
	opened map[int][]int
	took   map[api.Step]api.Msg
}

// none has seen nothing.
func none() *seen { return &seen{opened: map[int][]int{}, took: map[api.Step]api.Msg{}} }

// last is the last request of a transaction that was new, or 0.
func (s *seen) last(tx int) int { return slices.Max(append([]int{0}, s.opened[tx]...)) }

// open checks what a book tells of a request: it is new, if and only if neither it nor a later one was; and an answer is the one that it took.
func (s *seen) open(t *testing.T, tx, seq int, m api.Msg, err error) {
	t.Helper()
	isNew := seq > s.last(tx)
	if (err == nil) != isNew {
		t.Errorf("Open(%d, %d) = %v, behind %v", tx, seq, err, s.opened[tx])
	}
	if isNew {
		s.opened[tx] = append(s.opened[tx], seq)
	}
	want := api.Msg{}
	if seq == s.last(tx) {
		want = s.took[api.Step{Tx: tx, Seq: seq}]
	}
	if m != want {
		t.Errorf("Open(%d, %d) = %v, want %v", tx, seq, m, want)
	}
}

// close checks what a book tells of an answer: it is taken, if and only if its request is the last one that was new, and took none.
func (s *seen) close(t *testing.T, m api.Msg, err error) {
	t.Helper()
	step := api.Step{Tx: m.Tx, Seq: m.Seq}
	takes := m.Seq == s.last(m.Tx) && s.took[step] == api.Msg{}
	if (err == nil) != takes {
		t.Errorf("Close(%v) = %v, behind %v", m, err, s.took[step])
	}
	if takes {
		s.took[step] = m
	}
}

// forget is that a transaction is forgotten.
func (s *seen) forget(tx int) {
	delete(s.opened, tx)
	maps.DeleteFunc(s.took, func(step api.Step, _ api.Msg) bool { return step.Tx == tx })
}

// run does moves to a new book, one behind the other, and checks P13.4.
func run(t *testing.T, all []move) {
	t.Helper()
	b, s := memo.New(), none()
	for _, d := range all {
		m, err := told(b, d)
		switch {
		case d.isAnswer():
			s.close(t, d.answer, err)
		case d.seq == 0:
			s.forget(d.tx)
		default:
			s.open(t, d.tx, d.seq, m, err)
		}
	}
	check.Stop(t)
}

func TestEachRunOfOneIsOpenedAndAnsweredOnce(t *testing.T) {
	all := moves([]int{7}, []int{1, 2})
	runs := 1
	for range 6 {
		runs *= len(all)
	}
	for n := range runs {
		var these []move
		for range 6 {
			these = append(these, all[n%len(all)])
			n /= len(all)
		}
		run(t, these)
	}
}

func TestEachOrderIsOpenedAndAnsweredOnce(t *testing.T) {
	by := uint64(134)
	for range 2000 {
		var all []move
		for _, d := range moves([]int{1, 7, 8}, []int{1, 2, 3, 4}) {
			for range 1 + check.Next(&by)%4 { // each comes as often as it likes
				all = append(all, d)
			}
		}
		check.Mix(all, &by)
		run(t, all)
	}
}

func TestWithoutAForgetEachIsOpenedOnce(t *testing.T) {
	by := uint64(31)
	for range 200 {
		b, s := memo.New(), none()
		times := map[api.Step]int{}
		for range 200 {
			tx, seq := 1+check.Next(&by)%5, 1+check.Next(&by)%8
			m, err := b.Open(tx, seq)
			s.open(t, tx, seq, m, err)
			if err == nil {
				times[api.Step{Tx: tx, Seq: seq}]++
			}
			answer := refused(tx, 1+check.Next(&by)%8, 1+check.Next(&by)%15)
			s.close(t, answer, b.Close(answer))
		}
		for step, many := range times {
			if many != 1 {
				t.Errorf("%v is opened %d times", step, many)
			}
		}
		check.Stop(t)
	}
}
