package mirror

import (
	"fmt"
	"maps"
	"math"
	"math/rand"
	"slices"
	"testing"

	"seisin/api"
)

// model is what a sender has to be: its items by their numbers, from first to last, and up to which number all were taken.
type model struct {
	items             map[int64]api.Item
	first, acked, end int64 // the items are numbered from first on, and up to end - 1
}

// newModel makes what a sender of a base has to be.
func newModel(base int64) *model {
	base = min(max(base, 0), 1<<62)
	return &model{items: map[int64]api.Item{}, first: base + 1, acked: base, end: base + 1}
}

// add tells what an Add tells.
func (m *model) add(x api.Item) (int64, api.Errno) {
	if m.end == 1<<62+1 {
		return 0, 23
	}
	x.Seq = m.end
	m.items[m.end] = x
	m.end++
	return x.Seq, 0
}

// ack tells what an Ack tells.
func (m *model) ack(seq int64) bool {
	if _, ok := m.items[seq]; !ok || seq <= m.acked {
		return false
	}
	m.acked = seq
	return true
}

// left tells the items that weren't taken.
func (m *model) left() []api.Item {
	var l []api.Item
	for _, k := range slices.Sorted(maps.Keys(m.items)) {
		if k > m.acked {
			l = append(l, m.items[k])
		}
	}
	return l
}

// wantSame holds a sender against what it has to be.
func wantSame(t testing.TB, what string, s *Sender, m *model) {
	t.Helper()
	if s.Last() != m.end-1 {
		t.Errorf("%s: Last %d, not %d", what, s.Last(), m.end-1)
	}
	checks(t, what, s, m.acked, m.left()...)
}

// goOn lets an item be added, or a number be acked, to both alike.
func goOn(t testing.TB, r *rand.Rand, s *Sender, m *model) {
	t.Helper()
	if r.Intn(2) == 0 {
		x := api.Item{Seq: r.Int63(), Block: r.Intn(40) - 2, Data: fmt.Sprint(r.Intn(100)), Client: r.Intn(6) - 1, N: r.Int63n(9)}
		n, e := s.Add(x)
		if w, we := m.add(x); n != w || e != we {
			t.Errorf("Add: %d, %d, not %d, %d", n, e, w, we)
		}
		return
	}
	seq := m.acked + r.Int63n(9) - 2
	switch r.Intn(12) {
	case 0:
		seq = int64(r.Uint64())
	case 1:
		seq = m.end - 1 + r.Int63n(3) - 1
	}
	if ok, w := s.Ack(seq), m.ack(seq); ok != w {
		t.Errorf("Ack(%d): %v (Acked %d, Last %d)", seq, ok, s.Acked(), s.Last())
	}
}

// P15.1: random rows of calls, from any base, held against the model.
func TestRandomRows(t *testing.T) {
	r := rand.New(rand.NewSource(1))
	for _, base := range []int64{math.MinInt64, -1, 0, 1, 5, 1 << 32, api.MaxNumber - 150, api.MaxNumber - 20, api.MaxNumber - 2, api.MaxNumber, api.MaxNumber + 1, math.MaxInt64} {
		for range 20 {
			s, m := New(base), newModel(base)
			for k := range 200 {
				goOn(t, r, s, m)
				wantSame(t, fmt.Sprint("from ", base, ", call ", k), s, m)
				if t.Failed() {
					return
				}
			}
		}
	}
}

// sent is an item under way, with the epoch in which it was sent; of an answer, the receiver's last version.
type sent struct {
	epoch int64
	item  api.Item
}

// line is a sender and a receiver, and what is under way between them.
type line struct {
	t        testing.TB
	epoch    int64
	s        *Sender
	last     api.Version // the receiver's
	there    []sent      // items under way
	back     []sent      // answers under way
	added    map[int64][]api.Item
	taken    map[int64][]api.Item
	lastSeen api.Version
}

// newLine makes a line whose receiver stands where its sender begins.
func newLine(t testing.TB, epoch, base int64) *line {
	last := api.Version{Epoch: epoch, Seq: base}
	return &line{t: t, epoch: epoch, s: New(base), last: last, lastSeen: last, added: map[int64][]api.Item{}, taken: map[int64][]api.Item{}}
}

// add adds an item, by whose N it is known.
func (l *line) add() {
	x := api.Item{Block: len(l.added[l.epoch]) % api.MaxBlocks, N: l.epoch<<32 + int64(len(l.added[l.epoch]))}
	if seq, e := l.s.Add(x); e == api.OK {
		l.added[l.epoch] = append(l.added[l.epoch], numbered(x, seq))
	}
}

// send sends one of the items that are left, if there are any.
func (l *line) send(i int) {
	if left := l.s.Left(); len(left) > 0 {
		l.there = append(l.there, sent{l.epoch, left[place(i, len(left))]})
	}
}

// comes lets an item under way come, and be answered; it stays under way, if it is to come twice.
func (l *line) comes(i int, twice bool) {
	if len(l.there) == 0 {
		return
	}
	i = place(i, len(l.there))
	x := l.there[i]
	if !twice {
		l.there = slices.Delete(l.there, i, i+1)
	}
	switch Next(l.last, x.epoch, x.item.Seq) {
	case Take:
		l.last = api.Version{Epoch: x.epoch, Seq: x.item.Seq}
		l.taken[x.epoch] = append(l.taken[x.epoch], x.item)
	case Nothing:
		return
	}
	l.back = append(l.back, sent{l.last.Epoch, api.Item{Seq: l.last.Seq}})
}

// heard lets an answer come; it stays under way, if it is to come twice.
func (l *line) heard(i int, twice bool) {
	if len(l.back) == 0 {
		return
	}
	i = place(i, len(l.back))
	x := l.back[i]
	if !twice {
		l.back = slices.Delete(l.back, i, i+1)
	}
	if x.epoch == l.epoch {
		l.s.Ack(x.item.Seq)
	}
}

// anew lets there be another sender, of the next epoch, in the place of the one that there was.
func (l *line) anew() {
	l.epoch++
	l.s = New(0)
}

// check checks that of each epoch's items the first ones were taken, once each, in order, that none was taken behind a later epoch's, and that what was acked was taken.
func (l *line) check(what string) {
	l.t.Helper()
	for epoch, taken := range l.taken {
		if added := l.added[epoch]; len(taken) > len(added) || !slices.Equal(taken, added[:len(taken)]) {
			l.t.Errorf("%s: taken of epoch %d: %v, not the first of %v", what, epoch, taken, added)
		}
	}
	if l.last.Epoch < l.lastSeen.Epoch || l.last.Epoch == l.lastSeen.Epoch && l.last.Seq < l.lastSeen.Seq {
		l.t.Errorf("%s: the receiver goes back from %v to %v", what, l.lastSeen, l.last)
	}
	l.lastSeen = l.last
	for _, x := range l.added[l.epoch] {
		if x.Seq <= l.s.Acked() && !slices.Contains(l.taken[l.epoch], x) {
			l.t.Errorf("%s: acked up to %d, but %v wasn't taken", what, l.s.Acked(), x)
		}
	}
}

// finish sends what is left again and again till it is acked, and checks that all of it was taken.
func (l *line) finish(what string) {
	l.t.Helper()
	for range len(l.s.Left()) + 1 {
		for i := range l.s.Left() {
			l.send(i)
		}
		for len(l.there) > 0 {
			l.comes(0, false)
		}
		for len(l.back) > 0 {
			l.heard(0, false)
		}
	}
	l.check(what)
	checks(l.t, what, l.s, l.s.Last())
	if !slices.Equal(l.taken[l.epoch], l.added[l.epoch]) {
		l.t.Errorf("%s: in the end %d were taken, of %d", what, len(l.taken[l.epoch]), len(l.added[l.epoch]))
	}
}

// place tells which of so many a number means.
func place(i, many int) int {
	return (i%many + many) % many
}

// step lets one of eleven things happen on a line.
func (l *line) step(what, i int) {
	switch what {
	case 0, 1:
		l.add()
	case 2:
		l.send(0)
	case 3:
		l.send(i)
	case 4:
		l.comes(0, false)
	case 5:
		l.comes(i, false)
	case 6:
		l.comes(i, true)
	case 7:
		l.heard(i, false)
	case 8:
		l.heard(i, true)
	case 9: // an item is lost
		if len(l.there) > 0 {
			k := place(i, len(l.there))
			l.there = slices.Delete(l.there, k, k+1)
		}
	case 10: // an answer is lost
		if len(l.back) > 0 {
			k := place(i, len(l.back))
			l.back = slices.Delete(l.back, k, k+1)
		}
	}
}

// P15.3: all short rows of a few things that happen, behind two items that were sent, the second one first.
func TestShortRows(t *testing.T) {
	const things, most = 9, 5
	do := func(l *line, k int) {
		switch k {
		case 0:
			l.add()
		case 1:
			l.send(0)
		case 2:
			l.send(-1)
		case 3:
			l.comes(0, false)
		case 4:
			l.comes(-1, false)
		case 5:
			l.comes(0, true)
		case 6:
			l.heard(0, false)
		case 7:
			l.heard(-1, true)
		case 8:
			l.anew()
		}
	}
	rows := 1
	for range most {
		rows *= things
	}
	for row := range rows {
		l := newLine(t, 1, 0)
		for _, k := range []int{0, 0, 2, 1} {
			do(l, k)
		}
		what := "row "
		for k, rest := 0, row; k < most; k, rest = k+1, rest/things {
			do(l, rest%things)
			what += fmt.Sprint(rest % things)
			l.check(what)
		}
		l.finish(what)
		if t.Failed() {
			return
		}
	}
}

// P15.3: long random rows, with items and answers that are lost, come twice, and are turned round; and, now and then, a sender of a later epoch.
func TestLongRows(t *testing.T) {
	for seed := range int64(300) {
		r := rand.New(rand.NewSource(seed))
		l := newLine(t, 1+r.Int63n(3), r.Int63n(2)*r.Int63n(50))
		for k := range 200 {
			l.step(r.Intn(11), r.Intn(1000))
			if seed%2 == 0 && r.Intn(40) == 0 {
				l.anew()
			}
			l.check(fmt.Sprintf("seed %d, step %d", seed, k))
			if t.Failed() {
				return
			}
		}
		l.finish(fmt.Sprintf("seed %d", seed))
	}
}

// P15.3: at the last numbers, too.
func TestLastNumbers(t *testing.T) {
	for seed := range int64(50) {
		r := rand.New(rand.NewSource(seed))
		l := newLine(t, api.MaxNumber-1, api.MaxNumber-r.Int63n(6))
		for range 100 {
			l.step(r.Intn(11), r.Intn(1000))
			l.check(fmt.Sprintf("seed %d", seed))
		}
		l.finish(fmt.Sprintf("seed %d", seed))
		l.anew()
		for range 60 {
			l.step(r.Intn(11), r.Intn(1000))
			l.check(fmt.Sprintf("seed %d, behind it", seed))
		}
		l.finish(fmt.Sprintf("seed %d, behind it", seed))
	}
}

// FuzzMirror goes by any row of what happens: of each two bytes the first one tells the thing, the second one of which.
func FuzzMirror(f *testing.F) {
	f.Add([]byte("\x00a\x00b\x03\x01\x03\x00\x06\x01\x05\x00\x07\x00"), int64(1), int64(0))
	f.Add([]byte("\x00a\x02\x00\x0b\x00\x00a\x02\x00\x05\x01\x05\x00\x08\x00\x07\x01"), int64(3), int64(7))
	f.Fuzz(func(t *testing.T, b []byte, epoch, seq int64) {
		l := newLine(t, epoch&0xffff, seq&0xff)
		for k := 0; k+1 < min(len(b), 400); k += 2 {
			if what := int(b[k] % 12); what < 11 {
				l.step(what, int(b[k+1]))
			} else {
				l.anew()
			}
			l.check(fmt.Sprint("step ", k/2))
		}
		l.finish("afterwards")
		for _, last := range []api.Version{{}, {Epoch: epoch, Seq: seq}, {Epoch: epoch, Seq: seq - 1}, {Epoch: epoch - 1, Seq: seq}, l.last} {
			wantNext(t, last, epoch, seq, nextOf(last, epoch, seq))
		}
	})
}
