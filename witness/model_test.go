package witness

import (
	"fmt"
	"math/rand"
	"testing"

	"seisin/api"
	"seisin/sector"
)

// facts are what the cell of a witness says, and how often it was put.
type facts struct {
	epoch  int64
	holder int
	mask   int
	change int64
	gen    int64
}

// fresh tells the facts of a new device.
func fresh() facts {
	return facts{holder: -1, mask: 3}
}

// model is a witness told another way, each act of whose device is counted.
type model struct {
	is       facts
	wait     int64
	left     int64
	fuse     int   // below 0: there is none
	underWay facts // what else may be there behind a crash
}

// inMask tells whether a node is in a mask.
func inMask(node int, mask int64) bool {
	return mask == 3 || mask == 1 && node == 0 || mask == 2 && node == 1
}

// put lets facts come by a cell's Put, if that has not come to its last generation.
func (m *model) put(next facts) api.Errno {
	if m.is.gen == 1<<62 {
		return api.ErrSeq
	}
	next.gen = m.is.gen + 1
	for range 2 { // a write, and a barrier
		if m.fuse == 0 {
			return api.ErrDown
		}
		m.fuse--
		m.underWay = next
	}
	m.is = next
	return api.OK
}

// ask is what comes of an MsgAsk.
func (m *model) ask(from int, q api.Msg) api.Errno {
	if !inMask(from, int64(m.is.mask)) {
		return api.ErrPrimary
	}
	if from == m.is.holder {
		if q.Seq == 0 && q.Epoch == m.is.epoch {
			m.left = m.wait
			return api.OK
		}
	} else if m.left > 0 {
		return api.ErrBusy
	}
	if m.is.epoch == 1<<62 {
		return api.ErrEpoch
	}
	e := m.put(facts{epoch: m.is.epoch + 1, holder: from, mask: m.is.mask})
	if e == api.OK {
		m.left = m.wait
	}
	return e
}

// doubt tells whether the device died when it was to say that another node is granted an epoch, and may say so behind a crash. Who holds the elder one is granted it for longer by then (P14.3, case 2), and the other one needn't wait for that behind the crash.
func (m *model) doubt() bool {
	return m.underWay.epoch > m.is.epoch && m.underWay.holder != m.is.holder
}

// change is what comes of an MsgChange.
func (m *model) change(from int, q api.Msg) api.Errno {
	if from != m.is.holder {
		return api.ErrPrimary
	}
	if q.Epoch != m.is.epoch {
		return api.ErrPrimary
	}
	if !inMask(from, q.Seq) {
		return api.ErrArg
	}
	if q.N > m.is.change {
		next := m.is
		next.mask, next.change = int(q.Seq), q.N
		return m.put(next)
	}
	return api.OK
}

// lost is what comes of an MsgLost.
func (m *model) lost(from int) api.Errno {
	next := m.is
	next.holder = -1
	if m.is.mask == 3 {
		next.mask = 2 - from
	}
	return m.put(next)
}

// take is Take of a message that may be, of one of the three kinds, from a node.
func (m *model) take(from int, q api.Msg) (api.Msg, bool) {
	a := api.Msg{Kind: q.Kind, N: q.N, Block: -1}
	if q.Kind == 1 {
		a.Kind = 2
		a.E = m.ask(from, q)
	} else if q.Kind == 3 {
		a.E = m.change(from, q)
	} else {
		a.E = m.lost(from)
	}
	if a.E == api.ErrDown {
		return api.Msg{}, false
	}
	a.Epoch, a.Seq, a.Client = m.is.epoch, int64(m.is.mask), m.is.holder
	return a, true
}

// tick is one tick.
func (m *model) tick() {
	if m.left > 0 {
		m.left--
	}
}

// crash lets the power go and come again, and tells the witness that is there then: as it was, or with what was under way.
func (m *model) crash(t *testing.T, what string, d *sector.Dev, keep []sector.Keep) *Server {
	t.Helper()
	d.Crash(keep)
	s := opened(t, d, m.wait)
	if says(s) == m.underWay.said(m.wait) && m.underWay.gen != m.is.gen && gen(t, d) == m.underWay.gen {
		m.is = m.underWay
	}
	m.left, m.fuse, m.underWay = m.wait, -1, m.is
	checks(t, what, s, d, m.is, m.left)
	return s
}

// someMessage tells a message by chance, most often such as does something.
func someMessage(r *rand.Rand, is facts) api.Msg {
	q := api.Msg{Kind: []int{1, 1, 1, 3, 3, 4}[r.Intn(6)], Epoch: is.epoch, Client: -1, Block: -1, N: is.change + int64(r.Intn(4)-1)}
	if r.Intn(5) == 0 {
		q.Epoch = max(0, q.Epoch+int64(r.Intn(3)-1))
	}
	if q.Kind == 1 && r.Intn(4) == 0 || q.Kind == 3 {
		q.Seq = int64(r.Intn(5))
	}
	if r.Intn(20) == 0 {
		q.E, q.Block, q.Client, q.Data, q.Row, q.T[r.Intn(4)] = api.Errno(r.Intn(32)), r.Intn(32), r.Intn(4), "data", "row", 9
	}
	return q
}

// someKeep tells what a crash keeps, by chance.
func someKeep(r *rand.Rand) []sector.Keep {
	return []sector.Keep{{How: r.Intn(3), N: r.Intn(api.SectorSize)}}[:r.Intn(2)]
}

// granted checks what is granted: each epoch to one node alone, another node's only when a time as long as is waited has gone since the last grant. (One for longer that the model doubts isn't counted.)
type granted struct {
	to    map[int64]int // by epoch
	last  int           // the node
	ticks int64         // that have gone since
}

// grant checks an answer.
func (g *granted) grant(t *testing.T, what string, from int, a api.Msg, ok bool, m *model) {
	t.Helper()
	if !ok || a.Kind != api.MsgGrant || a.E != api.OK {
		return
	}
	if who, is := g.to[a.Epoch]; is && who != from || a.Client != from {
		t.Errorf("%s: epoch %d was granted to %d, and is to %d: %+v", what, a.Epoch, who, from, a)
	}
	if len(g.to) > 0 && g.last != from && g.ticks < m.wait {
		t.Errorf("%s: epoch %d is granted to %d, %d ticks behind a grant to %d", what, a.Epoch, from, g.ticks, g.last)
	}
	for epoch := range g.to {
		if epoch > a.Epoch {
			t.Errorf("%s: epoch %d was granted ahead of %d", what, epoch, a.Epoch)
		}
	}
	g.to[a.Epoch] = from
	if !m.doubt() {
		g.last, g.ticks = from, 0
	}
}

// P14.1 to P14.5: long rows of messages, with ticks, deaths and crashes in between, are answered as the model answers them, and what follows holds.
func TestRows(t *testing.T) {
	for seed := range int64(1500) {
		r := rand.New(rand.NewSource(seed))
		m := &model{is: fresh(), wait: 1 + int64(r.Intn(4)), fuse: -1, underWay: fresh()}
		m.left = m.wait
		d := sector.New(at + 3)
		s := opened(t, d, m.wait)
		g := &granted{to: map[int64]int{}}
		for step := range 120 {
			what := fmt.Sprint("seed ", seed, ", step ", step)
			if !d.Dead() && r.Intn(9) == 0 {
				m.fuse = r.Intn(4)
				d.Fuse(m.fuse)
			}
			for range r.Intn(3) {
				s.Tick()
				m.tick()
				g.ticks++
			}
			from, q := r.Intn(2), someMessage(r, m.is)
			a, ok := s.Take(from, q)
			if wa, wok := m.take(from, q); a != wa || ok != wok {
				t.Fatalf("%s: from %d: %+v: %+v, %v, not %+v, %v", what, from, q, a, ok, wa, wok)
			}
			g.grant(t, what, from, a, ok, m)
			if is := says(s); is != m.is.said(m.left) || is.mask == 0 {
				t.Fatalf("%s: %+v, not %+v", what, is, m.is.said(m.left))
			}
			if d.Dead() && r.Intn(2) == 0 || r.Intn(12) == 0 {
				s = m.crash(t, what, d, someKeep(r))
			}
		}
	}
}

// read reads a message, and who it is from, off bytes: few bits for each of its parts.
func read(b []byte) (int, api.Msg) {
	q := api.Msg{Kind: []int{1, 1, 3, 4}[b[0]>>1&3], Epoch: int64(b[0] >> 3 & 7), Seq: int64(b[0] >> 6), N: int64(b[1]>>2&15) - 3, Client: -1, Block: -1}
	if q.Kind == 3 {
		q.Seq = int64(b[0]>>6) + 1
	}
	return int(b[0] & 1), q
}

// FuzzTake: whatever comes, and wherever the device dies, a witness answers as the model does.
func FuzzTake(f *testing.F) {
	f.Add([]byte{0x00, 3, 0x00, 0x00, 0x01, 0x02, 0x01, 0x00, 0x08, 0x00}, 9, 40)
	f.Add([]byte{0x00, 3, 0x00, 0x00, 0x0c, 0x11, 0x07, 0x02, 0x09, 0x00}, 3, 30)
	f.Fuzz(func(t *testing.T, row []byte, fuse, keep int) {
		m := &model{is: fresh(), wait: 2, left: 2, fuse: fuse & 31, underWay: fresh()}
		d := sector.New(at + 3)
		s := opened(t, d, m.wait)
		d.Fuse(m.fuse)
		g := &granted{to: map[int64]int{}}
		for ; len(row) >= 2; row = row[2:] {
			for range row[1] & 3 {
				s.Tick()
				m.tick()
				g.ticks++
			}
			from, q := read(row)
			a, ok := s.Take(from, q)
			if wa, wok := m.take(from, q); a != wa || ok != wok {
				t.Fatalf("from %d: %+v: %+v, %v, not %+v, %v", from, q, a, ok, wa, wok)
			}
			g.grant(t, "row", from, a, ok, m)
			if d.Dead() {
				s = m.crash(t, "crash", d, []sector.Keep{{How: 2, N: keep}})
			}
			checks(t, "row", s, d, m.is, m.left)
		}
	})
}
