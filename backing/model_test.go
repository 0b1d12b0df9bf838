package backing

import (
	"fmt"
	"math/rand"
	"testing"

	"seisin/api"
	"seisin/sector"
)

// saved is what a block's cell says, and how often it was put.
type saved struct {
	v    api.Version
	data string
	t    [4]int64
	gen  int64
}

// state is what a store's cells say.
type state struct {
	token, gen int64
	blocks     [32]saved
}

// fresh tells the state of a new device.
func fresh() state {
	var s state
	for i := range s.blocks {
		s.blocks[i].data = "\x00\x00\x00\x00\x00\x00\x00\x00"
	}
	return s
}

// table tells the greatest numbers of so many blocks.
func (s state) table(n int) [4]int64 {
	var t [4]int64
	for client := range t {
		for _, b := range s.blocks[:n] {
			if b.t[client] > t[client] {
				t[client] = b.t[client]
			}
		}
	}
	return t
}

// model is a store told another way: all that it has is a state, and each act is counted.
type model struct {
	n        int
	is       state
	fuse     int   // below 0: there is none
	underWay state // what else may be there behind a crash
}

// put lets a state come by a cell's Put, if that has not come to its last generation.
func (m *model) put(gen int64, next state) api.Errno {
	if gen == 1<<62 {
		return api.ErrSeq
	}
	for range 2 { // a write, and a barrier
		if m.fuse == 0 {
			return api.ErrDown
		}
		m.fuse--
		m.underWay = next
	}
	m.is = next
	return api.OK
}

// admit is what comes first.
func (m *model) admit(epoch int64) api.Errno {
	if epoch < m.is.token {
		return api.ErrToken
	}
	if epoch == m.is.token {
		return api.OK
	}
	next := m.is
	next.token = epoch
	next.gen++
	return m.put(m.is.gen, next)
}

// store is what comes of a message to store, behind that.
func (m *model) store(q api.Msg) api.Errno {
	if q.Block < 0 || q.Block >= m.n {
		return api.ErrRange
	}
	if len(q.Data) != 8 {
		return api.ErrSize
	}
	was := m.is.blocks[q.Block]
	if q.Epoch < was.v.Epoch || q.Epoch == was.v.Epoch && q.Seq <= was.v.Seq {
		return api.OK
	}
	now := saved{api.Version{Epoch: q.Epoch, Seq: q.Seq}, q.Data, m.is.table(m.n), was.gen + 1}
	for client := range now.t {
		if q.T[client] > now.t[client] {
			now.t[client] = q.T[client]
		}
		if client == q.Client && q.N > now.t[client] {
			now.t[client] = q.N
		}
	}
	next := m.is
	next.blocks[q.Block] = now
	return m.put(was.gen, next)
}

// take is Take of a message that may be, of one of the two kinds.
func (m *model) take(q api.Msg) (api.Msg, bool) {
	a := api.Msg{Kind: 11, Epoch: q.Epoch, Seq: q.Seq, N: q.N, Block: q.Block, Client: -1}
	if q.Kind == 12 {
		a.Kind = 13
	}
	a.E = m.admit(q.Epoch)
	if a.E == api.OK && q.Kind == 10 {
		a.E = m.store(q)
	} else if a.E == api.OK && q.Block >= m.n {
		a.E = api.ErrRange
	} else if a.E == api.OK {
		a.T = m.is.table(m.n)
		if q.Block >= 0 {
			a.Data = m.is.blocks[q.Block].data
		}
	}
	if a.E == api.ErrDown {
		return api.Msg{}, false
	}
	return a, true
}

// crash lets the power go and come again, and tells the store that is there then: as it was, or with what was under way.
func (m *model) crash(t *testing.T, what string, d *sector.Dev, keep []sector.Keep) *Store {
	t.Helper()
	d.Crash(keep)
	m.fuse = -1
	s := opened(t, d, m.n)
	if s.Token() == m.underWay.token && same(s, m.n, m.underWay) {
		m.is = m.underWay
	}
	m.underWay = m.is
	says(t, what, s, m.n, m.is)
	holds(t, what, d, m.n, m.is)
	return s
}

// same tells whether a store says of its blocks what a state does.
func same(s *Store, n int, is state) bool {
	for i, b := range is.blocks[:n] {
		if v, data := s.Get(i); v != b.v || data != b.data {
			return false
		}
	}
	return s.Table() == is.table(n)
}

// someMessage tells a message by chance, most often such as is stored or told.
func someMessage(r *rand.Rand, n int, token int64) api.Msg {
	q := api.Msg{Kind: 10 + r.Intn(2)*2, Epoch: token + int64(r.Intn(9))/8, Seq: int64(r.Intn(40)), N: int64(r.Intn(30) - 4), Block: r.Intn(n), Client: r.Intn(5) - 1}
	if r.Intn(9) == 0 && token > 0 {
		q.Epoch = token - 1
	}
	if r.Intn(9) == 0 {
		q.Block = min(r.Intn(n+3)-1, 31)
	}
	b := make([]byte, 8)
	r.Read(b)
	q.Data = string(b)
	if r.Intn(12) == 0 {
		q.Data = string(b[:r.Intn(8)])
	}
	for range r.Intn(3) {
		q.T[r.Intn(4)] = int64(r.Intn(30))
	}
	if r.Intn(20) == 0 {
		q.E, q.Row = api.Errno(r.Intn(32)), "row"
	}
	return q
}

// someKeep tells what a crash keeps, by chance.
func someKeep(r *rand.Rand) []sector.Keep {
	return []sector.Keep{{How: r.Intn(3), N: r.Intn(api.SectorSize + 9)}, {How: r.Intn(3), N: r.Intn(api.SectorSize)}}[:r.Intn(3)]
}

// P13.1 to P13.3: long rows of messages, with deaths and crashes in between, are answered as the model answers them.
func TestRows(t *testing.T) {
	for seed := range int64(400) {
		r := rand.New(rand.NewSource(seed))
		n := 1 + r.Intn(4)
		if seed%40 == 0 {
			n = 32
		}
		d := sector.New(sectorsOf(n))
		m := &model{n: n, is: fresh(), fuse: -1, underWay: fresh()}
		s := opened(t, d, n)
		for step := range 80 {
			what := fmt.Sprint("seed ", seed, ", step ", step)
			if r.Intn(8) == 0 {
				m.fuse = r.Intn(6)
				d.Fuse(m.fuse)
			}
			q := someMessage(r, n, m.is.token)
			for range 1 + r.Intn(2) { // the same message twice is as good as once
				a, ok := s.Take(q)
				if wa, wok := m.take(q); a != wa || ok != wok {
					t.Fatalf("%s: %+v: %+v, %v, not %+v, %v", what, q, a, ok, wa, wok)
				}
			}
			says(t, what, s, n, m.is)
			if d.Dead() || r.Intn(9) == 0 {
				s = m.crash(t, what, d, someKeep(r))
			}
		}
	}
}

// read reads a message off bytes: a number of few bits for each of its parts.
func read(b []byte) api.Msg {
	q := api.Msg{Kind: 10 + int(b[0]&1)*2, Epoch: int64(b[0] >> 1 & 3), Seq: int64(b[0] >> 3 & 3), Block: int(b[0]>>5) - 1, Client: int(b[1]&7)%5 - 1, N: int64(b[1]>>3) - 3, Data: "12345678"}
	q.T[b[2]&3] = int64(b[2] >> 2 & 15)
	q.Data = q.Data[b[2]>>6:] + q.Data[:b[2]>>6]
	if b[2] == 0 {
		q.Data = "short"
	}
	return q
}

// FuzzTake: whatever comes, and wherever the device dies, a store answers as the model does.
func FuzzTake(f *testing.F) {
	f.Add([]byte{0x20, 7, 9, 0x22, 7, 9, 0x2a, 7, 9, 0x23, 0, 1}, 3, 40)
	f.Add([]byte{0x2c, 12, 9, 0x2c, 12, 9, 0x01, 7, 9, 0x6b, 0, 1}, 1, 3)
	f.Fuzz(func(t *testing.T, row []byte, fuse, keep int) {
		d := sector.New(sectorsOf(6))
		m := &model{n: 6, is: fresh(), fuse: fuse & 31, underWay: fresh()}
		s := opened(t, d, 6)
		d.Fuse(m.fuse)
		for ; len(row) >= 3; row = row[3:] {
			q := read(row)
			a, ok := s.Take(q)
			if wa, wok := m.take(q); a != wa || ok != wok {
				t.Fatalf("%+v: %+v, %v, not %+v, %v", q, a, ok, wa, wok)
			}
			says(t, "row", s, 6, m.is)
			if d.Dead() {
				s = m.crash(t, "crash", d, []sector.Keep{{How: 2, N: keep}})
			}
		}
	})
}
