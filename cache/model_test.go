package cache

import (
	"fmt"
	"math/rand"
	"slices"
	"testing"

	"seisin/api"
	"seisin/log"
	"seisin/sector"
)

// model is a cache told another way: its records lie in a list, which is gone through for all that is asked of it, and each act is counted.
type model struct {
	n, blocks int
	head      int64
	recs      []api.Rec
	is        state
	fuse      int     // below 0: there is none
	seen      []state // how it was when all was sure last, and behind each record since
}

// act tells whether an act is done.
func (m *model) act() bool {
	if m.fuse > 0 {
		m.fuse--
		return true
	}
	return m.fuse < 0
}

// barrier is the act by which all is sure.
func (m *model) barrier() api.Errno {
	if !m.act() {
		return api.ErrDown
	}
	m.seen = []state{m.is}
	return api.OK
}

// come lets a record come.
func (m *model) come(r api.Rec) api.Errno {
	if len(m.recs) == m.n {
		return api.ErrFull
	}
	if !m.act() {
		return api.ErrDown
	}
	m.recs = append(m.recs, r)
	m.is = m.is.then(r)
	m.seen = append(m.seen, m.is)
	return api.OK
}

// then tells the state behind a record.
func (s state) then(r api.Rec) state {
	switch r.Kind {
	case 10:
		s.entries[r.Nums[0]] = api.Entry{Block: int(r.Nums[0]), V: version(r.Nums[1], r.Nums[2]), Data: r.Texts[0], Dirty: r.Nums[3] == 1, Client: int(r.Nums[4]), N: r.Nums[5]}
	case 11:
		if e := &s.entries[r.Nums[0]]; e.V == version(r.Nums[1], r.Nums[2]) {
			e.Dirty = false
		}
	case 12:
		s.entries[r.Nums[0]] = api.Entry{}
	}
	kept := r.Nums[len(r.Nums)-6:]
	s.last = version(kept[0], kept[1])
	copy(s.table[:], kept[2:])
	return s
}

// trim lets the first record go: a barrier, and the cell's write and barrier.
func (m *model) trim() api.Errno {
	if e := m.barrier(); e != api.OK {
		return e
	}
	if !m.act() || !m.act() {
		return api.ErrDown
	}
	m.head, m.recs = m.head+1, m.recs[1:]
	return api.OK
}

// needed tells whether the first record is the last one to lay an entry that is there.
func (m *model) needed() bool {
	if m.recs[0].Kind != 10 {
		return false
	}
	for _, r := range m.recs[1:] {
		if r.Kind == 10 && r.Nums[0] == m.recs[0].Nums[0] {
			return false
		}
	}
	return m.is.entries[m.recs[0].Nums[0]].Data != ""
}

// room makes room.
func (m *model) room() api.Errno {
	for i := 0; i < m.n && m.n-len(m.recs) < 4; i++ {
		if m.needed() {
			if e := m.come(layRec(m.is.entries[m.recs[0].Nums[0]], m.is)); e != api.OK {
				return e
			}
		}
		if e := m.trim(); e != api.OK {
			return e
		}
	}
	if m.n-len(m.recs) < 4 {
		return api.ErrFull
	}
	return api.OK
}

// bring makes room, and lets records come.
func (m *model) bring(l ...api.Rec) api.Errno {
	e := m.room()
	for _, r := range l {
		if e == api.OK {
			e = m.come(r)
		}
	}
	return e
}

func isAbove(v, w api.Version) bool {
	return v.Epoch > w.Epoch || v.Epoch == w.Epoch && v.Seq > w.Seq
}

// put is Put of an entry whose block, size and numbers may be.
func (m *model) put(e api.Entry) api.Errno {
	if !isAbove(e.V, m.is.last) {
		return api.ErrArg
	}
	next := m.is
	next.last = e.V
	if e.Client >= 0 {
		next.table[e.Client] = max(next.table[e.Client], e.N)
	}
	if m.is.entries[e.Block].Data != "" || len(m.is.all()) < m.n-6 {
		return m.bring(layRec(e, next))
	}
	goes := -1
	for _, x := range m.is.all() {
		if !x.Dirty && (goes < 0 || isAbove(m.is.entries[goes].V, x.V)) {
			goes = x.Block
		}
	}
	if goes < 0 {
		return api.ErrFull
	}
	return m.bring(rec(12, m.is, "", int64(goes)), layRec(e, next))
}

func (m *model) clean(block int, v api.Version) api.Errno {
	switch e := m.is.entries[block]; {
	case e.Data == "" || e.V != v:
		return api.ErrNone
	case !e.Dirty:
		return api.OK
	}
	return m.bring(rec(11, m.is, "", int64(block), v.Epoch, v.Seq))
}

func (m *model) drop(block int) api.Errno {
	if m.is.entries[block].Data == "" {
		return api.ErrNone
	}
	return m.bring(rec(12, m.is, "", int64(block)))
}

func (m *model) note(v api.Version, l []int64) api.Errno {
	next := m.is
	if isAbove(v, next.last) {
		next.last = v
	}
	for i := range next.table {
		next.table[i] = max(next.table[i], l[i])
	}
	return m.bring(rec(13, next, ""))
}

func (m *model) reset(v api.Version, l []int64) api.Errno {
	return m.bring(rec(13, state{last: v, table: [4]int64(l)}, ""))
}

// row is a row of calls by chance, of a cache and of its model.
type row struct {
	t    *testing.T
	r    *rand.Rand
	d    *sector.Dev
	c    *Cache
	m    *model
	what string
}

// newRow opens a cache, and its model.
func newRow(t *testing.T, seed int64) *row {
	r := rand.New(rand.NewSource(seed))
	n, blocks := 8+r.Intn(5), 1+r.Intn(9)
	d := sector.New(n + 2)
	return &row{t, r, d, opened(t, d, blocks), &model{n: n, blocks: blocks, head: 1, fuse: -1, seen: []state{{}}}, fmt.Sprint("seed ", seed)}
}

// someVersion tells a version near the last one.
func (x *row) someVersion() api.Version {
	v := x.m.is.last
	switch x.r.Intn(6) {
	case 0:
		return version(v.Epoch+1, int64(x.r.Intn(3)))
	case 1:
		return version(max(v.Epoch-int64(x.r.Intn(2)), 0), max(v.Seq-int64(x.r.Intn(3)), 0))
	}
	return version(max(v.Epoch, 1), v.Seq+1)
}

func (x *row) someList() []int64 {
	var l []int64
	for _, n := range x.m.is.table {
		l = append(l, max(n+int64(x.r.Intn(5))-2, 0))
	}
	return l
}

// call does one call by chance, of the cache and of the model, and tells what both tell.
func (x *row) call() api.Errno {
	x.t.Helper()
	block, v, l := x.r.Intn(x.m.blocks), x.someVersion(), x.someList()
	var what string
	var got, w api.Errno
	switch x.r.Intn(10) {
	case 0:
		what, got, w = "Drop", x.c.Drop(block), x.m.drop(block)
	case 1, 2:
		if x.r.Intn(5) > 0 {
			v = x.m.is.entries[block].V
		}
		what, got, w = "Clean", x.c.Clean(block, v), x.m.clean(block, v)
	case 3:
		what, got, w = "Note", x.c.Note(v, l), x.m.note(v, l)
	case 4:
		if x.r.Intn(3) > 0 {
			v = x.m.is.last
		}
		what, got, w = "Reset", x.c.Reset(v, l), x.m.reset(v, l)
	case 5:
		what, got, w = "Sync", x.c.Sync(), x.m.barrier()
	default:
		e := by(entry(block, v.Epoch, v.Seq, x.r.Intn(3) > 0), x.r.Intn(5)-1, int64(x.r.Intn(50)))
		if e.V.Epoch == 0 || e.V.Seq == 0 {
			what, got, w = "wrong Put", x.c.Put(e), api.ErrArg
		} else {
			what, got, w = "Put", x.c.Put(e), x.m.put(e)
		}
	}
	x.what = fmt.Sprintf("%s; %s(%d, %v, %v)", x.what, what, block, v, l)
	want(x.t, x.what, got, w)
	says(x.t, x.what, x.c, x.m.n, x.m.is)
	return w
}

// reopen opens the cache again; behind a crash the model has the records that are there, and is as they say: as it was somewhere behind what is sure.
func (x *row) reopen(crashed bool) {
	x.t.Helper()
	if crashed {
		var l []sector.Keep
		for range x.d.Pending() {
			l = append(l, sector.Keep{How: x.r.Intn(3), N: x.r.Intn(api.SectorSize)})
		}
		x.d.Crash(l)
		x.m.fuse = -1
		x.m.head, x.m.recs = recordsOf(x.t, x.d)
		x.m.is = state{}
		for _, r := range x.m.recs {
			x.m.is = x.m.is.then(r)
		}
		if !slices.Contains(x.m.seen, x.m.is) {
			x.t.Fatalf("%s: crash: %v was never so, only %v", x.what, x.m.is, x.m.seen)
		}
	}
	x.c = finds(x.t, x.what+"; opened", x.d, x.m.blocks, x.m.is)
	x.m.seen = []state{x.m.is}
}

// P9.2 to P9.5: long rows of calls are answered, and lie in the log, as the model tells; the device dies at any act, and a crash keeps anything.
func TestRowsOfCalls(t *testing.T) {
	for seed := range int64(400) {
		x := newRow(t, seed)
		for range 120 {
			if x.r.Intn(12) == 0 {
				x.m.fuse = x.r.Intn(9)
				x.d.Fuse(x.m.fuse)
			}
			switch e := x.call(); {
			case e == api.ErrDown || x.r.Intn(40) == 0:
				x.reopen(true)
				x.what = fmt.Sprint("seed ", seed)
			case x.r.Intn(40) == 0 && x.m.fuse < 0:
				x.reopen(false)
			}
			if !x.d.Dead() {
				logs(t, x.what, x.d, x.m.head, x.m.recs...)
			}
			if t.Failed() {
				return
			}
		}
	}
}

// P9.5: at each place where a call may be cut off, and each byte to which its last sector may be written, the cache is as it was behind one of its records.
func TestCutOffAnywhere(t *testing.T) {
	for what, x := range roomCases() {
		for fuse := range 40 {
			for _, keep := range []sector.Keep{{}, {How: 1}, {How: 2, N: 3}, {How: 2, N: 30}, {How: 2, N: 70}} {
				d := device(t, 8, x.recs...)
				c := opened(t, d, 4)
				m := &model{n: 8, blocks: 4, head: 1, recs: x.recs, is: stateOf(c), fuse: fuse}
				m.seen = []state{m.is}
				d.Fuse(fuse)
				e := by(entry(2, 8, 1, true), 2, 77)
				want(t, what, c.Put(e), m.put(e))
				says(t, what, c, 8, m.is)
				d.Crash([]sector.Keep{keep, keep, keep})
				if s := stateOf(opened(t, d, 4)); !slices.Contains(m.seen, s) {
					t.Errorf("%s, fuse %d, keep %v: %v was never so, only %v", what, fuse, keep, s, m.seen)
				}
			}
		}
	}
}

// P9.5: what Sync made sure is there behind any crash, with whatever else was written since.
func TestSureIsSure(t *testing.T) {
	for fuse := range 30 {
		d := sector.New(10)
		c := opened(t, d, 4)
		puts(t, c, by(entry(0, 1, 1, true), 0, 5), by(entry(1, 1, 2, true), 1, 6))
		want(t, "Sync", c.Sync(), api.OK)
		d.Fuse(fuse)
		for i := range int64(9) {
			c.Note(version(2, i), []int64{i, i, i, i})
		}
		d.Crash(nil)
		c = opened(t, d, 4)
		s := stateOf(c)
		if got := c.All(); len(got) != 2 || got[0] != by(entry(0, 1, 1, true), 0, 5) || got[1] != by(entry(1, 1, 2, true), 1, 6) {
			t.Errorf("fuse %d: %v", fuse, got)
		}
		if s.table[0] < 5 || s.table[1] < 6 || isAbove(version(1, 2), s.last) {
			t.Errorf("fuse %d: %v", fuse, s)
		}
	}
}

// P9.5: however long it goes on, the log's numbers alone tell that room was made.
func TestLongRow(t *testing.T) {
	d := sector.New(10)
	c := opened(t, d, 4)
	var s state
	for i := range int64(3000) {
		e := by(entry(int(i%2), 1, i+1, i%5 > 0), int(i%4), i)
		puts(t, c, e)
		s = s.with(e)
		s.last, s.table[i%4] = e.V, i
	}
	says(t, "long", c, 8, s)
	finds(t, "long", d, 4, s)
	if h, l := recordsOf(t, d); h < 2900 || len(l) > 6 {
		t.Errorf("head %d, %d records", h, len(l))
	}
}

// FuzzOpen: a payload is a cache's record, if it is what a model's would be, or there is no cache.
func FuzzOpen(f *testing.F) {
	for _, r := range append(badRecs()[:20], manyLaid(3, true)...) {
		f.Add(payload(f, r), 4)
	}
	f.Add(payload(f, rec(11, someKept, "", 3, 4, 5)), 4)
	f.Add(payload(f, rec(12, someKept, "", 3)), 32)
	f.Add(payload(f, rec(13, someKept, "")), 1)
	f.Fuzz(func(t *testing.T, s string, n int) {
		s, blocks := s[:min(len(s), api.MaxEntry)], 1+int(uint(n)%api.MaxBlocks)
		d := deviceOf(t, 8, s)
		c, e := Open(d, 2, 8, 0, 1, blocks)
		if e != api.OK {
			want(t, "no cache", e, api.ErrForm)
			return
		}
		_, l := recordsOf(t, d)
		says(t, s, c, 8, state{}.then(l[0]))
		if len(l) != 1 || payload(t, l[0]) != s {
			t.Errorf("%q: %v", s, l)
		}
		for _, x := range c.All() {
			if x.Block >= blocks || x.V.Epoch < 1 || x.V.Seq < 1 || x.V.Epoch > top || x.V.Seq > top || len(x.Data) != 8 || x.N < 0 || x.N > top || x.Client < -1 || x.Client > 3 {
				t.Errorf("%q: %v", s, x)
			}
		}
		again, err := log.Open(d, 2, 8, 0, 1)
		if err != api.OK || len(again.Records()) != 1 {
			t.Errorf("%q: %d", s, err)
		}
	})
}
