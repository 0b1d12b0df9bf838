package node

import (
	"fmt"
	"math/rand"
	"slices"
	"testing"

	"seisin/api"
	"seisin/bits"
	"seisin/cache"
	"seisin/cell"
	"seisin/code"
	"seisin/drl"
	"seisin/mail"
	"seisin/sector"
)

// A model is a node told another way: on a device of its own, it goes by the chapter's words one by one, writes down what it sends as it goes, and where it goes down it breaks off there by a panic.
type model struct {
	id, blocks            int
	serial, term, patient int64

	facts *cell.Cell
	list  *drl.List
	cache *cache.Cache

	down, lost               bool
	epoch, life, clock, left int64
	mask                     int
	change, loads            int64
	done, noted              [4]int64

	role, want, resync int
	quiet              int64
	waits              []waiting
	items              []api.Item // all of the present sender's
	base, acked        int64

	out []letter
}

// waiting is a call of the model's that isn't answered.
type waiting struct {
	client int
	n      int64
	what   string // r, w, f
	block  int
	seq    int64
	stored bool
	load   int64
}

// letter is what is sent, as a message.
type letter struct {
	to int
	m  api.Msg
}

// broken is what the model breaks off with.
type broken struct{}

// openModel opens a model on a device; it must be able to.
func openModel(t *testing.T, id int, serial int64, d *sector.Dev, blocks int, term, patience int64) *model {
	t.Helper()
	m := &model{id: id, blocks: blocks, serial: serial, term: term, patient: patience}
	var e [4]api.Errno
	m.facts, e[0] = cell.Open(d, 0, 1)
	m.list, e[1] = drl.Open(d, 2, 3, blocks)
	m.cache, e[2] = cache.Open(d, 6, d.Sectors()-6, 4, 5, blocks)
	r, _ := code.Decode([]byte(m.facts.Get()))
	if r.Kind == 50 && len(r.Nums) == 1 && len(r.Texts) == 0 && r.Nums[0] >= 0 && r.Nums[0] <= 1<<62 {
		e[3] = m.facts.Put(factsOf(r.Nums[0]))
		m.epoch, m.life = r.Nums[0], m.facts.Gen()+serial%16384*16384
	} else {
		m.lost = true
	}
	if e != [4]api.Errno{} || m.facts.Gen() > 16383 {
		t.Fatalf("model: %v, %d", e, m.facts.Gen())
	}
	return m
}

// factsOf tells the facts' text.
func factsOf(epoch int64) string {
	b, _ := code.Encode(api.Rec{Kind: 50, Nums: []int64{epoch}})
	return string(b)
}

// must breaks off at an error.
func (m *model) must(e api.Errno) {
	if e != 0 {
		m.down = true
		panic(broken{})
	}
}

// run does something, as far as it goes, and tells what is sent.
func (m *model) run(do func()) (out []letter) {
	defer func() {
		if x := recover(); x != nil {
			if _, is := x.(broken); !is {
				panic(x)
			}
			out = nil
		}
	}()
	m.out = nil
	do()
	return m.out
}

// send writes down a letter.
func (m *model) send(to, kind int, fill func(x *api.Msg)) {
	x := api.Msg{Kind: kind, Epoch: m.epoch, Block: -1, Client: -1}
	fill(&x)
	m.out = append(m.out, letter{to, x})
}

func (m *model) sendPut(i api.Item) {
	m.send(1-m.id, 5, func(x *api.Msg) {
		x.Seq, x.N, x.Block, x.Client, x.Data, x.T = i.Seq, i.N, i.Block, i.Client, i.Data, m.done
	})
}

func (m *model) sendStore(e api.Entry, client int, n int64) {
	m.send(3, 10, func(x *api.Msg) {
		x.Seq, x.Block, x.Data, x.Client, x.N, x.T = e.V.Seq, e.Block, e.Data, client, n, m.done
	})
}

func (m *model) sendLoad(block int, n int64) {
	m.send(3, 12, func(x *api.Msg) { x.Block, x.N = block, n })
}

func (m *model) sendAnswer(client int, n int64, block int, e api.Errno, data string) {
	m.send(4+client, 15, func(x *api.Msg) { x.N, x.Block, x.E, x.Data = n, block, e, data })
}

func (m *model) sendPuts() {
	for i := m.acked - m.base; i < int64(len(m.items)) && i < m.acked-m.base+8; i++ {
		m.sendPut(m.items[i])
	}
}

func (m *model) last() int64     { return m.base + int64(len(m.items)) }
func (m *model) alone() bool     { return m.mask != 3 }
func (m *model) mirroring() bool { return m.mask == 3 || m.resync == 2 }
func (m *model) own() int        { return m.id + 1 }

func (m *model) table() [4]int64 {
	return [4]int64{m.cache.Number(0), m.cache.Number(1), m.cache.Number(2), m.cache.Number(3)}
}

// newSender is a sender that begins at a base.
func (m *model) newSender(base int64) {
	m.items, m.base, m.acked = nil, base, base
}

func (m *model) add(i api.Item) api.Item {
	i.Seq = m.last() + 1
	m.items = append(m.items, i)
	return i
}

func (m *model) forget() {
	m.role, m.want, m.resync, m.quiet, m.waits = 0, 0, 0, 0, nil
	m.newSender(0)
}

func (m *model) stepDown() {
	m.forget()
	m.left = 0
}

func (m *model) adopt(epoch int64) {
	m.stepDown()
	m.must(m.facts.Put(factsOf(epoch)))
	m.epoch = epoch
}

func (m *model) wantMask(mask int) {
	if m.want != mask {
		m.change++
		m.want = mask
	}
	m.send(2, 3, func(x *api.Msg) { x.Seq, x.N = int64(mask), m.change })
}

func (m *model) note() {
	i := m.add(api.Item{Block: -1, Client: -1})
	m.must(m.cache.Note(api.Version{Epoch: m.epoch, Seq: i.Seq}, m.done[:]))
	m.noted = m.done
	m.must(m.cache.Sync())
}

func (m *model) bringAgain() {
	for _, e := range m.cache.All() {
		if !e.Dirty {
			continue
		}
		i := m.add(api.Item{Block: e.Block, Data: e.Data, Client: e.Client, N: e.N})
		e.V = api.Version{Epoch: m.epoch, Seq: i.Seq}
		m.must(m.cache.Put(e))
		if at := m.writer(e.Block); at >= 0 {
			m.waits[at].seq, m.waits[at].stored = i.Seq, false
		}
	}
}

func (m *model) mark() {
	for _, e := range m.cache.All() {
		if e.Dirty {
			m.must(m.list.Mark(e.Block))
		}
	}
}

// writer tells which wait is a write of a block; -1, if none is.
func (m *model) writer(block int) int {
	return slices.IndexFunc(m.waits, func(w waiting) bool { return w.what == "w" && w.block == block })
}

func (m *model) mayStore(w waiting) bool {
	return m.alone() && !w.stored && (m.resync != 2 || w.seq <= m.acked)
}

func (m *model) store(w waiting) {
	e, _ := m.cache.Get(w.block)
	m.sendStore(e, w.client, w.n)
}

func (m *model) stores() {
	for _, w := range m.waits {
		if w.what == "w" && m.mayStore(w) {
			m.store(w)
		}
	}
}

func (m *model) isCommitted(w waiting) bool {
	if !m.alone() {
		return w.seq <= m.acked
	}
	if m.resync == 2 {
		return w.seq <= m.acked && w.stored
	}
	return w.stored
}

func (m *model) settle() {
	for i := 0; i < len(m.waits); {
		w := m.waits[i]
		if w.what != "w" || !m.isCommitted(w) {
			i++
			continue
		}
		if w.n > m.done[w.client] {
			m.done[w.client] = w.n
		}
		m.sendAnswer(w.client, w.n, w.block, 0, "")
		m.waits = slices.Delete(m.waits, i, i+1)
	}
	if m.role == 2 && m.acked == m.last() {
		m.role, m.done = 3, m.table()
	}
	m.reads()
	if m.resync == 2 && m.want == 0 && m.acked == m.last() && !slices.ContainsFunc(m.waits, func(w waiting) bool { return w.what == "w" }) {
		if m.noted == m.done {
			m.wantMask(3)
		} else {
			m.note()
			m.sendPuts()
		}
	}
}

func (m *model) give(w waiting, data string) {
	if m.left > 0 {
		m.sendAnswer(w.client, w.n, w.block, 0, data)
	} else {
		m.sendAnswer(w.client, w.n, w.block, 21, "")
	}
}

func (m *model) reads() {
	for i := 0; i < len(m.waits); {
		w := &m.waits[i]
		over := false
		if w.what == "r" && w.load == 0 && m.writer(w.block) < 0 {
			e, is := m.cache.Get(w.block)
			if over = is; is {
				m.give(*w, e.Data)
			} else {
				m.loads++
				w.load = m.loads
				m.sendLoad(w.block, w.load)
			}
		}
		if w.what == "f" {
			over = !slices.ContainsFunc(m.waits, func(x waiting) bool { return x.what == "w" && x.seq <= w.seq }) &&
				!slices.ContainsFunc(m.cache.All(), func(e api.Entry) bool {
					return e.Dirty && (e.V.Epoch < m.epoch || e.V.Seq <= w.seq)
				})
			if over {
				m.sendAnswer(w.client, w.n, w.block, 0, "")
			}
		}
		if over {
			m.waits = slices.Delete(m.waits, i, i+1)
		} else {
			i++
		}
	}
}

// tick is Tick.
func (m *model) tick() {
	if m.down {
		return
	}
	m.clock++
	if m.left > 0 {
		m.left--
	}
	if m.lost {
		m.send(2, 4, func(x *api.Msg) { x.N = m.serial })
		return
	}
	m.send(2, 1, func(x *api.Msg) {
		x.N = m.life<<32 + m.clock
		if m.role == 0 {
			x.Seq = 1
		}
	})
	if m.role == 1 {
		m.sendLoad(-1, 0)
	}
	if m.role < 2 {
		return
	}
	if m.mirroring() && m.acked < m.last() {
		m.quiet++
		m.sendPuts()
	} else {
		m.quiet = 0
	}
	if m.quiet > m.patient {
		m.quiet = 0
		if !m.alone() || m.want == 3 {
			m.wantMask(m.own())
		} else {
			m.resync = 0
			m.newSender(m.last())
			m.settle()
		}
	} else if m.want != 0 {
		m.wantMask(m.want)
	}
	if m.role == 3 {
		m.tickLeading()
	}
}

func (m *model) tickLeading() {
	if m.alone() && m.resync != 2 {
		m.resync = 1
		m.send(1-m.id, 7, func(x *api.Msg) { x.Seq, x.T, x.Row = m.last(), m.done, m.list.Row().Text() })
	}
	count := 0
	for block := 0; block < m.blocks; block++ {
		e, is := m.cache.Get(block)
		if at := m.writer(block); at >= 0 {
			if m.mayStore(m.waits[at]) {
				m.store(m.waits[at])
			}
		} else if is && e.Dirty {
			if count++; count <= 4 {
				m.sendStore(e, -1, 0)
			}
		}
	}
	for _, w := range m.waits {
		if w.what == "r" && w.load != 0 {
			m.sendLoad(w.block, w.load)
		}
	}
}

// take is Take of a message from a place that there is.
func (m *model) take(from int, x api.Msg) {
	switch {
	case m.lost && (from != 2 || x.Kind != 4):
	case from == 2 && x.Kind == 4:
		m.takeLost(x)
	case from == 2 && x.Kind == 2:
		m.takeGrant(x)
	case from == 2 && x.Kind == 3:
		m.takeChange(x)
	case from == 3:
		m.takeBacking(x)
	case from == 1-m.id && (x.Kind == 5 || x.Kind == 7):
		if x.Epoch < m.epoch {
			return
		}
		if x.Epoch > m.epoch {
			m.adopt(x.Epoch)
		}
		if m.role != 0 {
			return
		}
		if x.Kind == 5 {
			m.takePut(x)
		} else {
			m.takeBegin(x)
		}
	case from == 1-m.id:
		m.takeOther(x)
	case from >= 4 && x.Kind == 14:
		m.takeCall(from-4, x)
	}
}

func (m *model) takeLost(x api.Msg) {
	if !m.lost || x.E != 0 || x.N != m.serial {
		return
	}
	for block := 0; block < m.blocks; block++ {
		m.must(m.list.Mark(block))
	}
	m.must(m.facts.Put(factsOf(x.Epoch)))
	if m.facts.Gen() >= 16384 {
		m.must(23)
	}
	m.epoch, m.life, m.lost = x.Epoch, m.facts.Gen()+m.serial%16384*16384, false
}

func (m *model) takeGrant(x api.Msg) {
	if x.Client != m.id {
		if x.Epoch >= m.epoch && m.role != 0 {
			m.stepDown()
		}
		return
	}
	a := x.N - m.life<<32
	if x.E != 0 || a < 0 || a > m.clock {
		return
	}
	if x.Epoch > m.epoch {
		m.adopt(x.Epoch)
		m.role, m.mask, m.change = 1, int(x.Seq), 0
		m.sendLoad(-1, 0)
	} else if x.Epoch < m.epoch || m.role == 0 {
		return
	}
	if until := m.term - (m.clock - a); until > m.left {
		m.left = until
	}
}

func (m *model) takeChange(x api.Msg) {
	if m.role < 2 || x.Epoch != m.epoch {
		return
	}
	if x.E == 20 {
		m.stepDown()
	}
	if x.E != 0 || m.want == 0 || x.N != m.change {
		return
	}
	m.want, m.resync, m.quiet, m.mask = 0, 0, 0, int(x.Seq)
	if m.mask == 3 {
		m.must(m.list.Clear())
		m.settle()
	} else if m.mask == m.own() {
		m.mark()
		m.newSender(m.last())
		if m.role == 2 {
			m.role, m.done = 3, m.table()
		}
		m.stores()
		m.settle()
	} else {
		m.stepDown()
	}
}

func (m *model) takeBacking(x api.Msg) {
	if x.Epoch != m.epoch || m.role == 0 || x.E != 0 {
		if x.E == 24 && x.Epoch == m.epoch && m.role != 0 {
			m.stepDown()
		}
		return
	}
	if x.Kind == 13 {
		if m.role == 1 && x.Block == -1 {
			m.beginToLead(x)
		} else if m.role == 3 {
			for i := 0; i < len(m.waits); {
				if w := m.waits[i]; w.what == "r" && w.block == x.Block && w.load == x.N && x.N > 0 {
					m.give(w, x.Data)
					m.waits = slices.Delete(m.waits, i, i+1)
				} else {
					i++
				}
			}
		}
	}
	if x.Kind == 11 && m.role >= 2 && x.Block != -1 {
		m.takeStored(x)
	}
}

func (m *model) learn(t [4]int64) {
	for c, n := range t {
		if n > m.cache.Number(c) {
			m.must(m.cache.Note(api.Version{}, t[:]))
			return
		}
	}
}

func (m *model) beginToLead(x api.Msg) {
	m.learn(x.T)
	if m.mask == m.own() {
		m.mark()
	}
	m.newSender(0)
	m.bringAgain()
	m.done = m.table()
	if m.mask == 3 {
		m.note()
		m.role = 2
		m.sendPuts()
		return
	}
	m.must(m.cache.Sync())
	m.newSender(m.last())
	m.role = 3
}

func (m *model) takeStored(x api.Msg) {
	if at := m.writer(x.Block); at >= 0 && m.waits[at].seq == x.Seq {
		m.waits[at].stored = true
	}
	m.settle()
	if e, is := m.cache.Get(x.Block); is && e.Dirty && e.V == (api.Version{Epoch: x.Epoch, Seq: x.Seq}) && m.writer(x.Block) < 0 {
		m.must(m.cache.Clean(x.Block, e.V))
		if m.mirroring() {
			m.send(1-m.id, 9, func(y *api.Msg) { y.Seq, y.Block = x.Seq, x.Block })
		}
		m.reads()
	}
}

func (m *model) takePut(x api.Msg) {
	last, t := m.cache.Last(), m.table()
	had := x.Epoch == last.Epoch && x.Seq <= last.Seq
	if !had {
		if x.Epoch < last.Epoch || x.Epoch == last.Epoch && x.Seq != last.Seq+1 || x.Epoch > last.Epoch && x.Seq != 1 {
			return
		}
		if x.Epoch > last.Epoch && (t[0] > x.T[0] || t[1] > x.T[1] || t[2] > x.T[2] || t[3] > x.T[3]) {
			m.must(m.cache.Reset(last, x.T[:]))
		}
		v := api.Version{Epoch: x.Epoch, Seq: x.Seq}
		if x.Block == -1 {
			m.must(m.cache.Note(v, x.T[:]))
		} else {
			m.learn(x.T)
			e := m.cache.Put(api.Entry{Block: x.Block, V: v, Data: x.Data, Dirty: true, Client: x.Client, N: x.N})
			if e == 12 || e == 2 || e == 3 || e == 1 {
				return
			}
			m.must(e)
		}
		m.must(m.cache.Sync())
	}
	m.send(1-m.id, 6, func(y *api.Msg) { y.Seq = m.cache.Last().Seq })
}

func (m *model) takeBegin(x api.Msg) {
	last := m.cache.Last()
	if last.Epoch > x.Epoch || last.Epoch == x.Epoch && last.Seq > x.Seq {
		return
	}
	v := api.Version{Epoch: x.Epoch, Seq: x.Seq}
	if last != v {
		row, e := bits.Load(x.Row)
		if e != 0 || row.Len() != (m.blocks+3)/4 {
			return
		}
		for _, y := range m.cache.All() {
			if y.Dirty || row.Has(y.Block/4) {
				m.must(m.cache.Drop(y.Block))
			}
		}
		m.must(m.cache.Reset(v, x.T[:]))
		m.must(m.cache.Sync())
	}
	m.send(1-m.id, 8, func(y *api.Msg) { y.Seq = x.Seq })
}

func (m *model) takeOther(x api.Msg) {
	if x.Epoch != m.epoch {
		return
	}
	switch {
	case x.Kind == 6 && m.role >= 2 && m.mirroring() && x.Seq > m.acked && x.Seq <= m.last():
		m.acked, m.quiet = x.Seq, 0
		m.stores()
		m.settle()
	case x.Kind == 8 && m.role == 3 && m.alone() && m.resync == 1 && x.Seq == m.last():
		m.resync, m.quiet = 2, 0
		m.bringAgain()
		m.note()
		m.sendPuts()
	case x.Kind == 9 && m.role == 0 && x.Block != -1:
		if e := m.cache.Clean(x.Block, api.Version{Epoch: x.Epoch, Seq: x.Seq}); e != 10 {
			m.must(e)
		}
	}
}

func (m *model) takeCall(client int, x api.Msg) {
	if x.N < 1 || slices.ContainsFunc(m.waits, func(w waiting) bool { return w.client == client && w.n == x.N }) {
		return
	}
	answer := func(e api.Errno) { m.sendAnswer(client, x.N, x.Block, e, "") }
	write := x.Seq == 2 || x.Seq == 3
	number := m.cache.Number(client)
	switch {
	case m.role != 3:
		answer(20)
	case m.left == 0:
		answer(21)
	case x.Seq < 1 || x.Seq > 4:
		answer(1)
	case x.Seq != 4 && (x.Block == -1 || x.Block >= m.blocks):
		answer(2)
	case x.Seq == 2 && len(x.Data) != 8:
		answer(3)
	case write && x.N < number:
	case write && x.N == number:
		m.wasDone(client, x)
	case write && m.writer(x.Block) >= 0, len(m.waits) > 15:
		answer(25)
	case write:
		m.write(client, x)
	case x.Seq == 4:
		m.waits = append(m.waits, waiting{client: client, n: x.N, what: "f", block: x.Block, seq: m.last()})
		m.reads()
	default:
		m.waits = append(m.waits, waiting{client: client, n: x.N, what: "r", block: x.Block})
		m.reads()
	}
}

func (m *model) wasDone(client int, x api.Msg) {
	if m.alone() {
		for _, e := range m.cache.All() {
			if !e.Dirty || e.Client != client || e.N != x.N {
				continue
			}
			if m.writer(e.Block) >= 0 || len(m.waits) > 15 {
				m.sendAnswer(client, x.N, x.Block, 25, "")
				return
			}
			w := waiting{client: client, n: x.N, what: "w", block: e.Block, seq: e.V.Seq}
			m.waits = append(m.waits, w)
			if m.mayStore(w) {
				m.sendStore(e, client, x.N)
			}
			return
		}
	}
	m.sendAnswer(client, x.N, x.Block, 0, "")
}

func (m *model) write(client int, x api.Msg) {
	if m.alone() {
		m.must(m.list.Mark(x.Block))
	}
	e := api.Entry{Block: x.Block, V: api.Version{Epoch: m.epoch, Seq: m.last() + 1}, Data: x.Data, Dirty: true, Client: client, N: x.N}
	if x.Seq == 3 {
		e.Data = "\x00\x00\x00\x00\x00\x00\x00\x00"
	}
	err := m.cache.Put(e)
	if err == 12 {
		m.sendAnswer(client, x.N, x.Block, 12, "")
		return
	}
	m.must(err)
	m.must(m.cache.Sync())
	i := m.add(api.Item{Block: e.Block, Data: e.Data, Client: client, N: x.N})
	w := waiting{client: client, n: x.N, what: "w", block: x.Block, seq: i.Seq}
	m.waits = append(m.waits, w)
	if m.mirroring() {
		m.sendPut(i)
	} else {
		m.acked = i.Seq
	}
	if m.mayStore(w) {
		m.sendStore(e, client, x.N)
	}
}

// view tells how the model stands.
func (m *model) view() View {
	return View{m.down, m.lost, m.epoch, m.role, m.mask, m.want, m.resync, len(m.waits), m.left, m.last(), m.acked}
}

// twins are a node and its model, each on a device of its own.
type twins struct {
	t              *testing.T
	n              *Node
	m              *model
	d              [2]*sector.Dev
	id, blocks     int
	serial         int64
	term, patience int64
}

// open opens both.
func (x *twins) open() {
	x.t.Helper()
	n, e := Open(x.id, x.serial, x.d[0], x.blocks, x.term, x.patience)
	if e != api.OK {
		x.t.Fatalf("Open: %d", e)
	}
	x.n, x.m = n, openModel(x.t, x.id, x.serial, x.d[1], x.blocks, x.term, x.patience)
}

// tick lets both tick.
func (x *twins) tick(what string) {
	x.t.Helper()
	x.same(what+": tick", x.n.Tick(), x.m.run(x.m.tick))
}

// take lets both take a message.
func (x *twins) take(what string, from int, m api.Msg) {
	x.t.Helper()
	what = fmt.Sprintf("%s: %+v from %d", what, m, from)
	s, e := mail.Encode(m)
	if e != api.OK {
		x.t.Fatalf("%s: %d", what, e)
	}
	w := api.OK
	if x.m.down {
		w = api.ErrDown
	}
	l, e := x.n.Take(api.Letter{From: from, To: x.id, Body: s})
	if e != w {
		x.t.Fatalf("%s: %d, not %d", what, e, w)
	}
	if w != api.OK {
		x.same(what, l, nil)
		return
	}
	x.same(what, l, x.m.run(func() { x.m.take(from, m) }))
}

// same checks that both sent the same, stand alike, and have the same on their devices.
func (x *twins) same(what string, l []api.Letter, w []letter) {
	x.t.Helper()
	if got := read(x.t, x.id, l); !slices.Equal(got, w) {
		x.t.Fatalf("%s:\n%+v, not\n%+v", what, got, w)
	}
	if got := x.n.View(); got != x.m.view() {
		x.t.Fatalf("%s:\n%+v, not\n%+v", what, got, x.m.view())
	}
	if got := x.n.Entries(); !slices.Equal(got, x.m.cache.All()) {
		x.t.Fatalf("%s:\n%+v, not\n%+v", what, got, x.m.cache.All())
	}
	if got := x.n.Marked(); !slices.Equal(got, x.m.list.Blocks()) {
		x.t.Fatalf("%s: %v, not %v", what, got, x.m.list.Blocks())
	}
	if x.d[0].Dead() != x.d[1].Dead() || !slices.Equal(x.d[0].Pending(), x.d[1].Pending()) {
		x.t.Fatalf("%s: devices: %v, %v", what, x.d[0].Pending(), x.d[1].Pending())
	}
	for i := range x.d[0].Sectors() {
		b, _ := x.d[0].Read(i)
		c, _ := x.d[1].Read(i)
		if string(b) != string(c) {
			x.t.Fatalf("%s: sector %d: %q, %q", what, i, b, c)
		}
	}
}

// read tells letters as messages, which must be from a node.
func read(t *testing.T, from int, l []api.Letter) []letter {
	t.Helper()
	var all []letter
	for _, x := range l {
		m, e := mail.Decode(x.Body)
		if e != api.OK || x.From != from {
			t.Fatalf("%+v: %d", x, e)
		}
		all = append(all, letter{x.To, m})
	}
	return all
}

// fuse lets both devices die behind so many acts.
func (x *twins) fuse(n int) {
	x.d[0].Fuse(n)
	x.d[1].Fuse(n)
}

// crash lets the power go on both devices, and opens both anew.
func (x *twins) crash(keep []sector.Keep) {
	x.t.Helper()
	x.d[0].Crash(keep)
	x.d[1].Crash(keep)
	x.open()
}

// lose lets both devices lose all.
func (x *twins) lose() {
	x.t.Helper()
	x.d[0].Lose()
	x.d[1].Lose()
	x.serial++
	x.open()
}

// newTwins makes twins, on formatted devices.
func newTwins(t *testing.T, id, sectors, blocks int, serial, term, patience int64) *twins {
	t.Helper()
	x := &twins{t: t, id: id, blocks: blocks, serial: serial, term: term, patience: patience}
	for i := range x.d {
		x.d[i] = sector.New(sectors)
		if e := Format(x.d[i]); e != api.OK {
			t.Fatalf("Format: %d", e)
		}
	}
	x.open()
	return x
}

// pick tells one of some numbers.
func pick(r *rand.Rand, l ...int64) int64 {
	return l[r.Intn(len(l))]
}

// someMessage tells a message by chance, and from where: most often such as does something where the model stands.
func someMessage(r *rand.Rand, m *model) (int, api.Msg) {
	x := api.Msg{Epoch: m.epoch, Block: -1, Client: -1, T: m.done}
	from := []int{2, 3, 3, 1 - m.id, 1 - m.id, 4 + r.Intn(4), 4 + r.Intn(4)}[r.Intn(7)]
	switch {
	case from == 2:
		x.Kind = int(pick(r, 2, 2, 3, 3, 3, 4))
		x.Client, x.N, x.Seq = m.id, m.life<<32+m.clock-pick(r, 0, 0, 1, 3), pick(r, 3, 3, int64(m.own()))
		if x.Kind == 2 && m.role == 0 && r.Intn(2) == 0 {
			x.Epoch++
		}
		if x.Kind == 3 {
			x.N, x.Seq = m.change, int64(m.want)
		}
		if x.Kind == 4 {
			x.N = m.serial
		}
	case from == 3:
		x.Kind = int(pick(r, 11, 11, 13, 13))
		if x.Kind == 11 || m.role == 3 {
			someAnswer(r, m, &x)
		}
	case from == 1-m.id:
		x.Kind = []int{5, 5, 6, 6, 6, 7, 8, 9}[r.Intn(8)]
		someOfOther(r, m, &x)
	default:
		x.Kind, x.Seq, x.Block = 14, pick(r, 1, 2, 2, 2, 3, 4), r.Intn(m.blocks)
		x.N = m.cache.Number(from-4) + pick(r, 0, 1, 1, 1)
		if x.Seq == 2 || r.Intn(8) == 0 {
			x.Data = fmt.Sprintf("%08d", r.Intn(1e8))
		}
	}
	if r.Intn(8) == 0 {
		spoil(r, &x)
	}
	return from, x
}

// someAnswer fills an answer of the backing store's, to something that was sent to it.
func someAnswer(r *rand.Rand, m *model, x *api.Msg) {
	x.Block = r.Intn(m.blocks)
	if x.Kind == 11 {
		if dirty := slices.DeleteFunc(m.cache.All(), func(e api.Entry) bool { return !e.Dirty }); len(dirty) > 0 {
			e := dirty[r.Intn(len(dirty))]
			x.Block, x.Seq = e.Block, e.V.Seq
		}
		return
	}
	x.Data = "loaded.."
	if len(m.waits) > 0 {
		w := m.waits[r.Intn(len(m.waits))]
		x.Block, x.N = w.block, w.load
	}
}

// someOfOther fills a message of the other node's.
func someOfOther(r *rand.Rand, m *model, x *api.Msg) {
	last := m.cache.Last()
	switch x.Kind {
	case 5, 7:
		if r.Intn(4) == 0 && m.role != 3 || r.Intn(60) == 0 {
			x.Epoch++
		}
		x.Seq = last.Seq + pick(r, 0, 1, 1, 1, 1)
		if x.Epoch > last.Epoch {
			x.Seq = 1
		}
		if x.Kind == 7 {
			x.Seq += pick(r, 0, 0, 1, 4)
			row := bits.New((m.blocks + 3) / 4)
			for i := range row.Len() {
				if r.Intn(3) == 0 {
					row, _ = row.Put(i)
				}
			}
			x.Row = row.Text()
		} else if r.Intn(4) > 0 {
			x.Block, x.Data, x.Client = r.Intn(m.blocks), fmt.Sprintf("%08d", r.Intn(1e8)), r.Intn(5)-1
			x.N = m.cache.Number(x.Client) + int64(r.Intn(2))
		}
		if r.Intn(3) == 0 {
			x.T[r.Intn(4)] += pick(r, 1, 2)
		}
	case 6:
		x.Seq = m.acked + int64(r.Intn(int(m.last()-m.acked)+1))
		if r.Intn(2) == 0 {
			x.Seq = m.last()
		}
	case 8:
		x.Seq = m.last()
	case 9:
		if l := m.cache.All(); len(l) > 0 {
			e := l[r.Intn(len(l))]
			x.Block, x.Seq = e.Block, e.V.Seq
		}
	}
}

// spoil changes a part of a message, so that it may be still.
func spoil(r *rand.Rand, x *api.Msg) {
	switch r.Intn(9) {
	case 0:
		x.Epoch = max(0, x.Epoch+pick(r, -1, 1))
	case 1:
		x.Seq = max(0, x.Seq+pick(r, -1, 1, 9))
	case 2:
		x.N += pick(r, -1, 1, -9, 9)
	case 3:
		x.Block = r.Intn(33) - 1
	case 4:
		x.Client = r.Intn(5) - 1
	case 5:
		x.E = api.Errno(pick(r, 1, 12, 20, 20, 21, 24, 24, 25))
	case 6:
		x.Data += "more"
	case 7:
		x.Row += "\x00"
	case 8:
		x.T[r.Intn(4)] = pick(r, 0, 7)
	}
}

// step lets something happen to both, by chance.
func (x *twins) step(r *rand.Rand, what string, mayDie bool) {
	x.t.Helper()
	if mayDie && r.Intn(60) == 0 && !x.d[0].Dead() {
		x.fuse(r.Intn(9))
	}
	if r.Intn(6) == 0 {
		x.tick(what)
	}
	from, m := someMessage(r, x.m)
	x.take(what, from, m)
	if x.m.down && r.Intn(3) == 0 || r.Intn(200) == 0 {
		x.crash([]sector.Keep{{How: r.Intn(3), N: r.Intn(api.SectorSize)}, {How: 1}}[:r.Intn(3)])
	}
	if r.Intn(200) == 0 {
		x.lose()
	}
}

// P16.2 to P16.7: long rows of ticks and messages, with deaths, crashes and losses in between, are answered as the model answers them, and leave the same on the device.
func TestRows(t *testing.T) {
	for seed := range int64(1500) {
		r := rand.New(rand.NewSource(seed))
		x := newTwins(t, r.Intn(2), 14+r.Intn(12), 1+r.Intn(9), r.Int63n(3), 1+r.Int63n(9), 1+r.Int63n(3))
		mayDie := r.Intn(3) > 0
		for step := range 250 {
			x.step(r, fmt.Sprint("seed ", seed, ", step ", step), mayDie)
		}
	}
}

// tape is a source of numbers off bytes; behind them all are 0.
type tape struct{ rest []byte }

// Int63 tells a number of one byte, as those see it that take the upper half.
func (x *tape) Int63() int64 {
	if len(x.rest) == 0 {
		return 0
	}
	b := x.rest[0]
	x.rest = x.rest[1:]
	return int64(b) << 32
}

// Seed does nothing: the bytes alone tell.
func (x *tape) Seed(int64) {}

// FuzzTake: whatever comes, in whatever order, a node answers as the model does.
func FuzzTake(f *testing.F) {
	f.Add([]byte("\x01\x00\x01\x00\x00\x00\x02\x01\x01\x01\x01"), 20, 5)
	f.Add([]byte("a row that is longer, of which nobody knows what it does to a node, nor whether it does anything at all"), 14, 10)
	f.Fuzz(func(t *testing.T, row []byte, sectors, blocks int) {
		x := newTwins(t, 0, 14+sectors&15, 1+blocks&7, 0, 4, 1)
		in := &tape{row}
		for r := rand.New(in); len(in.rest) > 0; {
			x.step(r, "row", true)
		}
	})
}
