package node

import (
	"fmt"
	"math/rand"
	"slices"
	"testing"

	"seisin/api"
	"seisin/backing"
	"seisin/lease"
	"seisin/mail"
	"seisin/net"
	"seisin/sector"
	"seisin/witness"
)

// A pair is two nodes with all that they speak to, to which anything happens: letters are lost, doubled and late, devices die, crash, and lose all.
type pair struct {
	t              *testing.T
	r              *rand.Rand
	what           string
	time           int
	blocks         int
	term, patience int64
	drift          int64

	d       [4]*sector.Dev // of node 0, node 1, the witness, the backing store
	n       [2]*Node       // none: it is off
	serial  [2]int64
	ahead   [2]int64 // how far the witness' clock is ahead of a node's, as lease counts it
	w       *witness.Server
	b       *backing.Store
	net     *net.Net
	callers []*caller
}

// caller is a client, that makes one call behind the other.
type caller struct {
	deeds []deed
	at    int // the present one
	node  int // which is asked
}

// deed is a call, and what came of it.
type deed struct {
	op, block int
	data      string
	from, to  int // when it was first sent, and when it was answered; 0: it wasn't
	e         api.Errno
	told      string
}

// newPair makes a pair, of anything.
func newPair(t *testing.T, seed int64) *pair {
	t.Helper()
	r := rand.New(rand.NewSource(seed))
	p := &pair{t: t, r: r, what: fmt.Sprint("seed ", seed), net: net.New(), blocks: 1 + r.Intn(6), term: 2 + r.Int63n(6), patience: 1 + r.Int63n(4), drift: r.Int63n(200)}
	sectors := 14 + r.Intn(8)
	p.d = [4]*sector.Dev{sector.New(sectors), sector.New(sectors), sector.New(2), sector.New(2 + 2*p.blocks)}
	for i := range 2 {
		want(t, "Format", Format(p.d[i]), api.OK)
	}
	for i := range p.d {
		p.open(i)
	}
	for c := range 1 + r.Intn(4) {
		x := &caller{}
		for i := range 6 {
			k := deed{op: 1 + r.Intn(4), block: r.Intn(p.blocks)}
			if k.op == 2 {
				k.data = fmt.Sprintf("%3d %4d", c, i)
			}
			x.deeds = append(x.deeds, k)
		}
		p.callers = append(p.callers, x)
	}
	return p
}

// open opens what lies on a device; what its device died on stays off.
func (p *pair) open(i int) {
	p.t.Helper()
	e := api.OK
	switch i {
	case 2:
		wait, _ := lease.Wait(p.term, p.drift)
		p.w, e = witness.Open(p.d[i], 0, 1, wait)
	case 3:
		p.b, e = backing.Open(p.d[i], 0, p.blocks)
	default:
		p.n[i], e = Open(i, p.serial[i], p.d[i], p.blocks, p.term, p.patience)
		p.ahead[i] = 0
	}
	if e != api.OK && e != api.ErrDown {
		p.t.Fatalf("%s: open %d: %d", p.what, i, e)
	}
}

// crash lets a device crash; a node is off then, others are opened at once.
func (p *pair) crash(i int, keep []sector.Keep) {
	p.d[i].Crash(keep)
	if i < 2 {
		p.n[i] = nil
	} else {
		p.open(i)
	}
}

// keep tells what a crash keeps, by chance.
func (p *pair) keep() []sector.Keep {
	var l []sector.Keep
	for range p.r.Intn(4) {
		l = append(l, sector.Keep{How: p.r.Intn(3), N: p.r.Intn(api.SectorSize)})
	}
	return l
}

// tick lets a node tick, if it is on.
func (p *pair) tick(i int) {
	if p.n[i] != nil {
		p.ahead[i] = max(0, p.ahead[i]-1000-p.drift)
		p.send(i, p.n[i].Tick())
	}
}

// tickWitness lets the witness tick, as far as the clocks of the nodes that are on go together with its own.
func (p *pair) tickWitness() {
	for i := range p.n {
		if p.n[i] != nil && p.ahead[i]+1000-p.drift > 1000+p.drift {
			return
		}
	}
	for i := range p.n {
		p.ahead[i] += 1000 - p.drift
	}
	p.w.Tick()
}

// send sends what a node sends, and checks what it answers.
func (p *pair) send(i int, l []api.Letter) {
	p.t.Helper()
	for _, x := range read(p.t, i, l) {
		if x.m.Kind == api.MsgAnswer && x.m.E == api.OK {
			p.answers(i, x.to-api.FirstClient, x.m.N)
		}
	}
	for _, x := range l {
		p.net.Send(x)
	}
}

// answers checks P16.8: a node has answered OK to a call.
func (p *pair) answers(i, client int, n int64) {
	p.t.Helper()
	k := p.callers[client].deeds[n-1]
	mine, _ := p.n[i].cache.Get(k.block)
	// A call that is sent again may have been written over by then.
	if k.op != opWrite && k.op != opTrim || mine.Dirty && (mine.Client != client || mine.N != n) {
		return
	}
	stored := p.b.Table()[client] >= n
	if p.n[i].alone() && !stored {
		p.t.Fatalf("%s: node %d has answered call %d of %d, which the backing store hasn't", p.what, i, n, client)
	}
	if p.n[i].alone() || stored || p.serial[1-i] > 0 || p.d[1-i].Dead() {
		return
	}
	others, _ := p.look(1 - i)
	if !slices.ContainsFunc(others, func(x api.Entry) bool { return x.Block == k.block && !above(mine.V, x.V) }) {
		p.t.Fatalf("%s: node %d has answered call %d of %d, which the other one hasn't", p.what, i, n, client)
	}
}

// arrive lets a letter come.
func (p *pair) arrive(l api.Letter) {
	p.t.Helper()
	m, _ := mail.Decode(l.Body)
	switch {
	case l.To >= api.FirstClient:
		p.callers[l.To-api.FirstClient].hear(l.From, m, p.time)
	case l.To == api.Witness:
		if a, ok := p.w.Take(l.From, m); ok {
			p.post(l.To, l.From, a)
		}
	case l.To == api.Backing:
		if a, ok := p.b.Take(m); ok {
			p.post(l.To, l.From, a)
		}
	case p.n[l.To] != nil:
		sent, _ := p.n[l.To].Take(l)
		p.send(l.To, sent)
	}
}

// post sends a message.
func (p *pair) post(from, to int, m api.Msg) {
	p.t.Helper()
	s, e := mail.Encode(m)
	want(p.t, "Encode", e, api.OK)
	p.net.Send(api.Letter{From: from, To: to, Body: s})
}

// hear hears an answer.
func (c *caller) hear(node int, m api.Msg, time int) {
	switch {
	case c.at == len(c.deeds) || m.N != int64(c.at+1), m.E == api.ErrLease, m.E == api.ErrBusy:
	case m.E == api.ErrPrimary:
		if node == c.node {
			c.node = 1 - node
		}
	default:
		k := &c.deeds[c.at]
		k.to, k.e, k.told = time, m.E, m.Data
		c.at++
	}
}

// poke lets a client send its present call.
func (p *pair) poke(i int) {
	p.t.Helper()
	c := p.callers[i]
	if c.at == len(c.deeds) {
		return
	}
	k := &c.deeds[c.at]
	if k.from == 0 {
		k.from = p.time
	}
	p.post(api.FirstClient+i, c.node, call(int64(c.at+1), int64(k.op), k.block, k.data))
}

// mayLose tells whether a node's device may lose all: the witness has the other node in sync, and will have, which has all of it that isn't stored.
func (p *pair) mayLose(i int) bool {
	for _, l := range p.net.All() {
		// One that is under way may put the other node out of sync, when nobody knows of the loss.
		if m, _ := mail.Decode(l.Body); l.From == i && m.Kind == api.MsgChange {
			return false
		}
	}
	if p.w.Mask()>>(1-i)&1 == 0 || p.d[0].Dead() || p.d[1].Dead() {
		return false
	}
	mine, lost := p.look(i)
	others, otherLost := p.look(1 - i)
	if lost || otherLost {
		return lost && !otherLost
	}
	for _, x := range mine {
		if x.Dirty && !slices.ContainsFunc(others, func(y api.Entry) bool {
			return x.Block == y.Block && x.Data == y.Data && x.Client == y.Client && x.N == y.N
		}) {
			return false
		}
	}
	return true
}

// look tells what a node has, on or off, and whether its device has lost all.
func (p *pair) look(i int) ([]api.Entry, bool) {
	p.t.Helper()
	n := p.n[i]
	if n == nil {
		n, _ = Open(i, p.serial[i], clone(p.t, p.d[i]), p.blocks, p.term, p.patience)
	}
	return n.Entries(), n.lost
}

// harm lets something happen that shouldn't.
func (p *pair) harm() {
	r := p.r
	switch r.Intn(12) {
	case 0, 1, 2:
		p.net.Copy(r.Intn(1 << 20))
	case 3, 4, 5:
		p.net.Drop(r.Intn(1 << 20))
	case 6:
		p.crash(r.Intn(2), p.keep())
	case 7:
		p.d[r.Intn(4)].Fuse(r.Intn(10))
	case 8:
		p.crash(2, p.keep())
	case 9:
		p.crash(3, p.keep())
	case 10:
		if i := r.Intn(2); p.mayLose(i) {
			p.d[i].Lose()
			p.serial[i]++
			p.n[i] = nil
		}
	case 11:
		p.callers[r.Intn(len(p.callers))].node ^= 1
	}
}

// mend lets what is off, or down, come again.
func (p *pair) mend(keep []sector.Keep) {
	for i := range p.d {
		if p.d[i].Dead() {
			p.crash(i, keep)
		}
		if i < 2 && p.n[i] == nil {
			p.open(i)
		}
	}
}

// act lets something happen.
func (p *pair) act(harms int) {
	p.time++
	switch k := p.r.Intn(100); {
	case k < 12:
		p.poke(p.r.Intn(len(p.callers)))
	case k < 60:
		if l, ok := p.net.Take(p.r.Intn(max(1, min(p.net.Len(), 8)))); ok {
			p.arrive(l)
		}
	case k < 70:
		p.tick(p.r.Intn(2))
	case k < 76:
		p.tickWitness()
	case k < 77+harms:
		p.harm()
	case p.r.Intn(10) == 0:
		p.mend(p.keep())
	}
}

// goesOn tells whether, with nothing happening that shouldn't, all calls are answered, one node leads, and both are in sync.
func (p *pair) goesOn() bool {
	for i := range p.d {
		p.crash(i, nil)
	}
	p.mend(nil)
	for range 300 {
		p.tick(0)
		p.tick(1)
		p.tickWitness()
		over := p.w.Mask() == bothNodes
		for i, c := range p.callers {
			p.poke(i)
			over = over && c.at == len(c.deeds)
		}
		for range 300 {
			p.time++
			if l, ok := p.net.Take(0); ok {
				p.arrive(l)
			}
		}
		if over && (p.n[0].role == leading) != (p.n[1].role == leading) {
			return true
		}
	}
	return false
}

// history tells what clients have seen of a block: reads that were answered, and writes.
func (p *pair) history(block int) []deed {
	var l []deed
	for _, c := range p.callers {
		for _, k := range c.deeds {
			if k.op == opTrim {
				k.data = zeros
			}
			if k.block == block && k.from > 0 && k.op != opFlush && (k.op != opRead || k.e == api.OK) {
				l = append(l, k)
			}
		}
	}
	return l
}

// right tells whether a history is what one block would have answered, of these bytes, when those of set have been done.
func right(l []deed, set int, data string, tried map[string]bool) bool {
	key := fmt.Sprint(set, data)
	if tried[key] {
		return false
	}
	tried[key] = true
	first, more := 1<<60, false // when the first one that is left was answered
	for i, k := range l {
		if set>>i&1 == 0 && k.e == api.OK {
			first, more = min(first, k.to), true
		}
	}
	if !more {
		return true
	}
	for i, k := range l {
		if set>>i&1 == 1 || k.from > first || k.op == opRead && k.told != data {
			continue
		}
		next := k.data
		if k.op == opRead {
			next = data
		}
		if right(l, set|1<<i, next, tried) {
			return true
		}
	}
	return false
}

// P16.8: whatever happens, what is answered OK to a write the other node has, or the backing store. What follows of that: clients see one array; and when no harm is done any more, it goes on.
func TestPairs(t *testing.T) {
	for seed := range int64(1500) {
		p := newPair(t, seed)
		harms := p.r.Intn(20)
		for range 300 + p.r.Intn(900) {
			p.act(harms)
		}
		if !p.goesOn() {
			t.Fatalf("%s: it doesn't go on: %+v, %+v", p.what, p.n[0].View(), p.n[1].View())
		}
		for block := range p.blocks {
			if l := p.history(block); len(l) < 24 && !right(l, 0, zeros, map[string]bool{}) {
				t.Fatalf("%s: block %d: %+v", p.what, block, l)
			}
		}
	}
}
