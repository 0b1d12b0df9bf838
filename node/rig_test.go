package node

import (
	"fmt"
	"slices"
	"testing"

	"seisin/api"
	"seisin/cache"
	"seisin/cell"
	"seisin/code"
	"seisin/mail"
	"seisin/sector"
)

// rig is a node, and its device. Where nothing else is said it is node 0, of serial 7, with 10 blocks, 20 sectors (room for 8 entries), leases of 5 ticks, and a patience of 2, on a device that was formatted, and its life is 2 + 7 * 2^14.
type rig struct {
	t *testing.T
	d *sector.Dev
	n *Node
}

const (
	theSerial   = 7
	theBlocks   = 10
	theTerm     = 5
	thePatience = 2
	theLife     = 2 + 7<<14

	zeros = "\x00\x00\x00\x00\x00\x00\x00\x00"
)

// want checks an error.
func want(t *testing.T, what string, e, w api.Errno) {
	t.Helper()
	if e != w {
		t.Errorf("%s: %d, not %d", what, e, w)
	}
}

// formatted tells a device that was formatted.
func formatted(t *testing.T) *sector.Dev {
	t.Helper()
	d := sector.New(20)
	want(t, "Format", Format(d), api.OK)
	return d
}

// opens opens a node on a device; it must be able to.
func opens(t *testing.T, d *sector.Dev, id int) *rig {
	t.Helper()
	n, e := Open(id, theSerial, d, theBlocks, theTerm, thePatience)
	if e != api.OK || n == nil {
		t.Fatalf("Open: %v, %d", n, e)
	}
	return &rig{t, d, n}
}

// fresh tells a node that was opened just now.
func fresh(t *testing.T) *rig {
	t.Helper()
	return opens(t, formatted(t), 0)
}

// msg tells a message that says little.
func msg(kind int, epoch, seq, n int64) api.Msg {
	return api.Msg{Kind: kind, Epoch: epoch, Seq: seq, N: n, Block: -1, Client: -1}
}

// of tells a message as one of a block.
func of(m api.Msg, block int) api.Msg {
	m.Block = block
	return m
}

// by tells a message as one of a client, with data.
func by(m api.Msg, client int, data string) api.Msg {
	m.Client, m.Data = client, data
	return m
}

// done tells a message with clients' numbers.
func done(m api.Msg, t ...int64) api.Msg {
	copy(m.T[:], t)
	return m
}

// failed tells a message with an error.
func failed(m api.Msg, e api.Errno) api.Msg {
	m.E = e
	return m
}

// What a node sends.
func ask(epoch, seq, clock int64) letter {
	return letter{2, msg(api.MsgAsk, epoch, seq, theLife<<32+clock)}
}
func change(epoch, mask, n int64) letter { return letter{2, msg(api.MsgChange, epoch, mask, n)} }
func load(epoch int64, block int, n int64) letter {
	return letter{3, of(msg(api.MsgLoad, epoch, 0, n), block)}
}
func put(epoch, seq, n int64, block, client int, data string, t ...int64) letter {
	return letter{1, done(by(of(msg(api.MsgPut, epoch, seq, n), block), client, data), t...)}
}
func store(epoch, seq, n int64, block, client int, data string, t ...int64) letter {
	return letter{3, done(by(of(msg(api.MsgStore, epoch, seq, n), block), client, data), t...)}
}
func begin(epoch, seq int64, row string, t ...int64) letter {
	m := done(msg(api.MsgBegin, epoch, seq, 0), t...)
	m.Row = row
	return letter{1, m}
}
func had(epoch, seq int64) letter   { return letter{1, msg(api.MsgHad, epoch, seq, 0)} }
func ready(epoch, seq int64) letter { return letter{1, msg(api.MsgReady, epoch, seq, 0)} }
func cleaned(epoch, seq int64, block int) letter {
	return letter{1, of(msg(api.MsgCleaned, epoch, seq, 0), block)}
}
func answer(epoch int64, client int, n int64, block int, e api.Errno, data string) letter {
	return letter{4 + client, failed(by(of(msg(api.MsgAnswer, epoch, 0, n), block), -1, data), e)}
}

// What a node hears.
func grant(epoch, mask, clock int64) api.Msg {
	return by(msg(api.MsgGrant, epoch, mask, theLife<<32+clock), 0, "")
}
func loaded(epoch int64, block int, n int64, data string, t ...int64) api.Msg {
	return done(by(of(msg(api.MsgLoaded, epoch, 0, n), block), -1, data), t...)
}
func stored(epoch, seq int64, block int) api.Msg {
	return of(msg(api.MsgStored, epoch, seq, 0), block)
}
func call(n, op int64, block int, data string) api.Msg {
	return by(of(msg(api.MsgCall, 0, op, n), block), -1, data)
}
func write(n int64, block int, data string) api.Msg { return call(n, 2, block, data) }

// sends checks what was sent.
func (x *rig) sends(what string, l []api.Letter, w []letter) {
	x.t.Helper()
	if got := read(x.t, x.n.id, l); !slices.Equal(got, w) {
		x.t.Errorf("%s:\n%+v, not\n%+v", what, got, w)
	}
}

// tick lets the node tick, and checks what it sends.
func (x *rig) tick(w ...letter) {
	x.t.Helper()
	x.sends("Tick", x.n.Tick(), w)
}

// ticks lets the node tick some times, whatever it sends.
func (x *rig) ticks(n int) {
	for range n {
		x.n.Tick()
	}
}

// bring brings a message to the node.
func (x *rig) bring(from int, m api.Msg) []api.Letter {
	x.t.Helper()
	s, e := mail.Encode(m)
	if e != api.OK {
		x.t.Fatalf("%+v: %d", m, e)
	}
	l, e := x.n.Take(api.Letter{From: from, To: x.n.id, Body: s})
	want(x.t, fmt.Sprintf("%+v", m), e, api.OK)
	return l
}

// take brings a message to the node, and checks what it sends.
func (x *rig) take(from int, m api.Msg, w ...letter) {
	x.t.Helper()
	x.sends(fmt.Sprintf("%+v from %d", m, from), x.bring(from, m), w)
}

// view checks how the node stands.
func (x *rig) view(w View) {
	x.t.Helper()
	if got := x.n.View(); got != w {
		x.t.Errorf("%+v, not %+v", got, w)
	}
}

// entry tells an entry.
func entry(block int, epoch, seq int64, data string, dirty bool, client int, n int64) api.Entry {
	return api.Entry{Block: block, V: api.Version{Epoch: epoch, Seq: seq}, Data: data, Dirty: dirty, Client: client, N: n}
}

// has checks the node's entries.
func (x *rig) has(w ...api.Entry) {
	x.t.Helper()
	if got := x.n.Entries(); !slices.Equal(got, w) {
		x.t.Errorf("%+v, not %+v", got, w)
	}
}

// marked checks the blocks that are marked.
func (x *rig) marked(w ...int) {
	x.t.Helper()
	if got := x.n.Marked(); !slices.Equal(got, w) {
		x.t.Errorf("%v, not %v", got, w)
	}
}

// kept checks what the cache has of versions and clients.
func (x *rig) kept(epoch, seq int64, t ...int64) {
	x.t.Helper()
	var w table
	copy(w[:], t)
	if v := x.n.cache.Last(); v != (api.Version{Epoch: epoch, Seq: seq}) || x.n.table() != w {
		x.t.Errorf("%v, %v, not %d %d, %v", v, x.n.table(), epoch, seq, w)
	}
}

// sure checks that nothing is pending on the device.
func (x *rig) sure() {
	x.t.Helper()
	if l := x.d.Pending(); len(l) != 0 {
		x.t.Errorf("pending: %v", l)
	}
}

// reopened tells the node that is there behind a crash that keeps nothing.
func (x *rig) reopened() *rig {
	x.t.Helper()
	x.d.Crash(nil)
	return opens(x.t, x.d, x.n.id)
}

// fenced tells a node that was granted epoch 1.
func fenced(t *testing.T, mask int64) *rig {
	t.Helper()
	x := fresh(t)
	x.tick(ask(0, 1, 1))
	x.take(2, grant(1, mask, 1), load(1, -1, 0))
	return x
}

// fences lets the node be granted an epoch, whatever its life is.
func (x *rig) fences(epoch, mask int64) {
	x.t.Helper()
	x.ticks(1)
	m := grant(epoch, mask, 0)
	m.N = x.n.life<<32 + x.n.clock
	x.take(2, m, load(epoch, -1, 0))
}

// leads tells a node that leads epoch 1, with the other one in sync; its table is 1, 2, 3, 4.
func leads(t *testing.T) *rig {
	t.Helper()
	x := fenced(t, 3)
	x.take(3, loaded(1, -1, 0, "", 1, 2, 3, 4), put(1, 1, 0, -1, -1, "", 1, 2, 3, 4))
	x.take(1, msg(api.MsgHad, 1, 1, 0))
	x.view(View{Epoch: 1, Role: 3, Mask: 3, Left: 5, Seq: 1, Acked: 1})
	return x
}

// leadsAlone tells a node that leads epoch 1 alone; its table is 1, 2, 3, 4.
func leadsAlone(t *testing.T) *rig {
	t.Helper()
	x := fenced(t, 1)
	x.take(3, loaded(1, -1, 0, "", 1, 2, 3, 4))
	x.view(View{Epoch: 1, Role: 3, Mask: 1, Left: 5})
	return x
}

// streams tells a node that leads epoch 1 alone, and brings the other one back: item 1 is a note.
func streams(t *testing.T) *rig {
	t.Helper()
	x := leadsAlone(t)
	x.tick(ask(1, 0, 2), begin(1, 0, "\x03\x00", 1, 2, 3, 4))
	x.take(1, msg(api.MsgReady, 1, 0, 0), put(1, 1, 0, -1, -1, "", 1, 2, 3, 4))
	x.view(View{Epoch: 1, Role: 3, Mask: 1, Resync: 2, Left: 4, Seq: 1})
	return x
}

// renew lets the lease be as long as it may be.
func (x *rig) renew() {
	x.t.Helper()
	x.take(2, grant(x.n.View().Epoch, int64(x.n.View().Mask), x.n.clock))
}

// layText lets a cell of a device have a text, of a generation.
func layText(t *testing.T, d *sector.Dev, at int, gen int64, text string) {
	t.Helper()
	want(t, "Write", d.Write(at, cell.Slot(gen, text)), api.OK)
	want(t, "Barrier", d.Barrier(), api.OK)
}

// recText tells a record as a text.
func recText(r api.Rec) string {
	b, _ := code.Encode(r)
	return string(b)
}

// some tells a formatted device with two dirty entries, and a clean one, of epoch 1; the table is 5, 6, 0, 2.
func some(t *testing.T) *sector.Dev {
	t.Helper()
	d := formatted(t)
	c, _ := cache.Open(d, 6, 14, 4, 5, theBlocks)
	for _, e := range []api.Entry{entry(8, 1, 1, "abcdefgh", true, 0, 5), entry(0, 1, 2, "ABCDEFGH", false, 1, 6), entry(2, 1, 3, "12345678", true, -1, 0)} {
		want(t, "Put", c.Put(e), api.OK)
	}
	want(t, "Note", c.Note(api.Version{Epoch: 1, Seq: 4}, []int64{0, 0, 0, 2}), api.OK)
	want(t, "Sync", c.Sync(), api.OK)
	return d
}

// clone tells a device with the same bytes.
func clone(t *testing.T, d *sector.Dev) *sector.Dev {
	t.Helper()
	c := sector.New(d.Sectors())
	for i := range d.Sectors() {
		b, e := d.Read(i)
		want(t, "Read", e, api.OK)
		want(t, "Write", c.Write(i, b), api.OK)
	}
	want(t, "Barrier", c.Barrier(), api.OK)
	return c
}

// puts tells a Put that the node hears.
func puts(epoch, seq, n int64, block, client int, data string, t ...int64) api.Msg {
	return put(epoch, seq, n, block, client, data, t...).m
}

// begins tells a Begin that the node hears.
func begins(epoch, seq int64, row string, t ...int64) api.Msg {
	return begin(epoch, seq, row, t...).m
}

// worn tells a node on a device on whose log n more records can come.
func worn(t *testing.T, n int64) *rig {
	t.Helper()
	d := formatted(t)
	layText(t, d, 4, 1, recText(api.Rec{Kind: 3, Nums: []int64{api.MaxNumber - n, 0, 0}}))
	return opens(t, d, 0)
}
