package node

import (
	"seisin/api"
	"seisin/bits"
	"seisin/mirror"
)

// hearing is what hears a message from a place, and tells what is sent then.
type hearing func(from int, m api.Msg) []api.Letter

// hearer tells who hears messages of a kind from a place; nil, if nobody does.
func (n *Node) hearer(from, kind int) hearing {
	switch {
	case from == api.Witness:
		return n.hearerOfWitness(kind)
	case n.lost:
		return nil
	case from == api.Backing:
		return n.hearBacking
	case from == n.other():
		return n.hearerOfOther(kind)
	case kind == api.MsgCall:
		return n.hearCall
	}
	return nil
}

// hearerOfWitness tells who hears the witness.
func (n *Node) hearerOfWitness(kind int) hearing {
	switch {
	case n.lost && kind == api.MsgLost:
		return n.hearLost
	case n.lost:
		return nil
	case kind == api.MsgGrant:
		return n.hearGrant
	case kind == api.MsgChange:
		return n.hearChange
	}
	return nil
}

// hearerOfOther tells who hears the other node.
func (n *Node) hearerOfOther(kind int) hearing {
	switch kind {
	case api.MsgPut:
		return n.hearPut
	case api.MsgBegin:
		return n.hearBegin
	case api.MsgHad:
		return n.hearHad
	case api.MsgReady:
		return n.hearReady
	case api.MsgCleaned:
		return n.hearCleaned
	}
	return nil
}

// hearLost hears that the witness knows that the device has lost all.
func (n *Node) hearLost(_ int, m api.Msg) []api.Letter {
	if m.E != api.OK || m.N != n.serial {
		return nil
	}
	for block := range n.blocks {
		if !n.did(n.list.Mark(block)) {
			return nil
		}
	}
	if n.did(n.bear(m.Epoch)) {
		n.lost = false
	}
	return nil
}

// hearGrant hears who leads, and for how long.
func (n *Node) hearGrant(_ int, m api.Msg) []api.Letter {
	if m.E != api.OK || m.Client != n.id {
		if m.Client != n.id && m.Epoch >= n.epoch && n.role != idle {
			n.stepDown()
		}
		return nil
	}
	asked := m.N - perLife*n.life // by the clock
	if asked < 0 || asked > n.clock {
		return nil
	}
	var l []api.Letter
	if m.Epoch > n.epoch {
		if !n.adopt(m.Epoch) {
			return nil
		}
		n.role, n.mask, n.change = fencing, int(m.Seq), 0
		l = append(l, n.loadLetter(noBlock, 0))
	}
	if m.Epoch == n.epoch && n.role != idle {
		// It counts from when it was asked for: the witness can't have granted it ahead of that.
		n.lease.Set(max(n.lease.Left(), n.term-n.clock+asked))
	}
	return l
}

// hearChange hears who is in sync, as it was wanted.
func (n *Node) hearChange(_ int, m api.Msg) []api.Letter {
	switch {
	case n.role != recovering && n.role != leading, m.Epoch != n.epoch:
		return nil
	case m.E == api.ErrPrimary:
		n.stepDown()
		return nil
	case m.E != api.OK, n.want == 0, m.N != n.change:
		return nil
	}
	n.want, n.resync, n.quiet, n.mask = 0, apart, 0, int(m.Seq)
	switch n.mask {
	case bothNodes:
		return n.join()
	case n.bit():
		return n.part()
	}
	n.stepDown()
	return nil
}

// join goes on with the other node in sync.
func (n *Node) join() []api.Letter {
	if !n.did(n.list.Clear()) {
		return nil
	}
	return n.settle()
}

// part goes on without the other node.
func (n *Node) part() []api.Letter {
	if !n.mark() {
		return nil
	}
	n.restart()
	return append(n.stores(), n.settle()...) // who recovers leads then, since no item is left
}

// hearBacking hears the backing store.
func (n *Node) hearBacking(_ int, m api.Msg) []api.Letter {
	switch {
	case m.Epoch != n.epoch, n.role == idle:
		return nil
	case m.E == api.ErrToken:
		n.stepDown()
		return nil
	case m.E != api.OK:
		return nil
	case m.Kind == api.MsgLoaded && n.role == fencing && m.Block == noBlock:
		return n.begin(m.T)
	case m.Kind == api.MsgLoaded && n.role == leading:
		return n.loaded(m)
	case m.Kind == api.MsgStored && n.role != fencing && m.Block != noBlock:
		return n.wasStored(m)
	}
	return nil
}

// begin begins to lead, with what the backing store has heard of.
func (n *Node) begin(t table) []api.Letter {
	if !n.hasHeard(t) {
		return nil
	}
	if n.mask == n.bit() && !n.mark() {
		return nil
	}
	if !n.bringAgain() { // by a new sender, as of one that has adopted its epoch
		return nil
	}
	n.done = n.table()
	if !n.alone() {
		if !n.note() {
			return nil
		}
		n.role = recovering
		return n.putLetters()
	}
	if !n.did(n.cache.Sync()) {
		return nil
	}
	n.restart()
	n.role = leading
	return nil
}

// hasHeard lets the cache's table have numbers that are greater; false, if the node went down.
func (n *Node) hasHeard(t table) bool {
	return !t.above(n.table()) || n.did(n.cache.Note(api.Version{}, t[:]))
}

// loaded gives a read the data that it waited for.
func (n *Node) loaded(m api.Msg) []api.Letter {
	var l []api.Letter
	n.end(func(w *wait) bool {
		if w.load == 0 || w.load != m.N || w.block != m.Block {
			return false
		}
		l = append(l, n.give(w, m.Data))
		return true
	})
	return l
}

// wasStored hears that the backing store has a block's version.
func (n *Node) wasStored(m api.Msg) []api.Letter {
	if w := n.writeOf(m.Block); w != nil && w.seq == m.Seq {
		w.stored = true
	}
	l := n.settle()
	v := n.version(m.Seq)
	x, _ := n.cache.Get(m.Block) // none isn't dirty
	if n.down || n.writeOf(m.Block) != nil || !x.Dirty || x.V != v {
		return l
	}
	if !n.did(n.cache.Clean(m.Block, v)) {
		return nil
	}
	if n.mirroring() {
		l = append(l, n.seqLetter(api.MsgCleaned, m.Seq, m.Block))
	}
	return append(l, n.reads()...)
}

// follows tells whether who sends this leads, as far as the node knows; a later epoch is its own from then on.
func (n *Node) follows(m api.Msg) bool {
	if m.Epoch < n.epoch {
		return false
	}
	if m.Epoch > n.epoch && !n.adopt(m.Epoch) {
		return false
	}
	return n.role == idle
}

// hearPut hears of an item.
func (n *Node) hearPut(_ int, m api.Msg) []api.Letter {
	if !n.follows(m) {
		return nil
	}
	switch mirror.Next(n.cache.Last(), m.Epoch, m.Seq) {
	case mirror.Nothing:
		return nil
	case mirror.Take:
		if !n.takeItem(m) {
			return nil
		}
	}
	return []api.Letter{n.seqLetter(api.MsgHad, n.cache.Last().Seq, noBlock)}
}

// takeItem lets the cache have an item; false, if it doesn't.
func (n *Node) takeItem(m api.Msg) bool {
	last := n.cache.Last()
	if m.Epoch > last.Epoch && n.table().above(m.T) {
		// Who leads now knows all that was answered; what was only laid here may go.
		if !n.did(n.cache.Reset(last, m.T[:])) {
			return false
		}
	}
	return n.layItem(m) && n.did(n.cache.Sync())
}

// layItem lays an item, which isn't sure then; false, if it can't be laid, or the node went down.
func (n *Node) layItem(m api.Msg) bool {
	v := api.Version{Epoch: m.Epoch, Seq: m.Seq}
	if m.Block == noBlock {
		return n.did(n.cache.Note(v, m.T[:]))
	}
	if !n.hasHeard(m.T) {
		return false
	}
	e := n.cache.Put(api.Entry{Block: m.Block, V: v, Data: m.Data, Dirty: true, Client: m.Client, N: m.N})
	switch e {
	case api.ErrFull, api.ErrRange, api.ErrSize, api.ErrArg:
		return false
	}
	return n.did(e)
}

// hearBegin hears from where on it is brought back.
func (n *Node) hearBegin(_ int, m api.Msg) []api.Letter {
	if !n.follows(m) {
		return nil
	}
	v, last := api.Version{Epoch: m.Epoch, Seq: m.Seq}, n.cache.Last()
	if above(last, v) || last != v && !n.takeBegin(m, v) {
		return nil
	}
	return []api.Letter{n.seqLetter(api.MsgReady, m.Seq, noBlock)}
}

// takeBegin lets go what the other node may have otherwise, so that the cache is as it was there at a version; false, if it isn't.
func (n *Node) takeBegin(m api.Msg, v api.Version) bool {
	row, e := bits.Load(m.Row)
	if e != api.OK || row.Len() != n.list.Row().Len() {
		return false
	}
	for _, x := range n.cache.All() {
		if (x.Dirty || row.Has(x.Block/api.RegionSize)) && !n.did(n.cache.Drop(x.Block)) {
			return false
		}
	}
	return n.did(n.cache.Reset(v, m.T[:])) && n.did(n.cache.Sync())
}

// hearHad hears up to where the other node took all.
func (n *Node) hearHad(_ int, m api.Msg) []api.Letter {
	if n.role != recovering && n.role != leading || m.Epoch != n.epoch || !n.mirroring() || !n.sender.Ack(m.Seq) {
		return nil
	}
	n.quiet = 0
	return append(n.stores(), n.settle()...)
}

// hearReady hears that the other node has begun, so that what is dirty may come to it.
func (n *Node) hearReady(_ int, m api.Msg) []api.Letter {
	if n.role != leading || !n.alone() || n.resync != asked || m.Epoch != n.epoch || m.Seq != n.sender.Last() {
		return nil
	}
	n.resync, n.quiet = streaming, 0
	if !n.bringAgain() || !n.note() {
		return nil
	}
	return n.putLetters()
}

// hearCleaned hears that a version was brought to the backing store.
func (n *Node) hearCleaned(_ int, m api.Msg) []api.Letter {
	if n.role != idle || m.Epoch != n.epoch || m.Block == noBlock {
		return nil
	}
	if e := n.cache.Clean(m.Block, n.version(m.Seq)); e != api.ErrNone {
		n.did(e)
	}
	return nil
}

// above tells whether a version is above another one.
func above(v, w api.Version) bool {
	return v.Epoch > w.Epoch || v.Epoch == w.Epoch && v.Seq > w.Seq
}
