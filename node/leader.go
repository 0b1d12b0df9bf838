package node

import (
	"seisin/api"
	"seisin/mirror"
)

// Roles.
const (
	idle = iota
	fencing
	recovering
	leading
)

// How far it is with bringing the other node back.
const (
	apart = iota
	asked
	streaming
)

// What a call wants.
const (
	opRead  = 1
	opWrite = 2
	opTrim  = 3
	opFlush = 4
)

// storesAtOnce is how many entries for which no write waits are stored at most in a tick.
const storesAtOnce = 4

// leader is what a node knows that leads, or is about to: it is forgotten at once.
type leader struct {
	role   int
	want   int // a mask; 0: none is wanted
	resync int
	quiet  int64 // ticks in which the other node took nothing
	waits  []*wait
	sender *mirror.Sender
}

// wait is a call that isn't answered.
type wait struct {
	client int
	n      int64
	op     int64 // a trim waits as a write
	block  int

	seq    int64 // a write's; of a flush: up to which one all is to be stored
	stored bool
	load   int64 // a read's; 0: nothing was asked for
}

// forget lets nothing be known.
func (x *leader) forget() {
	*x = leader{sender: mirror.New(0)}
}

// restart lets all items go, as if they were taken.
func (x *leader) restart() {
	x.sender = mirror.New(x.sender.Last())
}

// itemsLeft tells whether some items weren't taken.
func (x *leader) itemsLeft() bool {
	return x.sender.Acked() < x.sender.Last()
}

// has tells whether a call waits.
func (x *leader) has(client int, n int64) bool {
	for _, w := range x.waits {
		if w.client == client && w.n == n {
			return true
		}
	}
	return false
}

// writes tells the writes that wait, in order.
func (x *leader) writes() []*wait {
	var l []*wait
	for _, w := range x.waits {
		if w.op == opWrite {
			l = append(l, w)
		}
	}
	return l
}

// writeOf tells the write that waits for a block: there is one at most; nil, if there is none.
func (x *leader) writeOf(block int) *wait {
	for _, w := range x.writes() {
		if w.block == block {
			return w
		}
	}
	return nil
}

// end goes through what waits, in order, and lets go what is over.
func (x *leader) end(over func(w *wait) bool) {
	var l []*wait
	for _, w := range x.waits {
		if !over(w) {
			l = append(l, w)
		}
	}
	x.waits = l
}

// alone tells whether the other node isn't in sync.
func (n *Node) alone() bool {
	return n.mask != bothNodes
}

// mirroring tells whether the other node is sent what is written.
func (n *Node) mirroring() bool {
	return !n.alone() || n.resync == streaming
}

// mayStore tells whether a write may be stored.
func (n *Node) mayStore(w *wait) bool {
	// While the other node is brought back, the store isn't ahead of it.
	return n.alone() && !w.stored && (n.resync != streaming || w.seq <= n.sender.Acked())
}

// committed tells whether a write is there for good, so that it may be answered.
func (n *Node) committed(w *wait) bool {
	taken := w.seq <= n.sender.Acked()
	switch {
	case !n.alone():
		return taken
	case n.resync == streaming:
		return taken && w.stored
	}
	return w.stored
}

// wants asks for a mask.
func (n *Node) wants(mask int) api.Letter {
	if mask != n.want {
		n.want = mask
		n.change++
	}
	return n.changeLetter()
}

// note lets the other node, and the cache, have a note of what was answered; false, if the node went down.
func (n *Node) note() bool {
	seq, e := n.sender.Add(api.Item{Block: noBlock, Client: nobody})
	if e != api.OK {
		return true // behind the last number there is no note
	}
	if !n.did(n.cache.Note(n.version(seq), n.done[:])) {
		return false
	}
	n.noted = n.done
	return n.did(n.cache.Sync())
}

// bringAgain lets all that is dirty be sent to the other node, as if it were written now; false, if the node went down.
func (n *Node) bringAgain() bool {
	for _, x := range n.dirty() {
		seq, _ := n.sender.Add(item(x)) // behind the last number, the cache refuses the version
		x.V = n.version(seq)
		if !n.did(n.cache.Put(x)) {
			return false
		}
		if w := n.writeOf(x.Block); w != nil {
			w.seq, w.stored = seq, false
		}
	}
	return true
}

// mark marks what is dirty; false, if the node went down.
func (n *Node) mark() bool {
	for _, x := range n.dirty() {
		if !n.did(n.list.Mark(x.Block)) {
			return false
		}
	}
	return true
}

// stores brings each write that waits to the backing store, if it may be stored.
func (n *Node) stores() []api.Letter {
	var l []api.Letter
	for _, w := range n.writes() {
		if n.mayStore(w) {
			l = append(l, n.store(w))
		}
	}
	return l
}

// store brings a write that waits to the backing store.
func (n *Node) store(w *wait) api.Letter {
	x, _ := n.cache.Get(w.block) // it is there, since it stays dirty as long as the write waits
	return n.storeLetter(x, w.client, w.n)
}

// settle answers what may be answered, and looks what comes next.
func (n *Node) settle() []api.Letter {
	var l []api.Letter
	n.end(func(w *wait) bool {
		if w.op != opWrite || !n.committed(w) {
			return false
		}
		n.done[w.client] = max(n.done[w.client], w.n)
		l = append(l, n.answerLetter(w, api.OK, ""))
		return true
	})
	if n.role == recovering && !n.itemsLeft() {
		n.role, n.done = leading, n.table() // all that came to the cache counts as answered
	}
	l = append(l, n.reads()...)
	if n.resync == streaming && n.want == 0 && !n.itemsLeft() && len(n.writes()) == 0 {
		l = append(l, n.endStream()...)
	}
	return l
}

// endStream lets the other node be in sync; it must have a note of all that was answered first.
func (n *Node) endStream() []api.Letter {
	if n.noted == n.done {
		return []api.Letter{n.wants(bothNodes)}
	}
	n.note()
	return n.putLetters()
}

// reads answers reads and flushes that wait, or asks for what they need.
func (n *Node) reads() []api.Letter {
	var l []api.Letter
	n.end(func(w *wait) bool {
		switch {
		case w.op == opFlush && n.flushed(w.seq):
			l = append(l, n.answerLetter(w, api.OK, ""))
			return true
		case w.op == opRead && w.load == 0 && n.writeOf(w.block) == nil:
			letter, over := n.read(w)
			l = append(l, letter)
			return over
		}
		return false
	})
	return l
}

// read answers a read from the cache, and is over then; or it asks the backing store.
func (n *Node) read(w *wait) (api.Letter, bool) {
	if x, ok := n.cache.Get(w.block); ok {
		return n.give(w, x.Data), true
	}
	n.loads++
	w.load = n.loads
	return n.loadLetter(w.block, w.load), false
}

// give answers a read: who doesn't know that nobody else leads may not tell any data.
func (n *Node) give(w *wait, data string) api.Letter {
	if !n.lease.On() {
		return n.answerLetter(w, api.ErrLease, "")
	}
	return n.answerLetter(w, api.OK, data)
}

// flushed tells whether all is stored up to a seq of this epoch.
func (n *Node) flushed(seq int64) bool {
	for _, w := range n.writes() {
		if w.seq <= seq {
			return false
		}
	}
	for _, x := range n.dirty() {
		if x.V.Epoch < n.epoch || x.V.Seq <= seq {
			return false
		}
	}
	return true
}

// leaderTick is a tick of who leads, or recovers.
func (n *Node) leaderTick() []api.Letter {
	l := n.tickPuts()
	l = append(l, n.tickMask()...)
	if n.role != leading {
		return l
	}
	if n.alone() && n.resync != streaming {
		n.resync = asked
		l = append(l, n.beginLetter())
	}
	l = append(l, n.tickStores()...)
	for _, w := range n.waits {
		if w.load > 0 {
			l = append(l, n.loadLetter(w.block, w.load))
		}
	}
	return l
}

// tickPuts sends items once more, and counts how long none was taken.
func (n *Node) tickPuts() []api.Letter {
	if !n.mirroring() || !n.itemsLeft() {
		n.quiet = 0
		return nil
	}
	n.quiet++
	return n.putLetters()
}

// tickMask gives up the other node, if it has been quiet for too long; else it asks once more for the mask that is wanted.
func (n *Node) tickMask() []api.Letter {
	switch {
	case n.quiet <= n.patience && n.want == 0:
		return nil
	case n.quiet <= n.patience:
		return []api.Letter{n.wants(n.want)}
	}
	n.quiet = 0
	if !n.alone() || n.want == bothNodes {
		return []api.Letter{n.wants(n.bit())}
	}
	n.resync = apart
	n.restart()
	return n.settle()
}

// tickStores brings to the backing store the writes that wait, and some of what else is dirty.
func (n *Node) tickStores() []api.Letter {
	var l []api.Letter
	others := 0
	for block := range n.blocks {
		x, _ := n.cache.Get(block) // none isn't dirty
		w := n.writeOf(block)
		switch {
		case w != nil && n.mayStore(w):
			l = append(l, n.store(w))
		case w == nil && x.Dirty && others < storesAtOnce:
			others++
			l = append(l, n.storeLetter(x, nobody, 0))
		}
	}
	return l
}

// version tells the version of a number in this epoch.
func (n *Node) version(seq int64) api.Version {
	return api.Version{Epoch: n.epoch, Seq: seq}
}

// item tells an entry as what is sent to the other node.
func item(x api.Entry) api.Item {
	return api.Item{Block: x.Block, Data: x.Data, Client: x.Client, N: x.N}
}
