package node

import "seisin/api"

// maxWaits is how many calls may wait.
const maxWaits = 16

// hearCall hears what a client wants.
func (n *Node) hearCall(from int, m api.Msg) []api.Letter {
	w := &wait{client: from - api.FirstClient, n: m.N, op: m.Seq, block: m.Block}
	if w.n < 1 || n.has(w.client, w.n) {
		return nil
	}
	if e := n.refusal(m); e != api.OK {
		return n.refuse(w, e)
	}
	data := m.Data
	if w.op == opTrim {
		w.op, data = opWrite, string(make([]byte, api.BlockSize))
	}
	if w.op == opWrite {
		switch number := n.cache.Number(w.client); {
		case w.n < number:
			return nil
		case w.n == number:
			return n.again(w)
		case n.writeOf(w.block) != nil:
			return n.refuse(w, api.ErrBusy)
		}
	}
	switch {
	case len(n.waits) >= maxWaits:
		return n.refuse(w, api.ErrBusy)
	case w.op == opWrite:
		return n.write(w, data)
	case w.op == opFlush:
		w.seq = n.sender.Last()
	}
	n.waits = append(n.waits, w)
	return n.reads()
}

// refusal tells why a call may not be, whatever was done of it.
func (n *Node) refusal(m api.Msg) api.Errno {
	switch {
	case n.role != leading:
		return api.ErrPrimary
	case !n.lease.On():
		return api.ErrLease
	case m.Seq < opRead, m.Seq > opFlush:
		return api.ErrArg
	case m.Seq != opFlush && (m.Block < 0 || m.Block >= n.blocks):
		return api.ErrRange
	case m.Seq == opWrite && len(m.Data) != api.BlockSize:
		return api.ErrSize
	}
	return api.OK
}

// refuse answers a call with an error.
func (n *Node) refuse(w *wait, e api.Errno) []api.Letter {
	return []api.Letter{n.answerLetter(w, e, "")}
}

// again answers a write that was done; alone, it must be stored first.
func (n *Node) again(w *wait) []api.Letter {
	x, ok := n.dirtyOf(w)
	switch {
	case !n.alone() || !ok:
		return []api.Letter{n.answerLetter(w, api.OK, "")}
	case n.writeOf(x.Block) != nil, len(n.waits) >= maxWaits:
		return n.refuse(w, api.ErrBusy)
	}
	w.block, w.seq = x.Block, x.V.Seq
	n.waits = append(n.waits, w)
	return n.storeAtOnce(w)
}

// dirtyOf tells the first entry, by block, that a call left dirty; false, if there is none.
func (n *Node) dirtyOf(w *wait) (api.Entry, bool) {
	for _, x := range n.dirty() {
		if x.Client == w.client && x.N == w.n {
			return x, true
		}
	}
	return api.Entry{}, false
}

// write lays what is written, and sends it on.
func (n *Node) write(w *wait, data string) []api.Letter {
	if n.sender.Last() >= api.MaxNumber {
		return n.refuse(w, api.ErrSeq)
	}
	if n.alone() && !n.did(n.list.Mark(w.block)) {
		return nil
	}
	x := api.Entry{Block: w.block, V: n.version(n.sender.Last() + 1), Data: data, Dirty: true, Client: w.client, N: w.n}
	switch e := n.cache.Put(x); {
	case e == api.ErrFull:
		return n.refuse(w, e)
	case !n.did(e), !n.did(n.cache.Sync()):
		return nil
	}
	return n.sendOn(w, item(x))
}

// sendOn sends a write that is laid to who is to have it, and lets it wait for that.
func (n *Node) sendOn(w *wait, x api.Item) []api.Letter {
	x.Seq, _ = n.sender.Add(x) // there is room for it, since it is laid
	w.seq = x.Seq
	n.waits = append(n.waits, w)
	if n.mirroring() {
		return []api.Letter{n.putLetter(x)} // the store isn't ahead of the other node
	}
	n.sender.Ack(x.Seq)
	return n.storeAtOnce(w)
}

// storeAtOnce brings a write to the backing store, if it may be stored.
func (n *Node) storeAtOnce(w *wait) []api.Letter {
	if !n.mayStore(w) {
		return nil
	}
	return []api.Letter{n.store(w)}
}
