package node

import (
	"seisin/api"
	"seisin/mail"
)

// putsAtOnce is how many items are sent at most, ahead of being told that the first ones were taken.
const putsAtOnce = 8

// letter tells a message as a letter.
func (n *Node) letter(to int, m api.Msg) api.Letter {
	body, _ := mail.Encode(m) // that may be: its numbers and texts are of messages, or of the cache, which may be
	return api.Letter{From: n.id, To: to, Body: body}
}

// blank tells a message of a kind, that says the epoch alone.
func (n *Node) blank(kind int) api.Msg {
	return api.Msg{Kind: kind, Epoch: n.epoch, Block: noBlock, Client: nobody}
}

// lostLetter tells the witness that the device has lost all.
func (n *Node) lostLetter() api.Letter {
	m := n.blank(api.MsgLost)
	m.N = n.serial
	return n.letter(api.Witness, m)
}

// askLetter asks the witness for an epoch, or for the one that is held for longer.
func (n *Node) askLetter() api.Letter {
	m := n.blank(api.MsgAsk)
	if n.role == idle {
		m.Seq = 1
	}
	m.N = perLife*n.life + n.clock
	return n.letter(api.Witness, m)
}

// changeLetter asks the witness for the mask that is wanted.
func (n *Node) changeLetter() api.Letter {
	m := n.blank(api.MsgChange)
	m.Seq, m.N = int64(n.want), n.change
	return n.letter(api.Witness, m)
}

// putLetter sends an item to the other node.
func (n *Node) putLetter(x api.Item) api.Letter {
	m := n.blank(api.MsgPut)
	m.Seq, m.N, m.Block, m.Client, m.Data, m.T = x.Seq, x.N, x.Block, x.Client, x.Data, n.done
	return n.letter(n.other(), m)
}

// putLetters sends the first items that are left.
func (n *Node) putLetters() []api.Letter {
	var l []api.Letter
	for i, x := range n.sender.Left() {
		if i == putsAtOnce {
			break
		}
		l = append(l, n.putLetter(x))
	}
	return l
}

// beginLetter asks the other node to begin anew with what it has, but for what is dirty there, or marked here.
func (n *Node) beginLetter() api.Letter {
	m := n.blank(api.MsgBegin)
	m.Seq, m.T, m.Row = n.sender.Last(), n.done, n.list.Row().Text()
	return n.letter(n.other(), m)
}

// seqLetter sends a message of a kind, that says a number in this epoch and a block, to the other node.
func (n *Node) seqLetter(kind int, seq int64, block int) api.Letter {
	m := n.blank(kind)
	m.Seq, m.Block = seq, block
	return n.letter(n.other(), m)
}

// storeLetter brings an entry to the backing store, as a call of a client, or of nobody.
func (n *Node) storeLetter(x api.Entry, client int, number int64) api.Letter {
	m := n.blank(api.MsgStore)
	m.Seq, m.N, m.Block, m.Client, m.Data, m.T = x.V.Seq, number, x.Block, client, x.Data, n.done
	return n.letter(api.Backing, m)
}

// loadLetter asks the backing store for a block, or, by none, for its table.
func (n *Node) loadLetter(block int, load int64) api.Letter {
	m := n.blank(api.MsgLoad)
	m.Block, m.N = block, load
	return n.letter(api.Backing, m)
}

// answerLetter answers a call.
func (n *Node) answerLetter(w *wait, e api.Errno, data string) api.Letter {
	m := n.blank(api.MsgAnswer)
	m.N, m.Block, m.E, m.Data = w.n, w.block, e, data
	return n.letter(api.FirstClient+w.client, m)
}
