package node

import (
	"slices"
	"testing"

	"seisin/api"
	"seisin/cache"
	"seisin/mirror"
)

// P16.7: calls that may not be are answered with the first error that applies, and change nothing.
func TestCallErrors(t *testing.T) {
	wrong := []struct {
		m api.Msg
		e api.Errno
	}{
		{call(9, 0, 0, ""), api.ErrArg}, {call(9, 5, -1, ""), api.ErrArg}, {call(9, api.MaxNumber, 31, "?"), api.ErrArg},
		{call(9, 1, -1, ""), api.ErrRange}, {call(9, 1, theBlocks, ""), api.ErrRange}, {call(9, 2, 31, "?"), api.ErrRange}, {call(9, 2, -1, "abcdefgh"), api.ErrRange}, {call(1, 3, theBlocks, ""), api.ErrRange},
		{call(9, 2, 0, ""), api.ErrSize}, {call(9, 2, 0, "abcdefg"), api.ErrSize}, {call(9, 2, 9, "abcdefghi"), api.ErrSize}, {call(1, 2, 9, "abcdefghi"), api.ErrSize},
	}
	for _, begun := range []func(*testing.T) *rig{leads, leadsAlone, streams} {
		x := begun(t)
		was := x.n.View()
		for _, c := range wrong {
			x.take(7, c.m, answer(1, 3, c.m.N, c.m.Block, c.e, ""))
			x.view(was)
		}
		for _, n := range []int64{0, -1, -api.MaxNumber} {
			for op := range int64(6) {
				x.take(7, call(n, op, 0, "abcdefgh"))
			}
		}
		x.view(was)
		x.ticks(5)
		was = x.n.View()
		for _, c := range append(wrong, struct {
			m api.Msg
			e api.Errno
		}{m: write(9, 0, "abcdefgh")}) {
			x.take(7, c.m, answer(1, 3, c.m.N, c.m.Block, api.ErrLease, ""))
			x.view(was)
		}
		x.has()
	}
	idle, recovers := fresh(t), fenced(t, 3)
	fences := fenced(t, 3)
	recovers.bring(3, loaded(1, -1, 0, ""))
	for _, x := range []*rig{idle, recovers, fences} {
		was := x.n.View()
		for _, c := range wrong {
			x.take(5, c.m, answer(was.Epoch, 1, c.m.N, c.m.Block, api.ErrPrimary, ""))
		}
		x.take(5, call(0, 1, 0, ""))
		x.view(was)
	}
}

// P16.7: a read is given what the cache has, or waits for what is loaded, or for the write ahead of it.
func TestRead(t *testing.T) {
	x := leads(t)
	x.take(4, call(9, 1, 0, "whatever"), load(1, 0, 1))
	x.take(4, call(9, 1, 0, "")) // it waits
	x.take(4, call(9, 2, 3, "abcdefgh"))
	x.take(5, call(9, 1, 0, ""), load(1, 0, 2))
	x.take(4, write(2, 0, "abcdefgh"), put(1, 2, 2, 0, 0, "abcdefgh", 1, 2, 3, 4))
	x.take(6, call(9, 1, 0, ""))
	x.take(7, call(9, 1, 0, ""))
	x.view(View{Epoch: 1, Role: 3, Mask: 3, Waits: 5, Left: 5, Seq: 2, Acked: 1})
	x.take(3, loaded(1, 0, 1, zeros), answer(1, 0, 9, 0, api.OK, zeros)) // what was asked for ahead of the write
	x.take(1, msg(api.MsgHad, 1, 2, 0), answer(1, 0, 2, 0, api.OK, ""), answer(1, 2, 9, 0, api.OK, "abcdefgh"), answer(1, 3, 9, 0, api.OK, "abcdefgh"))
	x.take(4, call(1, 1, 0, ""), answer(1, 0, 1, 0, api.OK, "abcdefgh")) // a read's number is no matter
	x.take(4, call(2, 1, 0, ""), answer(1, 0, 2, 0, api.OK, "abcdefgh"))
	x.view(View{Epoch: 1, Role: 3, Mask: 3, Waits: 1, Left: 5, Seq: 2, Acked: 2})
	x.kept(1, 2, 2, 2, 3, 4)
}

// P16.7: a flush is answered when all is stored that was written ahead of it.
func TestFlush(t *testing.T) {
	x := leads(t)
	x.take(4, call(2, 4, 31, "?"), answer(1, 0, 2, 31, api.OK, "")) // nothing is dirty; its block is no matter
	x.take(4, write(3, 0, "abcdefgh"), put(1, 2, 3, 0, 0, "abcdefgh", 1, 2, 3, 4))
	x.take(5, call(3, 4, -1, ""))
	x.take(5, call(3, 4, -1, ""))
	x.take(4, write(4, 1, "ABCDEFGH"), put(1, 3, 4, 1, 0, "ABCDEFGH", 1, 2, 3, 4))
	x.take(6, call(4, 4, -1, ""))
	x.take(1, msg(api.MsgHad, 1, 3, 0), answer(1, 0, 3, 0, api.OK, ""), answer(1, 0, 4, 1, api.OK, ""))
	x.take(3, stored(1, 3, 1), cleaned(1, 3, 1))
	x.take(3, stored(1, 2, 0), cleaned(1, 2, 0), answer(1, 1, 3, -1, api.OK, ""), answer(1, 2, 4, -1, api.OK, ""))
	x.view(View{Epoch: 1, Role: 3, Mask: 3, Left: 5, Seq: 3, Acked: 3})
	// What is written behind it is no matter.
	x.take(5, write(5, 2, "12345678"), put(1, 4, 5, 2, 1, "12345678", 4, 2, 3, 4))
	x.take(1, msg(api.MsgHad, 1, 4, 0), answer(1, 1, 5, 2, api.OK, ""))
	x.take(4, call(5, 4, -1, ""))
	x.take(6, write(5, 3, "87654321"), put(1, 5, 5, 3, 2, "87654321", 4, 5, 3, 4))
	x.take(1, msg(api.MsgHad, 1, 5, 0), answer(1, 2, 5, 3, api.OK, ""))
	x.take(3, stored(1, 4, 2), cleaned(1, 4, 2), answer(1, 0, 5, -1, api.OK, ""))
	// No lease is asked for when it is over.
	x.take(4, call(6, 4, -1, ""))
	x.ticks(5)
	x.take(3, stored(1, 5, 3), cleaned(1, 5, 3), answer(1, 0, 6, -1, api.OK, ""))
	// An entry of an elder epoch isn't stored, whatever its number is.
	y := opens(t, some(t), 0)
	y.n.epoch, y.n.role, y.n.mask = 2, leading, 3
	y.n.lease.Set(5)
	y.take(4, call(6, 4, -1, ""))
	if y.n.View().Waits != 1 {
		t.Errorf("%+v", y.n.View())
	}
}

// P16.7: a flush that waits when all is brought again waits for nothing then, and is answered as soon as something is settled; a message of no block settles nothing.
func TestFlushOfStreaming(t *testing.T) {
	x := leadsAlone(t)
	x.take(4, write(2, 5, "abcdefgh"), store(1, 1, 2, 5, 0, "abcdefgh", 1, 2, 3, 4))
	x.take(6, call(1, 4, -1, ""))
	x.tick(ask(1, 0, 2), begin(1, 1, "\x03\x02", 1, 2, 3, 4), store(1, 1, 2, 5, 0, "abcdefgh", 1, 2, 3, 4))
	x.take(1, msg(api.MsgReady, 1, 1, 0), put(1, 2, 2, 5, 0, "abcdefgh", 1, 2, 3, 4), put(1, 3, 0, -1, -1, "", 1, 2, 3, 4))
	x.take(3, stored(1, 1, -1))
	x.take(3, loaded(1, 5, 1, ""))
	x.take(3, stored(1, 1, 5), answer(1, 2, 1, -1, api.OK, ""))
	x.has(entry(5, 1, 2, "abcdefgh", true, 0, 2))
}

// P16.7: a write is laid, for sure, and sent on; a trim is a write of bytes 0.
func TestWrite(t *testing.T) {
	x := leads(t)
	x.take(4, write(2, 5, "abcdefgh"), put(1, 2, 2, 5, 0, "abcdefgh", 1, 2, 3, 4))
	x.has(entry(5, 1, 2, "abcdefgh", true, 0, 2))
	x.kept(1, 2, 2, 2, 3, 4)
	x.sure()
	x.marked()
	x.take(7, call(api.MaxNumber, 3, 9, "?"), put(1, 3, api.MaxNumber, 9, 3, zeros, 1, 2, 3, 4))
	x.kept(1, 3, 2, 2, 3, api.MaxNumber)
	x.take(1, msg(api.MsgHad, 1, 3, 0), answer(1, 0, 2, 5, api.OK, ""), answer(1, 3, api.MaxNumber, 9, api.OK, ""))
	x.take(7, call(1, 1, 9, ""), answer(1, 3, 1, 9, api.OK, zeros))
	y := x.reopened()
	y.has(entry(5, 1, 2, "abcdefgh", true, 0, 2), entry(9, 1, 3, zeros, true, 3, api.MaxNumber))
	// Alone it is marked, and stored.
	x = leadsAlone(t)
	x.take(4, call(2, 3, 5, ""), store(1, 1, 2, 5, 0, zeros, 1, 2, 3, 4))
	x.marked(4, 5, 6, 7)
	x.has(entry(5, 1, 1, zeros, true, 0, 2))
	x.sure()
	x.view(View{Epoch: 1, Role: 3, Mask: 1, Waits: 1, Left: 5, Seq: 1, Acked: 1})
	// While the other node is brought back it is marked too, and sent to it first.
	x = streams(t)
	x.take(4, write(2, 9, "abcdefgh"), put(1, 2, 2, 9, 0, "abcdefgh", 1, 2, 3, 4))
	x.marked(8, 9)
	x.view(View{Epoch: 1, Role: 3, Mask: 1, Resync: 2, Waits: 1, Left: 4, Seq: 2})
}

// P16.7: elder numbers aren't answered; one write at a time waits for a block.
func TestWriteNumbers(t *testing.T) {
	x := leads(t)
	x.take(7, write(3, 0, "abcdefgh"))
	x.take(7, call(1, 3, 0, ""))
	x.take(7, write(4, 0, "abcdefgh"), answer(1, 3, 4, 0, api.OK, "")) // it was done
	x.take(7, call(4, 3, 1, ""), answer(1, 3, 4, 1, api.OK, ""))
	x.take(7, write(9, 0, "abcdefgh"), put(1, 2, 9, 0, 3, "abcdefgh", 1, 2, 3, 4))
	x.take(7, write(9, 0, "abcdefgh")) // it waits
	x.take(7, write(8, 1, "abcdefgh"))
	x.take(6, write(4, 0, "ABCDEFGH"), answer(1, 2, 4, 0, api.ErrBusy, ""))
	x.take(6, call(4, 3, 0, ""), answer(1, 2, 4, 0, api.ErrBusy, ""))
	x.take(6, call(3, 3, 0, ""), answer(1, 2, 3, 0, api.OK, "")) // it was done: that is told first
	x.take(6, call(2, 3, 0, ""))
	x.take(1, msg(api.MsgHad, 1, 2, 0), answer(1, 3, 9, 0, api.OK, ""))
	x.take(7, write(9, 0, "abcdefgh"), answer(1, 3, 9, 0, api.OK, ""))
	x.take(6, write(4, 0, "ABCDEFGH"), put(1, 3, 4, 0, 2, "ABCDEFGH", 1, 2, 3, 9))
}

// P16.7: of a client's writes the greatest number that was answered counts, in whatever order they are.
func TestWritesOfOneClient(t *testing.T) {
	x := leadsAlone(t)
	x.take(4, write(5, 0, "abcdefgh"), store(1, 1, 5, 0, 0, "abcdefgh", 1, 2, 3, 4))
	x.take(4, write(6, 1, "ABCDEFGH"), store(1, 2, 6, 1, 0, "ABCDEFGH", 1, 2, 3, 4))
	x.take(3, stored(1, 2, 1), answer(1, 0, 6, 1, api.OK, ""))
	x.tick(ask(1, 0, 2), begin(1, 2, "\x03\x01", 6, 2, 3, 4), store(1, 1, 5, 0, 0, "abcdefgh", 6, 2, 3, 4))
	x.take(3, stored(1, 1, 0), answer(1, 0, 5, 0, api.OK, ""))
	x.tick(ask(1, 0, 3), begin(1, 2, "\x03\x01", 6, 2, 3, 4))
}

// P16.7: sixteen calls wait at most; each kind of call is refused then, but what was done.
func TestManyWaits(t *testing.T) {
	x := leads(t)
	x.take(4, write(5, 9, "abcdefgh"), put(1, 2, 5, 9, 0, "abcdefgh", 1, 2, 3, 4))
	for i := range int64(15) {
		x.take(5, call(10+i, 1, 9, ""))
	}
	was := x.n.View()
	if was.Waits != 16 {
		t.Errorf("%+v", was)
	}
	for op := int64(1); op <= 4; op++ {
		x.take(6, call(50, op, 0, "abcdefgh"), answer(1, 2, 50, 0, api.ErrBusy, ""))
	}
	x.take(5, call(10, 1, 9, ""))
	x.take(6, write(2, 0, "abcdefgh"))
	x.take(6, write(3, 0, "abcdefgh"), answer(1, 2, 3, 0, api.OK, ""))
	x.view(was)
	x.has(entry(9, 1, 2, "abcdefgh", true, 0, 5))
	x.ticks(2)
	x.n.wants(1)
	x.bring(2, msg(api.MsgChange, 1, 1, 1))
	x.take(6, write(3, 0, "abcdefgh"), answer(1, 2, 3, 0, api.OK, ""))
	if l := x.bring(3, stored(1, 2, 9)); len(l) != 16 {
		t.Errorf("%d", len(l))
	}
	x.view(View{Epoch: 1, Role: 3, Mask: 1, Left: 3, Seq: 2, Acked: 2})
}

// doneAlone tells a node that leads epoch 2 alone, with two dirty blocks, 3 and 8, that no call waits for, of one call, client 0's number 5.
func doneAlone(t *testing.T) *rig {
	t.Helper()
	d := formatted(t)
	c, _ := cache.Open(d, 6, 14, 4, 5, theBlocks)
	for _, e := range []api.Entry{
		entry(8, 1, 1, "abcdefgh", true, 0, 5), entry(3, 1, 2, "ABCDEFGH", true, 0, 5), entry(1, 1, 3, "12345678", false, 0, 5),
		entry(0, 1, 4, "87654321", true, 1, 5), entry(2, 1, 5, "........", true, 0, 4),
	} {
		want(t, "Put", c.Put(e), api.OK)
	}
	x := opens(t, d, 0)
	x.ticks(1)
	x.take(2, grant(2, 1, 1), load(2, -1, 0))
	x.take(3, loaded(2, -1, 0, ""))
	x.view(View{Epoch: 2, Role: 3, Mask: 1, Left: 5, Seq: 4, Acked: 4})
	return x
}

// P16.7: alone, a write that was done, and isn't stored, waits for that, by the first block that is of it.
func TestDoneAlone(t *testing.T) {
	x := doneAlone(t)
	x.take(4, write(5, 7, "????????"), store(2, 3, 5, 3, 0, "ABCDEFGH", 5, 5))
	x.take(4, write(5, 7, "????????"))
	x.view(View{Epoch: 2, Role: 3, Mask: 1, Waits: 1, Left: 5, Seq: 4, Acked: 4})
	x.take(3, stored(2, 3, 3), answer(2, 0, 5, 3, api.OK, ""))
	x.take(4, call(5, 3, 7, ""), store(2, 4, 5, 8, 0, "abcdefgh", 5, 5)) // the other one
	x.take(3, stored(2, 4, 8), answer(2, 0, 5, 8, api.OK, ""))
	x.take(4, write(5, 7, "????????"), answer(2, 0, 5, 7, api.OK, ""))
	x.has(entry(0, 2, 1, "87654321", true, 1, 5), entry(1, 1, 3, "12345678", false, 0, 5), entry(2, 2, 2, "........", true, 0, 4), entry(3, 2, 3, "ABCDEFGH", false, 0, 5), entry(8, 2, 4, "abcdefgh", false, 0, 5))
}

// P16.7: where a write waits for that block already, or sixteen calls wait, it is busy.
func TestDoneBusy(t *testing.T) {
	x := doneAlone(t)
	x.take(6, write(1, 3, "12345678"), store(2, 5, 1, 3, 2, "12345678", 5, 5)) // writes over one of the two
	x.take(6, write(2, 8, "12345678"), store(2, 6, 2, 8, 2, "12345678", 5, 5))
	x.take(4, write(5, 7, "????????"), answer(2, 0, 5, 7, api.OK, "")) // both are written over
	x = doneAlone(t)
	x.take(5, write(5, 6, "????????"), store(2, 1, 5, 0, 1, "87654321", 5, 5))
	want(t, "Put", x.n.cache.Put(entry(0, 2, 5, "........", true, 0, 5)), api.OK)
	x.take(4, write(5, 7, "????????"), answer(2, 0, 5, 7, api.ErrBusy, "")) // a write waits for block 0
	x = doneAlone(t)
	x.take(6, write(1, 9, "12345678"), store(2, 5, 1, 9, 2, "12345678", 5, 5))
	for i := range int64(15) {
		if i == 14 {
			y := *x.n // with fifteen it may wait still
			y.waits = slices.Clone(y.waits)
			x.sends("fifteen", y.hearCall(4, write(5, 7, "????????")), []letter{store(2, 3, 5, 3, 0, "ABCDEFGH", 5, 5)})
		}
		x.take(7, call(i+1, 1, 9, ""))
	}
	x.take(4, write(5, 7, "????????"), answer(2, 0, 5, 7, api.ErrBusy, ""))
	x.view(View{Epoch: 2, Role: 3, Mask: 1, Waits: 16, Left: 5, Seq: 5, Acked: 5})
}

// P16.7: while the other node is brought back, what was done is stored just when that has it.
func TestDoneOfStreaming(t *testing.T) {
	x := doneAlone(t)
	for i, block := range []int{0, 2, 3} {
		x.bring(3, stored(2, int64(i+1), block))
	}
	x.tick(ask(2, 0, 2), begin(2, 4, "\x03\x05", 5, 5), store(2, 4, 0, 8, -1, "abcdefgh", 5, 5))
	x.take(1, msg(api.MsgReady, 2, 4, 0), put(2, 5, 5, 8, 0, "abcdefgh", 5, 5), put(2, 6, 0, -1, -1, "", 5, 5))
	x.take(4, write(5, 8, "abcdefgh"))
	x.view(View{Epoch: 2, Role: 3, Mask: 1, Resync: 2, Waits: 1, Left: 4, Seq: 6, Acked: 4})
	x.take(1, msg(api.MsgHad, 2, 5, 0), store(2, 5, 5, 8, 0, "abcdefgh", 5, 5))
	x.take(3, stored(2, 5, 8), answer(2, 0, 5, 8, api.OK, ""), cleaned(2, 5, 8)) // the note is left
	x.take(1, msg(api.MsgHad, 2, 6, 0), change(2, 3, 1))                         // all was taken, and nobody was answered since the note
	// What the other node has by then is stored at once.
	x = doneAlone(t)
	x.tick(ask(2, 0, 2), begin(2, 4, "\x03\x05", 5, 5), store(2, 1, 0, 0, -1, "87654321", 5, 5), store(2, 2, 0, 2, -1, "........", 5, 5), store(2, 3, 0, 3, -1, "ABCDEFGH", 5, 5), store(2, 4, 0, 8, -1, "abcdefgh", 5, 5))
	x.bring(1, msg(api.MsgReady, 2, 4, 0))
	x.take(1, msg(api.MsgHad, 2, 7, 0))
	x.take(4, write(5, 8, "abcdefgh"), store(2, 7, 5, 3, 0, "ABCDEFGH", 5, 5))
}

// P16.7: where there is no room, or no number is left, that is answered.
func TestWriteFull(t *testing.T) {
	x := leads(t)
	for i := range 8 {
		x.bring(4, write(int64(i+2), i, "abcdefgh"))
	}
	was := x.n.View()
	x.take(5, write(9, 8, "abcdefgh"), answer(1, 1, 9, 8, api.ErrFull, ""))
	x.view(was)
	x.kept(1, 9, 9, 2, 3, 4)
	x.n.wants(1)
	x.bring(2, msg(api.MsgChange, 1, 1, 1))
	x.marked(0, 1, 2, 3, 4, 5, 6, 7)
	x.take(5, write(9, 8, "abcdefgh"), answer(1, 1, 9, 8, api.ErrFull, ""))
	x.marked(0, 1, 2, 3, 4, 5, 6, 7, 8, 9)
	x.bring(3, stored(1, 3, 1))
	x.take(5, write(9, 8, "abcdefgh"), store(1, 10, 9, 8, 1, "abcdefgh", 3, 2, 3, 4))
	x = leadsAlone(t)
	x.n.sender = mirror.New(api.MaxNumber)
	x.take(5, write(9, 8, "abcdefgh"), answer(1, 1, 9, 8, api.ErrSeq, ""))
	x.marked()
	x.has()
	x.n.sender = mirror.New(api.MaxNumber - 1)
	x.take(5, write(9, 8, "abcdefgh"), store(1, api.MaxNumber, 9, 8, 1, "abcdefgh", 1, 2, 3, 4))
}

// P16.7: a write on a device that dies takes effect once or never: nobody is told.
func TestWriteGoesDown(t *testing.T) {
	for fuse := range 2 {
		x := leads(t)
		x.d.Fuse(fuse)
		x.take(4, write(2, 5, "abcdefgh"))
		x.view(View{Down: true, Epoch: 1, Role: 3, Mask: 3, Left: 5, Seq: 1, Acked: 1})
	}
	for fuse := range 4 {
		x := leadsAlone(t)
		x.d.Fuse(fuse)
		x.take(4, write(2, 5, "abcdefgh"))
		x.view(View{Down: true, Epoch: 1, Role: 3, Mask: 1, Left: 5})
	}
}
