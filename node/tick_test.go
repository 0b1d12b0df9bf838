package node

import (
	"fmt"
	"testing"

	"seisin/api"
	"seisin/cache"
	"seisin/sector"
)

// P16.2: who is idle asks for a new epoch; who is lost tells that, and nothing else; who is down says nothing, and its clock stands.
func TestTickOfIdle(t *testing.T) {
	x := fresh(t)
	for clock := range int64(9) {
		x.tick(ask(0, 1, clock+1))
	}
	x.view(View{})
	x = opens(t, sector.New(20), 1)
	for range 9 {
		x.tick(letter{2, msg(api.MsgLost, 0, 0, 7)})
	}
	x.view(View{Lost: true})
	x = leads(t)
	x.d.Fuse(0)
	x.take(4, write(2, 0, "abcdefgh"))
	x.view(View{Down: true, Epoch: 1, Role: 3, Mask: 3, Left: 5, Seq: 1, Acked: 1})
	x.tick()
	x.view(View{Down: true, Epoch: 1, Role: 3, Mask: 3, Left: 5, Seq: 1, Acked: 1})
}

// P16.2: who fences asks for its table, till it is told.
func TestTickOfFencing(t *testing.T) {
	x := fenced(t, 3)
	x.view(View{Epoch: 1, Role: 1, Mask: 3, Left: 5})
	for i := range int64(7) {
		x.tick(ask(1, 0, 2+i), load(1, -1, 0))
		x.view(View{Epoch: 1, Role: 1, Mask: 3, Left: max(0, 4-i)})
	}
}

// P16.2, 1 and 2: who recovers sends its items again; when the other node has been quiet for longer than it has patience, it wants to be alone, again and again, by the same number.
func TestTickOfRecovering(t *testing.T) {
	x := fenced(t, 3)
	note := put(1, 1, 0, -1, -1, "")
	x.take(3, loaded(1, -1, 0, ""), note)
	x.tick(ask(1, 0, 2), note)
	x.tick(ask(1, 0, 3), note)
	x.view(View{Epoch: 1, Role: 2, Mask: 3, Left: 3, Seq: 1})
	x.tick(ask(1, 0, 4), note, change(1, 1, 1))
	for i := range int64(2) {
		x.tick(ask(1, 0, 5+i), note, change(1, 1, 1))
	}
	x.view(View{Epoch: 1, Role: 2, Mask: 3, Want: 1, Seq: 1})
	x.tick(ask(1, 0, 7), note, change(1, 1, 1)) // quiet for too long once more
	x.take(1, msg(api.MsgHad, 1, 1, 0))
	x.view(View{Epoch: 1, Role: 3, Mask: 3, Want: 1, Seq: 1, Acked: 1})
	x.tick(ask(1, 0, 8), change(1, 1, 1))
}

// P16.2, 1: quiet counts just while items are left; what was taken begins it anew.
func TestQuiet(t *testing.T) {
	x := leads(t)
	first, second := put(1, 2, 2, 0, 0, "abcdefgh", 1, 2, 3, 4), put(1, 3, 3, 1, 1, "ABCDEFGH", 1, 2, 3, 4)
	x.ticks(4)
	x.renew()
	x.take(4, write(2, 0, "abcdefgh"), first)
	x.take(5, write(3, 1, "ABCDEFGH"), second)
	x.tick(ask(1, 0, 6), first, second)
	x.tick(ask(1, 0, 7), first, second)
	x.take(1, msg(api.MsgHad, 1, 2, 0), answer(1, 0, 2, 0, api.OK, ""))
	second.m.T[0] = 2
	x.tick(ask(1, 0, 8), second, store(1, 2, 0, 0, -1, "abcdefgh", 2, 2, 3, 4))
	x.tick(ask(1, 0, 9), second, store(1, 2, 0, 0, -1, "abcdefgh", 2, 2, 3, 4))
	x.take(1, msg(api.MsgHad, 1, 2, 0)) // nothing new
	x.tick(ask(1, 0, 10), second, change(1, 1, 1), store(1, 2, 0, 0, -1, "abcdefgh", 2, 2, 3, 4))
	x.take(1, msg(api.MsgHad, 1, 3, 0), answer(1, 1, 3, 1, api.OK, ""))
	if x.n.quiet != 0 {
		t.Errorf("%d", x.n.quiet)
	}
}

// P16.2, 1: at most eight items are sent at once, the first ones.
func TestPutsAtOnce(t *testing.T) {
	d := sector.New(30)
	want(t, "Format", Format(d), api.OK)
	c, _ := cache.Open(d, 6, 24, 4, 5, theBlocks)
	for i := range theBlocks {
		want(t, "Put", c.Put(entry(i, 1, int64(i+1), fmt.Sprintf("block%3d", i), i != 4, i%5-1, int64(i))), api.OK)
	}
	want(t, "Sync", c.Sync(), api.OK)
	x := opens(t, d, 0)
	x.ticks(1)
	x.take(2, grant(2, 3, 1), load(2, -1, 0))
	var puts []letter
	for i := range theBlocks {
		if i != 4 {
			puts = append(puts, put(2, int64(len(puts)+1), int64(i), i, i%5-1, fmt.Sprintf("block%3d", i), 6, 7, 8, 9))
		}
	}
	puts = append(puts, put(2, 10, 0, -1, -1, "", 6, 7, 8, 9))
	x.take(3, loaded(2, -1, 0, ""), puts[:8]...)
	x.view(View{Epoch: 2, Role: 2, Mask: 3, Left: 5, Seq: 10})
	x.sure()
	x.tick(append([]letter{ask(2, 0, 2)}, puts[:8]...)...)
	x.take(1, msg(api.MsgHad, 2, 1, 0))
	x.tick(append([]letter{ask(2, 0, 3)}, puts[1:9]...)...)
	x.take(1, msg(api.MsgHad, 2, 9, 0))
	x.view(View{Epoch: 2, Role: 2, Mask: 3, Left: 3, Seq: 10, Acked: 9})
	x.tick(ask(2, 0, 4), puts[9])
	x.take(1, msg(api.MsgHad, 2, 10, 0))
	x.view(View{Epoch: 2, Role: 3, Mask: 3, Left: 2, Seq: 10, Acked: 10})
	// P16.2, 4: the first four are stored in a tick.
	var stores []letter
	for i := range 5 {
		if i != 4 {
			stores = append(stores, store(2, int64(i+1), 0, i, -1, fmt.Sprintf("block%3d", i), 6, 7, 8, 9))
		}
	}
	x.tick(append([]letter{ask(2, 0, 5)}, stores...)...)
}

// P16.2, 3: who leads alone asks the other node to begin, in each tick, with what is marked, and was answered.
func TestTickOfAlone(t *testing.T) {
	x := leadsAlone(t)
	x.tick(ask(1, 0, 2), begin(1, 0, "\x03\x00", 1, 2, 3, 4))
	x.view(View{Epoch: 1, Role: 3, Mask: 1, Resync: 1, Left: 4})
	x.take(5, write(3, 9, "abcdefgh"), store(1, 1, 3, 9, 1, "abcdefgh", 1, 2, 3, 4))
	x.tick(ask(1, 0, 3), begin(1, 1, "\x03\x04", 1, 2, 3, 4), store(1, 1, 3, 9, 1, "abcdefgh", 1, 2, 3, 4))
	x.take(3, stored(1, 1, 9), answer(1, 1, 3, 9, api.OK, ""))
	x.tick(ask(1, 0, 4), begin(1, 1, "\x03\x04", 1, 3, 3, 4))
	x.view(View{Epoch: 1, Role: 3, Mask: 1, Resync: 1, Left: 2, Seq: 1, Acked: 1})
}

// P16.2, 2: where the other node is brought back, and becomes quiet, it is begun anew with it; what was stored is answered then.
func TestTickOfStreaming(t *testing.T) {
	x := streams(t)
	note := put(1, 1, 0, -1, -1, "", 1, 2, 3, 4)
	x.take(4, write(2, 2, "abcdefgh"), put(1, 2, 2, 2, 0, "abcdefgh", 1, 2, 3, 4))
	second := put(1, 2, 2, 2, 0, "abcdefgh", 1, 2, 3, 4)
	x.take(3, stored(1, 2, 2)) // the other node hasn't taken it
	x.tick(ask(1, 0, 3), note, second)
	x.tick(ask(1, 0, 4), note, second)
	x.view(View{Epoch: 1, Role: 3, Mask: 1, Resync: 2, Waits: 1, Left: 2, Seq: 2})
	x.tick(ask(1, 0, 5), note, second, answer(1, 0, 2, 2, api.OK, ""), begin(1, 2, "\x03\x01", 2, 2, 3, 4), store(1, 2, 0, 2, -1, "abcdefgh", 2, 2, 3, 4))
	x.view(View{Epoch: 1, Role: 3, Mask: 1, Resync: 1, Left: 1, Seq: 2, Acked: 2})
}

// P16.2, 2: where both are wanted in sync, and the other node becomes quiet, it wants to be alone, which is another change.
func TestTickOfWantingBoth(t *testing.T) {
	x := streams(t)
	x.take(1, msg(api.MsgHad, 1, 1, 0), change(1, 3, 1))
	x.view(View{Epoch: 1, Role: 3, Mask: 1, Want: 3, Resync: 2, Left: 4, Seq: 1, Acked: 1})
	x.tick(ask(1, 0, 3), change(1, 3, 1))
	second := put(1, 2, 2, 2, 0, "abcdefgh", 1, 2, 3, 4)
	x.take(4, write(2, 2, "abcdefgh"), second)
	x.tick(ask(1, 0, 4), second, change(1, 3, 1))
	x.tick(ask(1, 0, 5), second, change(1, 3, 1))
	x.tick(ask(1, 0, 6), second, change(1, 1, 2))
	x.view(View{Epoch: 1, Role: 3, Mask: 1, Want: 1, Resync: 2, Waits: 1, Seq: 2, Acked: 1})
	// An answer to the elder change is none.
	x.take(2, msg(api.MsgChange, 1, 3, 1))
	x.view(View{Epoch: 1, Role: 3, Mask: 1, Want: 1, Resync: 2, Waits: 1, Seq: 2, Acked: 1})
	x.tick(ask(1, 0, 7), second, change(1, 1, 2))
	x.take(2, msg(api.MsgChange, 1, 1, 2), store(1, 2, 2, 2, 0, "abcdefgh", 1, 2, 3, 4))
	x.view(View{Epoch: 1, Role: 3, Mask: 1, Waits: 1, Seq: 2, Acked: 2})
}

// P16.2, 2: where that isn't answered either, it gives the other node up all the same, as soon as it has been quiet for too long once more.
func TestTickOfWantingAlone(t *testing.T) {
	x := streams(t)
	x.take(1, msg(api.MsgHad, 1, 1, 0), change(1, 3, 1))
	second, toStore := put(1, 2, 2, 2, 0, "abcdefgh", 1, 2, 3, 4), store(1, 2, 2, 2, 0, "abcdefgh", 1, 2, 3, 4)
	x.take(4, write(2, 2, "abcdefgh"), second)
	x.tick(ask(1, 0, 3), second, change(1, 3, 1))
	x.tick(ask(1, 0, 4), second, change(1, 3, 1))
	for i := range int64(3) {
		x.tick(ask(1, 0, 5+i), second, change(1, 1, 2))
	}
	x.tick(ask(1, 0, 8), second, begin(1, 2, "\x03\x01", 1, 2, 3, 4), toStore)
	x.view(View{Epoch: 1, Role: 3, Mask: 1, Want: 1, Resync: 1, Waits: 1, Seq: 2, Acked: 2})
	x.tick(ask(1, 0, 9), change(1, 1, 2), begin(1, 2, "\x03\x01", 1, 2, 3, 4), toStore)
}

// P16.2, 4 and 5: what waits is stored if it may be, and of what else is dirty the first four blocks; reads are asked for again, in their order.
func TestTickStores(t *testing.T) {
	x := leads(t)
	for i := range 7 {
		x.bring(4, write(int64(2+i), i, fmt.Sprintf("block%3d", i)))
		if i != 1 {
			x.bring(1, msg(api.MsgHad, 1, int64(2+i), 0))
		}
	}
	x.bring(4, write(9, 0, "another."))
	x.bring(5, call(7, 1, 9, ""))
	x.bring(5, call(6, 1, 8, ""))
	x.bring(5, call(5, 1, 0, "")) // waits for the write, and loads nothing
	t1 := []int64{8, 2, 3, 4}
	x.tick(ask(1, 0, 2), put(1, 9, 9, 0, 0, "another.", t1...),
		store(1, 3, 0, 1, -1, "block  1", t1...), store(1, 4, 0, 2, -1, "block  2", t1...), store(1, 5, 0, 3, -1, "block  3", t1...), store(1, 6, 0, 4, -1, "block  4", t1...),
		load(1, 9, 1), load(1, 8, 2))
	// Alone, the write is stored too, and isn't one of the four.
	x.tick(ask(1, 0, 3), put(1, 9, 9, 0, 0, "another.", t1...),
		store(1, 3, 0, 1, -1, "block  1", t1...), store(1, 4, 0, 2, -1, "block  2", t1...), store(1, 5, 0, 3, -1, "block  3", t1...), store(1, 6, 0, 4, -1, "block  4", t1...),
		load(1, 9, 1), load(1, 8, 2))
	x.n.wants(1)
	x.take(2, msg(api.MsgChange, 1, 1, 1), store(1, 9, 9, 0, 0, "another.", t1...))
	x.marked(0, 1, 2, 3, 4, 5, 6, 7)
	x.tick(ask(1, 0, 4), begin(1, 9, "\x03\x03", t1...), store(1, 9, 9, 0, 0, "another.", t1...),
		store(1, 3, 0, 1, -1, "block  1", t1...), store(1, 4, 0, 2, -1, "block  2", t1...), store(1, 5, 0, 3, -1, "block  3", t1...), store(1, 6, 0, 4, -1, "block  4", t1...),
		load(1, 9, 1), load(1, 8, 2))
	// What is stored goes, and others follow.
	x.take(3, stored(1, 3, 1))
	x.take(3, stored(1, 9, 0), answer(1, 0, 9, 0, api.OK, ""), answer(1, 1, 5, 0, api.OK, "another."))
	t1[0] = 9
	x.tick(ask(1, 0, 5), begin(1, 9, "\x03\x03", t1...),
		store(1, 4, 0, 2, -1, "block  2", t1...), store(1, 5, 0, 3, -1, "block  3", t1...), store(1, 6, 0, 4, -1, "block  4", t1...), store(1, 7, 0, 5, -1, "block  5", t1...),
		load(1, 9, 1), load(1, 8, 2))
}
