package node

import (
	"testing"

	"seisin/api"
	"seisin/cache"
	"seisin/cell"
	"seisin/log"
	"seisin/mirror"
	"seisin/sector"
)

// P16.4: who is lost is born when the witness knows that, in its epoch, with all blocks marked; its clock goes on.
func TestLost(t *testing.T) {
	x := opens(t, sector.New(20), 0)
	x.ticks(3)
	for _, m := range []api.Msg{msg(api.MsgLost, 4, 2, 6), msg(api.MsgLost, 4, 2, 8), msg(api.MsgLost, 4, 2, 0), failed(msg(api.MsgLost, 4, 2, 7), api.ErrSeq), failed(msg(api.MsgLost, 4, 2, 7), api.ErrArg)} {
		x.take(2, m)
		x.view(View{Lost: true})
	}
	x.marked()
	x.take(2, msg(api.MsgLost, 4, 2, 7))
	x.view(View{Epoch: 4})
	x.marked(0, 1, 2, 3, 4, 5, 6, 7, 8, 9)
	x.sure()
	x.tick(letter{2, msg(api.MsgAsk, 4, 1, (1+7<<14)<<32+4)})
	x.take(2, msg(api.MsgLost, 5, 2, 7)) // it isn't lost any more
	x.view(View{Epoch: 4})
	y := x.reopened()
	y.view(View{Epoch: 4})
	y.marked(0, 1, 2, 3, 4, 5, 6, 7, 8, 9)
	y.tick(letter{2, msg(api.MsgAsk, 4, 1, (2+7<<14)<<32+1)})
}

// P16.4: who can't mark, or isn't born, goes down, and is lost still.
func TestLostGoesDown(t *testing.T) {
	for fuse := range 9 {
		x := opens(t, sector.New(20), 0)
		x.d.Fuse(fuse)
		x.take(2, msg(api.MsgLost, 4, 2, 7))
		if fuse < 8 { // three marks, and the facts
			x.view(View{Down: true, Lost: true})
			x.d.Fuse(0)
			x.d.Crash([]sector.Keep{{How: 0}})
			opens(t, x.d, 0).view(View{Lost: true})
		} else {
			x.view(View{Epoch: 4})
		}
	}
	worn := sector.New(20)
	layText(t, worn, 2, api.MaxNumber, "\x03\x00")
	x := opens(t, worn, 0)
	x.take(2, msg(api.MsgLost, 4, 2, 7)) // the list can't be put any more
	x.view(View{Down: true, Lost: true})
	if c, _ := cell.Open(worn, 0, 1); c.Gen() != 0 {
		t.Errorf("%d", c.Gen())
	}
	for gen := int64(1<<14 - 3); gen < 1<<14+2; gen++ {
		d := sector.New(20)
		layText(t, d, 0, gen, "")
		x := opens(t, d, 0)
		x.take(2, msg(api.MsgLost, 4, 2, 7))
		if gen+1 < 1<<14 {
			x.view(View{Epoch: 4})
		} else {
			x.view(View{Down: true, Lost: true})
		}
	}
}

// P16.4: a grant of a later epoch is adopted, if the ask was of this life; the lease counts from when it was asked for.
func TestGrant(t *testing.T) {
	for _, c := range []struct{ asked, left int64 }{{0, 2}, {1, 3}, {2, 4}, {3, 5}} {
		x := fresh(t)
		x.ticks(3)
		x.take(2, grant(6, 1, c.asked), load(6, -1, 0))
		x.view(View{Epoch: 6, Role: 1, Mask: 1, Left: c.left})
		x.sure()
		y := x.reopened()
		y.view(View{Epoch: 6})
	}
	x := fresh(t)
	x.ticks(9)
	x.take(2, grant(1, 2, 4), load(1, -1, 0)) // the lease has run out by now
	x.view(View{Epoch: 1, Role: 1, Mask: 2})
	x.take(2, grant(1, 3, 5)) // the mask is of the first grant
	x.view(View{Epoch: 1, Role: 1, Mask: 2, Left: 1})
	x.take(2, grant(1, 3, 9))
	x.view(View{Epoch: 1, Role: 1, Mask: 2, Left: 5})
	x.take(2, grant(1, 3, 8)) // no lease gets shorter
	x.view(View{Epoch: 1, Role: 1, Mask: 2, Left: 5})
	x = leads(t)
	x.ticks(2)
	x.view(View{Epoch: 1, Role: 3, Mask: 3, Left: 3, Seq: 1, Acked: 1})
	x.take(2, grant(1, 3, 2))
	x.view(View{Epoch: 1, Role: 3, Mask: 3, Left: 4, Seq: 1, Acked: 1})
	x.n.wants(1)
	x.bring(4, write(2, 1, "abcdefgh"))
	x.take(2, grant(2, 1, 3), load(2, -1, 0)) // all of the elder one is forgotten
	x.view(View{Epoch: 2, Role: 1, Mask: 1, Left: 5})
	if x.n.change != 0 {
		t.Errorf("%d", x.n.change)
	}
}

// P16.4: a grant that isn't this life's, or of an elder epoch, is none; nor is one of the own epoch to who is idle.
func TestGrantOfOthers(t *testing.T) {
	for _, begun := range []func(*testing.T) *rig{fresh, leads, streams} {
		x := begun(t)
		x.ticks(1)
		was := x.n.View()
		clock := x.n.clock
		for _, n := range []int64{theLife<<32 + clock + 1, theLife<<32 - 1, 0, -1, 1, (theLife-1)<<32 + clock, (theLife+1)<<32 + clock, api.MaxNumber, -api.MaxNumber, clock} {
			m := grant(was.Epoch+1, 3, 0)
			m.N = n
			x.take(2, m)
			m.Epoch = was.Epoch
			x.take(2, m)
		}
		for _, e := range []api.Errno{api.ErrBusy, api.ErrPrimary, api.ErrEpoch, api.ErrToken} {
			x.take(2, failed(grant(was.Epoch+1, 3, 1), e))
			x.take(2, failed(grant(was.Epoch, 3, clock), e))
		}
		if was.Epoch > 0 {
			x.take(2, grant(was.Epoch-1, 3, clock))
		}
		if was.Role == 0 {
			x.take(2, grant(was.Epoch, 3, clock))
		}
		x.view(was)
	}
}

// P16.4: who hears that somebody else holds its epoch, or a later one, steps down.
func TestGrantStepsDown(t *testing.T) {
	for _, client := range []int{-1, 1, 3} {
		for _, e := range []api.Errno{api.OK, api.ErrBusy, api.ErrPrimary} {
			for _, epoch := range []int64{0, 1, 2, api.MaxNumber} {
				x := leads(t)
				x.bring(4, write(2, 1, "abcdefgh"))
				x.n.wants(1)
				was := x.n.View()
				m := failed(grant(epoch, 3, 1), e)
				m.Client = client
				x.take(2, m)
				if epoch == 0 {
					x.view(was)
				} else {
					x.view(View{Epoch: 1, Mask: 3})
				}
				y := fresh(t)
				y.ticks(1)
				y.take(2, m)
				y.view(View{})
			}
		}
	}
}

// P16.4: what can't be adopted leaves the node down, stepped down, of its elder epoch.
func TestAdoptGoesDown(t *testing.T) {
	for fuse := range 2 {
		x := leads(t)
		x.d.Fuse(fuse)
		x.take(2, grant(2, 3, 1))
		x.view(View{Down: true, Epoch: 1, Mask: 3})
		y := leads(t)
		y.d.Fuse(fuse)
		y.take(1, msg(api.MsgPut, 2, 1, 0))
		y.view(View{Down: true, Epoch: 1, Mask: 3})
	}
}

// P16.4: what was wanted comes, if it is the last one that was; what isn't of it does nothing.
func TestChangeOfOthers(t *testing.T) {
	for _, begun := range []func(*testing.T) *rig{leads, leadsAlone, streams} {
		x := begun(t)
		was := x.n.View()
		x.take(2, msg(api.MsgChange, 1, 1, 0)) // nothing is wanted
		x.view(was)
		x.n.wants(3)
		x.n.wants(1)
		was.Want = 1
		for _, m := range []api.Msg{msg(api.MsgChange, 1, 1, 1), msg(api.MsgChange, 1, 1, 3), msg(api.MsgChange, 1, 1, 0), msg(api.MsgChange, 0, 1, 2), msg(api.MsgChange, 2, 1, 2), failed(msg(api.MsgChange, 0, 1, 2), api.ErrPrimary), failed(msg(api.MsgChange, 2, 1, 2), api.ErrPrimary)} {
			x.take(2, m)
			x.view(was)
		}
		for _, e := range []api.Errno{api.ErrArg, api.ErrSeq, api.ErrToken, api.ErrEpoch} {
			x.take(2, failed(msg(api.MsgChange, 1, 1, 2), e))
			x.view(was)
		}
		// ErrPrimary, whatever was wanted.
		x.take(2, failed(msg(api.MsgChange, 1, 3, 9), api.ErrPrimary))
		x.view(View{Epoch: 1, Mask: was.Mask})
		x.take(2, failed(msg(api.MsgChange, 1, 3, 9), api.ErrPrimary))
		x.view(View{Epoch: 1, Mask: was.Mask})
	}
	x := fenced(t, 3)
	x.take(2, failed(msg(api.MsgChange, 1, 3, 0), api.ErrPrimary))
	x.view(View{Epoch: 1, Role: 1, Mask: 3, Left: 5})
}

// P16.4: a mask that is neither both nor its own bit lets a node step down.
func TestChangeToOtherMasks(t *testing.T) {
	for _, mask := range []int64{0, 2, 4, api.MaxNumber} {
		x := leads(t)
		x.n.wants(1)
		x.take(2, msg(api.MsgChange, 1, mask, 1))
		x.view(View{Epoch: 1, Mask: int(mask)})
	}
	d := formatted(t)
	x := opens(t, d, 1)
	x.ticks(1)
	g := grant(1, 3, 1)
	g.Client = 1
	x.bring(2, g)
	x.bring(3, loaded(1, -1, 0, ""))
	x.bring(0, msg(api.MsgHad, 1, 1, 0))
	x.n.wants(2)
	x.take(2, msg(api.MsgChange, 1, 2, 1))
	x.view(View{Epoch: 1, Role: 3, Mask: 2, Left: 5, Seq: 1, Acked: 1})
}

// P16.4: who recovers, and is alone then, leads; what is dirty is marked.
func TestChangeOfRecovering(t *testing.T) {
	d := formatted(t)
	c, _ := cache.Open(d, 6, 14, 4, 5, theBlocks)
	want(t, "Put", c.Put(entry(8, 1, 1, "abcdefgh", true, 0, 5)), api.OK)
	want(t, "Put", c.Put(entry(0, 1, 2, "ABCDEFGH", false, 1, 6)), api.OK)
	x := opens(t, d, 0)
	x.ticks(1)
	x.bring(2, grant(2, 3, 1))
	x.take(3, loaded(2, -1, 0, "", 0, 9), put(2, 1, 5, 8, 0, "abcdefgh", 5, 9), put(2, 2, 0, -1, -1, "", 5, 9))
	x.n.wants(1)
	x.take(2, msg(api.MsgChange, 2, 1, 1))
	x.view(View{Epoch: 2, Role: 3, Mask: 1, Left: 5, Seq: 2, Acked: 2})
	x.marked(8, 9)
	x.has(entry(0, 1, 2, "ABCDEFGH", false, 1, 6), entry(8, 2, 1, "abcdefgh", true, 0, 5))
	x.tick(ask(2, 0, 2), begin(2, 2, "\x03\x04", 5, 9), store(2, 1, 0, 8, -1, "abcdefgh", 5, 9))
}

// P16.4: alone, the writes that wait are stored, and what the other node has had is no matter any more.
func TestChangeToAlone(t *testing.T) {
	x := leads(t)
	first, second := put(1, 2, 2, 5, 0, "abcdefgh", 1, 2, 3, 4), put(1, 3, 3, 1, 1, "ABCDEFGH", 1, 2, 3, 4)
	x.take(4, write(2, 5, "abcdefgh"), first)
	x.take(5, write(3, 1, "ABCDEFGH"), second)
	x.take(6, call(4, 1, 5, ""))
	x.take(7, call(5, 4, -1, ""))
	x.n.wants(1)
	x.take(2, msg(api.MsgChange, 1, 1, 1), store(1, 2, 2, 5, 0, "abcdefgh", 1, 2, 3, 4), store(1, 3, 3, 1, 1, "ABCDEFGH", 1, 2, 3, 4))
	x.view(View{Epoch: 1, Role: 3, Mask: 1, Waits: 4, Left: 5, Seq: 3, Acked: 3})
	x.marked(0, 1, 2, 3, 4, 5, 6, 7)
	x.sure()
	x.take(1, msg(api.MsgHad, 1, 3, 0))
	x.take(3, stored(1, 2, 5), answer(1, 0, 2, 5, api.OK, ""), answer(1, 2, 4, 5, api.OK, "abcdefgh"))
	x.has(entry(1, 1, 3, "ABCDEFGH", true, 1, 3), entry(5, 1, 2, "abcdefgh", false, 0, 2))
	x.take(3, stored(1, 3, 1), answer(1, 1, 3, 1, api.OK, ""), answer(1, 3, 5, -1, api.OK, ""))
	x.view(View{Epoch: 1, Role: 3, Mask: 1, Left: 5, Seq: 3, Acked: 3})
}

// P16.4: with both in sync no region is marked, and what the other node took is answered, stored or not.
func TestChangeToBoth(t *testing.T) {
	x := streams(t)
	x.take(1, msg(api.MsgHad, 1, 1, 0), change(1, 3, 1))
	x.take(4, write(2, 5, "abcdefgh"), put(1, 2, 2, 5, 0, "abcdefgh", 1, 2, 3, 4))
	x.take(5, write(3, 1, "ABCDEFGH"), put(1, 3, 3, 1, 1, "ABCDEFGH", 1, 2, 3, 4))
	x.marked(0, 1, 2, 3, 4, 5, 6, 7)
	x.take(1, msg(api.MsgHad, 1, 2, 0), store(1, 2, 2, 5, 0, "abcdefgh", 1, 2, 3, 4))
	x.view(View{Epoch: 1, Role: 3, Mask: 1, Want: 3, Resync: 2, Waits: 2, Left: 4, Seq: 3, Acked: 2})
	x.take(2, msg(api.MsgChange, 1, 3, 1), answer(1, 0, 2, 5, api.OK, ""))
	x.view(View{Epoch: 1, Role: 3, Mask: 3, Waits: 1, Left: 4, Seq: 3, Acked: 2})
	x.marked()
	x.take(1, msg(api.MsgHad, 1, 3, 0), answer(1, 1, 3, 1, api.OK, ""))
	x.tick(ask(1, 0, 3), store(1, 3, 0, 1, -1, "ABCDEFGH", 2, 3, 3, 4), store(1, 2, 0, 5, -1, "abcdefgh", 2, 3, 3, 4))
	// A list that can't be cleared.
	x = streams(t)
	x.take(1, msg(api.MsgHad, 1, 1, 0), change(1, 3, 1))
	x.take(4, write(2, 5, "abcdefgh"), put(1, 2, 2, 5, 0, "abcdefgh", 1, 2, 3, 4))
	x.take(1, msg(api.MsgHad, 1, 2, 0), store(1, 2, 2, 5, 0, "abcdefgh", 1, 2, 3, 4))
	x.d.Fuse(1)
	x.take(2, msg(api.MsgChange, 1, 3, 1))
	x.view(View{Down: true, Epoch: 1, Role: 3, Mask: 3, Waits: 1, Left: 4, Seq: 2, Acked: 2})
}

// P16.4: what was stored by then is answered as soon as the node is alone.
func TestChangeAnswers(t *testing.T) {
	x := streams(t)
	x.take(1, msg(api.MsgHad, 1, 1, 0), change(1, 3, 1))
	x.take(4, write(2, 5, "abcdefgh"), put(1, 2, 2, 5, 0, "abcdefgh", 1, 2, 3, 4))
	x.take(5, write(3, 1, "ABCDEFGH"), put(1, 3, 3, 1, 1, "ABCDEFGH", 1, 2, 3, 4))
	x.take(3, stored(1, 3, 1))
	x.n.wants(1)
	x.take(2, msg(api.MsgChange, 1, 1, 2), store(1, 2, 2, 5, 0, "abcdefgh", 1, 2, 3, 4), answer(1, 1, 3, 1, api.OK, ""))
	x.view(View{Epoch: 1, Role: 3, Mask: 1, Waits: 1, Left: 4, Seq: 3, Acked: 3})
}

// P16.4: a change that comes counts ticks anew.
func TestChangeBreaksQuiet(t *testing.T) {
	x := streams(t)
	x.take(1, msg(api.MsgHad, 1, 1, 0), change(1, 3, 1))
	second := put(1, 2, 2, 5, 0, "abcdefgh", 1, 2, 3, 4)
	x.take(4, write(2, 5, "abcdefgh"), second)
	x.tick(ask(1, 0, 3), second, change(1, 3, 1))
	x.tick(ask(1, 0, 4), second, change(1, 3, 1))
	x.take(2, msg(api.MsgChange, 1, 3, 1))
	x.tick(ask(1, 0, 5), second)
	x.tick(ask(1, 0, 6), second)
	x.tick(ask(1, 0, 7), second, change(1, 1, 2))
}

// P16.5: who is refused by its token steps down, whatever the message is; other errors, other epochs, and who is idle hear nothing.
func TestToken(t *testing.T) {
	for kind := api.MsgAsk; kind <= api.MsgAnswer; kind++ {
		for _, begun := range []func(*testing.T) *rig{func(t *testing.T) *rig { return fenced(t, 3) }, leads, streams} {
			x := begun(t)
			was := x.n.View()
			for _, e := range []api.Errno{api.ErrArg, api.ErrRange, api.ErrEpoch, api.ErrSeq, api.ErrBusy, api.ErrPrimary, 31} {
				x.take(3, failed(msg(kind, 1, 0, 0), e))
			}
			for _, epoch := range []int64{0, 2} {
				x.take(3, failed(msg(kind, epoch, 0, 0), api.ErrToken))
				x.take(3, msg(kind, epoch, 0, 0))
				x.take(3, of(msg(kind, epoch, 1, 1), 3))
			}
			x.view(was)
			x.take(3, failed(msg(kind, 1, 0, 0), api.ErrToken))
			x.view(View{Epoch: 1, Mask: was.Mask})
		}
		x := fresh(t)
		x.take(3, failed(msg(kind, 0, 0, 0), api.ErrToken))
		x.take(3, msg(kind, 0, 0, 0))
		x.view(View{})
	}
	x := leads(t)
	x.take(4, write(2, 3, "abcdefgh"), put(1, 2, 2, 3, 0, "abcdefgh", 1, 2, 3, 4))
	x.take(3, failed(of(msg(api.MsgStored, 1, 2, 0), 3), api.ErrToken))
	x.view(View{Epoch: 1, Mask: 3})
	x.has(entry(3, 1, 2, "abcdefgh", true, 0, 2))
}

// P16.5: who begins to lead brings again what is dirty, with the numbers that the backing store has heard of; with the other node, it has a note for it, and recovers.
func TestBegin(t *testing.T) {
	x := opens(t, some(t), 0)
	x.ticks(1)
	x.take(2, grant(2, 3, 1), load(2, -1, 0))
	for _, m := range []api.Msg{loaded(2, 0, 0, "", 9), loaded(2, 3, 0, "", 9), of(msg(api.MsgStored, 2, 1, 0), 8), msg(api.MsgStored, 2, 1, 0)} {
		x.take(3, m)
		x.view(View{Epoch: 2, Role: 1, Mask: 3, Left: 5})
	}
	numbers := []int64{5, 8, 1, 2}
	x.take(3, loaded(2, -1, 0, "", 4, 8, 1, 2),
		put(2, 1, 0, 2, -1, "12345678", numbers...), put(2, 2, 5, 8, 0, "abcdefgh", numbers...), put(2, 3, 0, -1, -1, "", numbers...))
	x.view(View{Epoch: 2, Role: 2, Mask: 3, Left: 5, Seq: 3})
	x.has(entry(0, 1, 2, "ABCDEFGH", false, 1, 6), entry(2, 2, 1, "12345678", true, -1, 0), entry(8, 2, 2, "abcdefgh", true, 0, 5))
	x.kept(2, 3, numbers...)
	x.marked()
	x.sure()
	x.take(3, loaded(2, -1, 0, "", 9, 9, 9, 9)) // once
	x.kept(2, 3, numbers...)
	x.take(4, write(6, 1, "........"), answer(2, 0, 6, 1, api.ErrPrimary, ""))
	x.take(3, stored(2, 2, 8), cleaned(2, 2, 8)) // who recovers hears that, too
	x.view(View{Epoch: 2, Role: 2, Mask: 3, Left: 5, Seq: 3})
	x.take(1, msg(api.MsgHad, 2, 2, 0))
	x.view(View{Epoch: 2, Role: 2, Mask: 3, Left: 5, Seq: 3, Acked: 2})
	x.take(1, msg(api.MsgHad, 2, 3, 0))
	x.view(View{Epoch: 2, Role: 3, Mask: 3, Left: 5, Seq: 3, Acked: 3})
}

// P16.5: who begins to lead alone marks what is dirty, and leads at once.
func TestBeginAlone(t *testing.T) {
	x := opens(t, some(t), 0)
	x.ticks(1)
	x.take(2, grant(2, 1, 1), load(2, -1, 0))
	x.take(3, loaded(2, -1, 77, "", 4))
	x.view(View{Epoch: 2, Role: 3, Mask: 1, Left: 5, Seq: 2, Acked: 2})
	x.has(entry(0, 1, 2, "ABCDEFGH", false, 1, 6), entry(2, 2, 1, "12345678", true, -1, 0), entry(8, 2, 2, "abcdefgh", true, 0, 5))
	x.marked(0, 1, 2, 3, 8, 9)
	x.kept(2, 2, 5, 6, 0, 2)
	x.sure()
	x.tick(ask(2, 0, 2), begin(2, 2, "\x03\x05", 5, 6, 0, 2), store(2, 1, 0, 2, -1, "12345678", 5, 6, 0, 2), store(2, 2, 0, 8, -1, "abcdefgh", 5, 6, 0, 2))
	// By a mask of the other node alone nothing is marked.
	x = opens(t, some(t), 0)
	x.ticks(1)
	x.take(2, grant(2, 2, 1), load(2, -1, 0))
	x.take(3, loaded(2, -1, 0, ""))
	x.view(View{Epoch: 2, Role: 3, Mask: 2, Left: 5, Seq: 2, Acked: 2})
	x.marked()
}

// P16.5: numbers that aren't above the table's are no news.
func TestBeginWithNoNews(t *testing.T) {
	x := opens(t, some(t), 0)
	x.ticks(1)
	x.take(2, grant(2, 1, 1), load(2, -1, 0))
	tail := func() int64 {
		y, _ := log.Open(clone(t, x.d), 6, 14, 4, 5)
		return y.Tail()
	}
	was := tail()
	x.take(3, loaded(2, -1, 0, "", 5, 6, 0, 2))
	if n := tail() - was; n != 2 {
		t.Errorf("%d records", n) // the two that were dirty
	}
}

// P16.5: who begins to lead goes down as soon as its device does.
func TestBeginGoesDown(t *testing.T) {
	for fuse := range 5 {
		x := opens(t, some(t), 0)
		x.ticks(1)
		x.take(2, grant(2, 3, 1), load(2, -1, 0))
		x.d.Fuse(fuse)
		x.bring(3, loaded(2, -1, 0, "", 9))
		// A note of the numbers, two entries, a note, and a barrier.
		x.view(View{Down: true, Epoch: 2, Role: 1, Mask: 3, Left: 5, Seq: []int64{0, 1, 2, 3, 3}[fuse]})
	}
	for fuse := range 8 {
		x := opens(t, some(t), 0)
		x.ticks(1)
		x.take(2, grant(2, 1, 1), load(2, -1, 0))
		x.d.Fuse(fuse)
		x.bring(3, loaded(2, -1, 0, "", 9))
		// A note, two marks, two entries, and a barrier.
		x.view(View{Down: true, Epoch: 2, Role: 1, Mask: 1, Left: 5, Seq: []int64{0, 0, 0, 0, 0, 1, 2, 2}[fuse]})
	}
}

// P16.5: data that was loaded is given to the reads that asked for it; who has no lease gives none.
func TestLoaded(t *testing.T) {
	x := leads(t)
	x.take(4, call(8, 1, 3, ""), load(1, 3, 1))
	x.take(5, call(9, 1, 3, ""), load(1, 3, 2))
	x.take(6, call(1, 1, 0, ""), load(1, 0, 3))
	for _, m := range []api.Msg{loaded(1, 3, 0, "........"), loaded(1, 3, 3, "........"), loaded(1, 0, 1, "........"), loaded(1, 3, -1, "........"), loaded(1, -1, 0, "........"), loaded(1, -1, 1, "........"), loaded(1, 31, 1, "........")} {
		x.take(3, m)
		if x.n.View().Waits != 3 {
			t.Errorf("%+v: %+v", m, x.n.View())
		}
	}
	x.take(3, loaded(1, 3, 2, "abcdefgh"), answer(1, 1, 9, 3, api.OK, "abcdefgh"))
	x.take(3, loaded(1, 3, 2, "abcdefgh"))
	x.take(3, loaded(1, 0, 3, ""), answer(1, 2, 1, 0, api.OK, ""))
	x.take(7, write(9, 5, "12345678"), put(1, 2, 9, 5, 3, "12345678", 1, 2, 3, 4))
	x.take(6, call(2, 1, 5, ""))
	x.take(3, loaded(1, 5, 0, "........")) // it asked for nothing
	x.take(1, msg(api.MsgHad, 1, 2, 0), answer(1, 3, 9, 5, api.OK, ""), answer(1, 2, 2, 5, api.OK, "12345678"))
	x.ticks(5)
	x.take(3, loaded(1, 3, 1, "ABCDEFGH"), answer(1, 0, 8, 3, api.ErrLease, ""))
	x.view(View{Epoch: 1, Role: 3, Mask: 3, Seq: 2, Acked: 2})
	// Loads are counted on, also in later epochs.
	x.take(2, grant(2, 3, 6), load(2, -1, 0))
	x.take(3, loaded(2, -1, 0, ""), put(2, 1, 9, 5, 3, "12345678", 1, 2, 3, 9), put(2, 2, 0, -1, -1, "", 1, 2, 3, 9))
	x.take(1, msg(api.MsgHad, 2, 2, 0))
	x.take(4, call(8, 1, 3, ""), load(2, 3, 4))
	x.take(3, loaded(1, 3, 4, "........"))
	x.take(3, loaded(2, 3, 1, "........"))
	x.take(3, loaded(2, 3, 4, "abcdefgh"), answer(2, 0, 8, 3, api.OK, "abcdefgh"))
}

// P16.5: what is stored is clean, if no write waits for it, and it is of that version; the other node is told, if it is sent what is written.
func TestStored(t *testing.T) {
	x := leads(t)
	x.take(4, write(2, 5, "abcdefgh"), put(1, 2, 2, 5, 0, "abcdefgh", 1, 2, 3, 4))
	x.take(3, stored(1, 2, 5)) // it waits for the other node
	x.has(entry(5, 1, 2, "abcdefgh", true, 0, 2))
	x.take(1, msg(api.MsgHad, 1, 2, 0), answer(1, 0, 2, 5, api.OK, ""))
	x.has(entry(5, 1, 2, "abcdefgh", true, 0, 2))
	for _, m := range []api.Msg{stored(1, 1, 5), stored(1, 3, 5), stored(1, 2, 4), stored(1, 2, -1), stored(1, 2, 31), stored(0, 2, 5), stored(2, 2, 5)} {
		x.take(3, m)
		x.has(entry(5, 1, 2, "abcdefgh", true, 0, 2))
	}
	x.take(6, call(4, 4, 7, ""))
	x.take(3, stored(1, 2, 5), cleaned(1, 2, 5), answer(1, 2, 4, 7, api.OK, ""))
	x.has(entry(5, 1, 2, "abcdefgh", false, 0, 2))
	x.take(3, stored(1, 2, 5)) // it is clean
	// Who is idle hears nothing.
	x = fresh(t)
	x.take(1, puts(1, 1, 7, 5, 0, "abcdefgh"), had(1, 1))
	x.take(3, stored(1, 1, 5))
	x.has(entry(5, 1, 1, "abcdefgh", true, 0, 7))
	// Alone nobody is told.
	x = leadsAlone(t)
	x.take(4, write(2, 5, "abcdefgh"), store(1, 1, 2, 5, 0, "abcdefgh", 1, 2, 3, 4))
	x.take(5, call(3, 1, 5, ""))
	x.take(6, call(4, 4, -1, ""))
	x.take(3, stored(1, 1, 5), answer(1, 0, 2, 5, api.OK, ""), answer(1, 1, 3, 5, api.OK, "abcdefgh"), answer(1, 2, 4, -1, api.OK, ""))
	x.has(entry(5, 1, 1, "abcdefgh", false, 0, 2))
	x.marked(4, 5, 6, 7)
	// A device that dies: what was answered isn't said.
	x = leadsAlone(t)
	x.take(4, write(2, 5, "abcdefgh"), store(1, 1, 2, 5, 0, "abcdefgh", 1, 2, 3, 4))
	x.d.Fuse(0)
	x.take(3, stored(1, 1, 5))
	x.view(View{Down: true, Epoch: 1, Role: 3, Mask: 1, Left: 5, Seq: 1, Acked: 1})
}

// P16.5: while the other node is brought back a write is answered when it is stored, and that node took it; that it is clean is told to it.
func TestStoredOfStreaming(t *testing.T) {
	x := streams(t)
	x.take(4, write(2, 5, "abcdefgh"), put(1, 2, 2, 5, 0, "abcdefgh", 1, 2, 3, 4))
	x.take(1, msg(api.MsgHad, 1, 1, 0))
	x.take(1, msg(api.MsgHad, 1, 2, 0), store(1, 2, 2, 5, 0, "abcdefgh", 1, 2, 3, 4))
	x.tick(ask(1, 0, 3), store(1, 2, 2, 5, 0, "abcdefgh", 1, 2, 3, 4))
	// All was taken, and no write waits, but the other node hasn't a note of this one.
	x.take(3, stored(1, 2, 5), answer(1, 0, 2, 5, api.OK, ""), put(1, 3, 0, -1, -1, "", 2, 2, 3, 4), cleaned(1, 2, 5))
	x.kept(1, 3, 2, 2, 3, 4)
	x.view(View{Epoch: 1, Role: 3, Mask: 1, Resync: 2, Left: 3, Seq: 3, Acked: 2})
	x.take(1, msg(api.MsgHad, 1, 3, 0), change(1, 3, 1))
	x.take(1, msg(api.MsgHad, 1, 3, 0))
	// The note goes down: nothing is said of it all.
	x = streams(t)
	x.take(4, write(2, 5, "abcdefgh"), put(1, 2, 2, 5, 0, "abcdefgh", 1, 2, 3, 4))
	x.take(1, msg(api.MsgHad, 1, 2, 0), store(1, 2, 2, 5, 0, "abcdefgh", 1, 2, 3, 4))
	x.d.Fuse(0)
	x.take(3, stored(1, 2, 5))
	x.view(View{Down: true, Epoch: 1, Role: 3, Mask: 1, Resync: 2, Left: 4, Seq: 3, Acked: 2})
	x.has(entry(5, 1, 2, "abcdefgh", true, 0, 2))
}

// P16.6: items are taken once each, in order; a later epoch is adopted.
func TestPut(t *testing.T) {
	x := fresh(t)
	x.take(1, puts(3, 2, 1, 5, 0, "abcdefgh"))
	x.view(View{Epoch: 3})
	x.kept(0, 0)
	x.take(1, puts(3, 1, 1, 5, 0, "abcdefgh", 0, 4), had(3, 1))
	x.has(entry(5, 3, 1, "abcdefgh", true, 0, 1))
	x.kept(3, 1, 1, 4)
	x.sure()
	x.take(1, puts(3, 1, 9, 5, 0, "????????", 9, 9, 9, 9), had(3, 1)) // it had that
	x.take(1, puts(3, 0, 9, 5, 0, "????????", 9, 9, 9, 9), had(3, 1))
	x.take(1, puts(3, 3, 1, 5, 0, "????????", 9, 9, 9, 9))
	x.take(1, puts(2, 2, 1, 5, 0, "????????", 9, 9, 9, 9))
	x.has(entry(5, 3, 1, "abcdefgh", true, 0, 1))
	x.kept(3, 1, 1, 4)
	x.take(1, puts(3, 2, 0, -1, -1, "", 0, 3, 6), had(3, 2)) // a note
	x.kept(3, 2, 1, 4, 6)
	x.sure()
	x.take(1, puts(3, 3, 0, 1, -1, "ABCDEFGH", 1, 4, 6), had(3, 3)) // of nobody, and no news
	x.kept(3, 3, 1, 4, 6)
	x.view(View{Epoch: 3})
	x.take(1, puts(4, 3, 0, 1, -1, "????????")) // no first one of the epoch
	x.view(View{Epoch: 4})
	x.take(1, puts(3, 4, 0, 1, -1, "????????")) // who led the elder one isn't heard any more
	x.take(1, begins(3, 7, "\x03\x07"))
	x.view(View{Epoch: 4})
	x.kept(3, 3, 1, 4, 6)
	y := x.reopened()
	y.view(View{Epoch: 4})
	y.has(entry(1, 3, 3, "ABCDEFGH", true, -1, 0), entry(5, 3, 1, "abcdefgh", true, 0, 1))
	y.kept(3, 3, 1, 4, 6)
}

// P16.6: who leads takes no item of its own epoch; a later one lets it step down, and take it.
func TestPutOfLeading(t *testing.T) {
	for _, begun := range []func(*testing.T) *rig{func(t *testing.T) *rig { return fenced(t, 3) }, leads, streams} {
		x := begun(t)
		was := x.n.View()
		x.take(1, puts(1, was.Seq+1, 5, 5, 0, "abcdefgh"))
		x.take(1, puts(1, 1, 5, 5, 0, "abcdefgh"))
		x.take(1, puts(0, 1, 5, 5, 0, "abcdefgh"))
		b := msg(api.MsgBegin, 1, 9, 0)
		b.Row = "\x03\x00"
		x.take(1, b)
		x.view(was)
		x.take(1, puts(2, 1, 5, 5, 0, "abcdefgh", 1, 2, 3, 4), had(2, 1))
		x.view(View{Epoch: 2, Mask: was.Mask})
		x.has(entry(5, 2, 1, "abcdefgh", true, 0, 5))
		b.Epoch = 3
		x = begun(t)
		x.take(1, b, ready(3, 9))
		x.view(View{Epoch: 3, Mask: was.Mask})
	}
}

// P16.6: the first item of an epoch brings the numbers of who leads: greater ones of what was only laid here are forgotten.
func TestPutForgets(t *testing.T) {
	for _, c := range []struct {
		block int
		data  string
	}{{-1, ""}, {5, "abcdefgh"}} {
		x := opens(t, some(t), 0) // 5, 6, 0, 2
		x.take(1, puts(2, 1, 0, c.block, -1, c.data, 5, 5, 1, 2), had(2, 1))
		x.kept(2, 1, 5, 5, 1, 2)
		x.sure()
		x.take(1, puts(2, 2, 0, c.block, -1, c.data, 4, 6, 0, 2), had(2, 2)) // that was the first one: nothing is forgotten
		x.kept(2, 2, 5, 6, 1, 2)
		x = opens(t, some(t), 0)
		x.take(1, puts(2, 1, 0, c.block, -1, c.data, 5, 6, 0, 3), had(2, 1)) // nothing to be forgotten
		x.kept(2, 1, 5, 6, 0, 3)
	}
	// What is forgotten isn't sure, where the item can't be laid.
	x := opens(t, some(t), 0)
	x.take(1, puts(2, 1, -1, 5, 0, "abcdefgh", 1, 7, 1, 1))
	x.kept(1, 4, 1, 7, 1, 1)
	y := x.reopened()
	y.kept(1, 4, 5, 6, 0, 2)
}

// P16.6: an item that can't be laid isn't had; the node isn't down.
func TestPutThatCantBe(t *testing.T) {
	x := fresh(t)
	for _, m := range []api.Msg{puts(1, 1, 0, theBlocks, -1, "abcdefgh"), puts(1, 1, 0, 31, -1, "abcdefgh"), puts(1, 1, 0, 0, -1, "short"), puts(1, 1, 0, 0, -1, ""), puts(1, 1, 0, 0, -1, "abcdefghi"), puts(1, 1, -1, 0, 0, "abcdefgh"), puts(1, 1, -1, 0, -1, "abcdefgh")} {
		x.take(1, m)
		x.view(View{Epoch: 1})
		x.kept(0, 0)
	}
	for i := range int64(8) {
		x.take(1, puts(1, i+1, 0, int(i), -1, "abcdefgh"), had(1, i+1))
	}
	x.take(1, puts(1, 9, 3, 8, 0, "abcdefgh")) // full
	x.view(View{Epoch: 1})
	x.kept(1, 8)
	x.take(1, puts(1, 9, 3, 7, 0, "ABCDEFGH"), had(1, 9))
	x.kept(1, 9, 3)
	x = fresh(t)
	x.take(1, puts(0, 1, 0, 0, -1, "abcdefgh")) // no version has the epoch 0
	x.kept(0, 0)
	x.take(1, puts(0, 1, 0, -1, -1, "", 3), had(0, 1))
	x.kept(0, 1, 3)
}

// P16.6: who goes down on an item says nothing of it.
func TestPutGoesDown(t *testing.T) {
	for _, c := range []struct {
		m      api.Msg
		epochs []int64 // by the fuse
	}{
		{puts(2, 1, 5, 5, 3, "abcdefgh", 1, 7), []int64{0, 0, 2, 2, 2}},       // the facts, a reset, an entry, a barrier
		{puts(2, 1, 5, 5, 3, "abcdefgh", 5, 7, 0, 2), []int64{0, 0, 2, 2, 2}}, // the facts, a note of numbers, an entry, a barrier
		{puts(2, 1, 5, 5, 3, "abcdefgh", 5, 6, 0, 2), []int64{0, 0, 2, 2}},
		{puts(2, 1, 0, -1, -1, "", 5, 6, 0, 2), []int64{0, 0, 2, 2}}, // the facts, a note, a barrier
		{puts(2, 1, 0, -1, -1, "", 1, 6, 0, 2), []int64{0, 0, 2, 2, 2}},
	} {
		for fuse, epoch := range c.epochs {
			x := opens(t, some(t), 0)
			x.d.Fuse(fuse)
			x.take(1, c.m)
			x.view(View{Down: true, Epoch: epoch})
		}
		x := opens(t, some(t), 0)
		x.d.Fuse(len(c.epochs))
		x.take(1, c.m, had(2, 1))
		x.view(View{Epoch: 2})
	}
}

// P16.6: who is brought back lets go what is dirty, and what lies in the marked regions, and has the version and the numbers of who leads.
func TestBeginOfOther(t *testing.T) {
	for _, c := range []struct {
		row  string
		left []api.Entry
	}{
		{"\x03\x00", []api.Entry{entry(0, 1, 2, "ABCDEFGH", false, 1, 6)}},
		{"\x03\x06", []api.Entry{entry(0, 1, 2, "ABCDEFGH", false, 1, 6)}},
		{"\x03\x01", nil},
		{"\x03\x07", nil},
	} {
		x := opens(t, some(t), 0) // its Last is 1, 4
		x.take(1, begins(0, 9, c.row, 9))
		x.view(View{})
		x.take(1, begins(1, 3, c.row, 9))
		x.take(1, begins(1, 4, c.row, 9), ready(1, 4)) // it has begun there
		x.kept(1, 4, 5, 6, 0, 2)
		x.view(View{Epoch: 1})
		for _, row := range []string{"", "?", "\x03", "\x02\x00", "\x04\x00", "\x03\x08", "\x03\x00\x00", "\x00"} {
			x.take(1, begins(1, 7, row, 9))
		}
		x.kept(1, 4, 5, 6, 0, 2)
		x.take(1, begins(1, 7, c.row, 4, 7, 1, 0), ready(1, 7))
		x.kept(1, 7, 4, 7, 1, 0)
		x.has(c.left...)
		x.sure()
		x.take(1, begins(1, 7, "?", 9), ready(1, 7))
		x.take(1, begins(1, 4, c.row, 9))
		x.take(1, begins(2, 0, c.row), ready(2, 0))
		x.view(View{Epoch: 2})
		x.kept(2, 0)
		y := x.reopened()
		y.has(c.left...)
		y.kept(2, 0)
		y.take(1, puts(2, 1, 0, -1, -1, ""), had(2, 1))
	}
	// What is clean goes by its region: the blocks 0 to 3 are one.
	for _, block := range []int{0, 3, 4, 7, 8, 9} {
		d := formatted(t)
		c, _ := cache.Open(d, 6, 14, 4, 5, theBlocks)
		want(t, "Put", c.Put(entry(block, 1, 1, "abcdefgh", false, -1, 0)), api.OK)
		x := opens(t, d, 0)
		x.take(1, begins(1, 2, "\x03"+string(rune(7^1<<(block/4)))), ready(1, 2))
		x.has(entry(block, 1, 1, "abcdefgh", false, -1, 0))
		x.take(1, begins(1, 3, "\x03"+string(rune(1<<(block/4)))), ready(1, 3))
		x.has()
	}
}

// P16.6: who goes down while it begins says nothing.
func TestBeginOfOtherGoesDown(t *testing.T) {
	for fuse := range 7 {
		x := opens(t, some(t), 0)
		x.d.Fuse(fuse)
		x.bring(1, begins(2, 9, "\x03\x01"))
		// The facts, three drops, a reset, and a barrier.
		v := View{Down: true, Epoch: 2}
		if fuse < 2 {
			v.Epoch = 0
		}
		x.view(v)
	}
}

// P16.6: what the other node had is answered, in order; what is no news does nothing.
func TestHad(t *testing.T) {
	x := leads(t)
	x.take(4, write(2, 0, "abcdefgh"), put(1, 2, 2, 0, 0, "abcdefgh", 1, 2, 3, 4))
	x.take(5, write(3, 1, "ABCDEFGH"), put(1, 3, 3, 1, 1, "ABCDEFGH", 1, 2, 3, 4))
	x.take(6, write(4, 2, "12345678"), put(1, 4, 4, 2, 2, "12345678", 1, 2, 3, 4))
	was := x.n.View()
	for _, m := range []api.Msg{msg(api.MsgHad, 1, 1, 0), msg(api.MsgHad, 1, 0, 0), msg(api.MsgHad, 1, 5, 0), msg(api.MsgHad, 0, 2, 0), msg(api.MsgHad, 2, 2, 0), msg(api.MsgHad, 1, api.MaxNumber, 0)} {
		x.take(1, m)
		x.view(was)
	}
	x.take(1, msg(api.MsgHad, 1, 3, 0), answer(1, 0, 2, 0, api.OK, ""), answer(1, 1, 3, 1, api.OK, ""))
	x.take(1, msg(api.MsgHad, 1, 2, 0))
	x.take(1, msg(api.MsgHad, 1, 4, 0), answer(1, 2, 4, 2, api.OK, ""))
	x.view(View{Epoch: 1, Role: 3, Mask: 3, Left: 5, Seq: 4, Acked: 4})
	// Answers are told without a lease, too: the write is there.
	x.take(4, write(3, 0, "abcdefgh"), put(1, 5, 3, 0, 0, "abcdefgh", 2, 3, 4, 4))
	x.take(5, call(9, 1, 0, ""))
	x.ticks(5)
	x.take(1, msg(api.MsgHad, 1, 5, 0), answer(1, 0, 3, 0, api.OK, ""), answer(1, 1, 9, 0, api.ErrLease, ""))
	// Who is idle, and who leads alone, hears nothing.
	for _, x := range []*rig{fresh(t), leadsAlone(t)} {
		was = x.n.View()
		x.n.sender.Add(api.Item{})
		was.Seq++
		x.take(1, msg(api.MsgHad, was.Epoch, 1, 0))
		x.view(was)
	}
}

// P16.6: what was stored by then isn't stored once more, when the other node has it.
func TestHadOfStored(t *testing.T) {
	x := streams(t)
	x.take(4, write(2, 5, "abcdefgh"), put(1, 2, 2, 5, 0, "abcdefgh", 1, 2, 3, 4))
	x.take(5, write(3, 1, "ABCDEFGH"), put(1, 3, 3, 1, 1, "ABCDEFGH", 1, 2, 3, 4))
	x.take(3, stored(1, 2, 5))
	x.take(1, msg(api.MsgHad, 1, 3, 0), store(1, 3, 3, 1, 1, "ABCDEFGH", 1, 2, 3, 4), answer(1, 0, 2, 5, api.OK, ""))
}

// P16.6: the other node is ready: what is dirty is brought again, and a write that waits for it waits for its new number.
func TestReady(t *testing.T) {
	x := leadsAlone(t)
	x.take(4, write(2, 8, "abcdefgh"), store(1, 1, 2, 8, 0, "abcdefgh", 1, 2, 3, 4))
	x.take(5, write(3, 0, "ABCDEFGH"), store(1, 2, 3, 0, 1, "ABCDEFGH", 1, 2, 3, 4))
	x.take(1, msg(api.MsgReady, 1, 2, 0)) // it wasn't asked
	x.tick(ask(1, 0, 2), begin(1, 2, "\x03\x05", 1, 2, 3, 4), store(1, 2, 3, 0, 1, "ABCDEFGH", 1, 2, 3, 4), store(1, 1, 2, 8, 0, "abcdefgh", 1, 2, 3, 4))
	x.take(3, stored(1, 1, 8), answer(1, 0, 2, 8, api.OK, ""))
	x.take(6, write(4, 9, "12345678"), store(1, 3, 4, 9, 2, "12345678", 2, 2, 3, 4))
	was := x.n.View()
	for _, m := range []api.Msg{msg(api.MsgReady, 1, 2, 0), msg(api.MsgReady, 1, 4, 0), msg(api.MsgReady, 0, 3, 0), msg(api.MsgReady, 2, 3, 0)} {
		x.take(1, m)
		x.view(was)
	}
	x.take(1, msg(api.MsgReady, 1, 3, 0),
		put(1, 4, 3, 0, 1, "ABCDEFGH", 2, 2, 3, 4), put(1, 5, 4, 9, 2, "12345678", 2, 2, 3, 4), put(1, 6, 0, -1, -1, "", 2, 2, 3, 4))
	x.view(View{Epoch: 1, Role: 3, Mask: 1, Resync: 2, Waits: 2, Left: 4, Seq: 6, Acked: 3})
	x.kept(1, 6, 2, 3, 4, 4)
	x.sure()
	x.take(1, msg(api.MsgReady, 1, 6, 0))
	x.take(3, stored(1, 2, 0)) // of the elder number
	x.take(3, stored(1, 3, 9))
	x.take(1, msg(api.MsgHad, 1, 4, 0), store(1, 4, 3, 0, 1, "ABCDEFGH", 2, 2, 3, 4))
	x.take(3, stored(1, 4, 0), answer(1, 1, 3, 0, api.OK, ""), cleaned(1, 4, 0))
	x.take(1, msg(api.MsgHad, 1, 6, 0), store(1, 5, 4, 9, 2, "12345678", 2, 3, 3, 4))
	x.take(3, stored(1, 5, 9), answer(1, 2, 4, 9, api.OK, ""), put(1, 7, 0, -1, -1, "", 2, 3, 4, 4), cleaned(1, 5, 9))
	x.take(1, msg(api.MsgHad, 1, 7, 0), change(1, 3, 1))
	x.has(entry(0, 1, 4, "ABCDEFGH", false, 1, 3), entry(8, 1, 1, "abcdefgh", false, 0, 2), entry(9, 1, 5, "12345678", false, 2, 4))
	// Who isn't alone hears nothing.
	y := leads(t)
	y.n.resync = asked
	y.take(1, msg(api.MsgReady, 1, 1, 0))
	y.view(View{Epoch: 1, Role: 3, Mask: 3, Resync: 1, Left: 5, Seq: 1, Acked: 1})
}

// P16.6: a write that was stored by its elder number isn't, when it is brought again.
func TestReadyAgain(t *testing.T) {
	x := streams(t)
	x.take(4, write(2, 8, "abcdefgh"), put(1, 2, 2, 8, 0, "abcdefgh", 1, 2, 3, 4))
	x.n.writeOf(8).stored = true
	x.n.resync = asked
	x.take(1, msg(api.MsgReady, 1, 2, 0), put(1, 1, 0, -1, -1, "", 1, 2, 3, 4), put(1, 2, 2, 8, 0, "abcdefgh", 1, 2, 3, 4), put(1, 3, 2, 8, 0, "abcdefgh", 1, 2, 3, 4), put(1, 4, 0, -1, -1, "", 1, 2, 3, 4))
	if w := x.n.writeOf(8); w.stored || w.seq != 3 {
		t.Errorf("%+v", w)
	}
	for fuse := range 3 {
		x := streams(t)
		x.take(4, write(2, 8, "abcdefgh"), put(1, 2, 2, 8, 0, "abcdefgh", 1, 2, 3, 4))
		x.n.resync = asked
		x.d.Fuse(fuse)
		x.take(1, msg(api.MsgReady, 1, 2, 0)) // an entry, a note, and a barrier
		x.view(View{Down: true, Epoch: 1, Role: 3, Mask: 1, Resync: 2, Waits: 1, Left: 4, Seq: int64(3 + min(fuse, 1))})
	}
}

// P16.6: both are wanted in sync when the other node has all, and once.
func TestStreamEnds(t *testing.T) {
	x := doneAlone(t)
	x.tick(ask(2, 0, 2), begin(2, 4, "\x03\x05", 5, 5), store(2, 1, 0, 0, -1, "87654321", 5, 5), store(2, 2, 0, 2, -1, "........", 5, 5), store(2, 3, 0, 3, -1, "ABCDEFGH", 5, 5), store(2, 4, 0, 8, -1, "abcdefgh", 5, 5))
	numbers := []int64{5, 5}
	x.take(1, msg(api.MsgReady, 2, 4, 0), put(2, 5, 5, 0, 1, "87654321", numbers...), put(2, 6, 4, 2, 0, "........", numbers...),
		put(2, 7, 5, 3, 0, "ABCDEFGH", numbers...), put(2, 8, 5, 8, 0, "abcdefgh", numbers...), put(2, 9, 0, -1, -1, "", numbers...))
	x.take(3, stored(2, 8, 8), cleaned(2, 8, 8)) // items are left
	x.take(1, msg(api.MsgHad, 2, 8, 0))
	x.take(1, msg(api.MsgHad, 2, 9, 0), change(2, 3, 1))
	x.take(4, write(6, 9, "12345678"), put(2, 10, 6, 9, 0, "12345678", 5, 5))
	x.take(1, msg(api.MsgHad, 2, 10, 0), store(2, 10, 6, 9, 0, "12345678", 5, 5))
	x.take(3, stored(2, 10, 9), answer(2, 0, 6, 9, api.OK, ""), cleaned(2, 10, 9)) // it is wanted: no note, and no change
	x.take(3, stored(2, 7, 3), cleaned(2, 7, 3))
}

// P16.6: behind the last number there is none.
func TestNoteBehindLast(t *testing.T) {
	x := streams(t)
	x.n.sender = mirror.New(api.MaxNumber)
	x.n.done[0] = 9
	x.n.resync = asked
	x.take(1, msg(api.MsgReady, 1, api.MaxNumber, 0))
	x.view(View{Epoch: 1, Role: 3, Mask: 1, Resync: 2, Left: 4, Seq: api.MaxNumber, Acked: api.MaxNumber})
	x.kept(1, 1, 1, 2, 3, 4)
}

// P16.6: what who leads has brought to the backing store is clean here too, if it is of that version.
func TestCleaned(t *testing.T) {
	x := fresh(t)
	x.take(1, puts(2, 1, 5, 5, 0, "abcdefgh"), had(2, 1))
	for _, m := range []api.Msg{cleaned(2, 2, 5).m, cleaned(2, 1, 4).m, cleaned(1, 1, 5).m, cleaned(3, 1, 5).m, cleaned(2, 1, -1).m, cleaned(2, 1, 31).m} {
		x.take(1, m)
		x.has(entry(5, 2, 1, "abcdefgh", true, 0, 5))
		x.view(View{Epoch: 2})
	}
	x.take(1, cleaned(2, 1, 5).m)
	x.has(entry(5, 2, 1, "abcdefgh", false, 0, 5))
	x.take(1, cleaned(2, 1, 5).m)
	x.take(1, puts(2, 2, 6, 5, 0, "ABCDEFGH"), had(2, 2))
	x.d.Fuse(0)
	x.take(1, cleaned(2, 2, 5).m)
	x.view(View{Down: true, Epoch: 2})
	y := leads(t)
	y.take(4, write(2, 8, "abcdefgh"), put(1, 2, 2, 8, 0, "abcdefgh", 1, 2, 3, 4))
	y.take(1, cleaned(1, 2, 8).m) // who leads hears nothing
	y.has(entry(8, 1, 2, "abcdefgh", true, 0, 2))
}
