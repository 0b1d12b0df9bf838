package node

import (
	"fmt"
	"math"
	"slices"
	"testing"

	"seisin/api"
	"seisin/cache"
	"seisin/cell"
	"seisin/drl"
	"seisin/log"
	"seisin/mail"
	"seisin/sector"
)

// TestExamples: the chapter's examples.
func TestExamples(t *testing.T) {
	x := fresh(t)
	x.tick(ask(0, 1, 1))
	x.take(2, grant(1, 3, 1), load(1, -1, 0))
	x.take(3, loaded(1, -1, 0, ""), put(1, 1, 0, -1, -1, ""))
	x.view(View{Epoch: 1, Role: 2, Mask: 3, Left: 5, Seq: 1})
	x.take(1, msg(api.MsgHad, 1, 1, 0))
	x.view(View{Epoch: 1, Role: 3, Mask: 3, Left: 5, Seq: 1, Acked: 1})
	x.take(4, write(1, 3, "abcdefgh"), put(1, 2, 1, 3, 0, "abcdefgh"))
	x.take(1, msg(api.MsgHad, 1, 2, 0), answer(1, 0, 1, 3, api.OK, ""))
}

// P16.1: Format puts the facts of epoch 0, or tells the cell's error.
func TestFormat(t *testing.T) {
	want(t, "nil", Format(nil), api.ErrArg)
	for n := range 2 {
		want(t, fmt.Sprint(n, " sectors"), Format(sector.New(n)), api.ErrArg)
	}
	d := sector.New(2)
	for gen := range int64(3) {
		want(t, "Format", Format(d), api.OK)
		c, _ := cell.Open(d, 0, 1)
		if c.Get() != "\x32\x01\x00" || c.Gen() != gen+1 || len(d.Pending()) != 0 {
			t.Errorf("%q, %d, %v", c.Get(), c.Gen(), d.Pending())
		}
	}
	for fuse := range 3 {
		d = sector.New(2)
		d.Fuse(fuse)
		e := Format(d)
		if fuse < 2 {
			want(t, "fuse", e, api.ErrDown)
			want(t, "dead", Format(d), api.ErrDown)
		} else {
			want(t, "fuse", e, api.OK)
		}
	}
}

// P16.1: wrong arguments are told first, whatever the device is like.
func TestOpenOfWrongArguments(t *testing.T) {
	dead := formatted(t)
	dead.Fuse(0)
	dead.Barrier()
	for i, c := range []struct {
		id             int
		serial         int64
		term, patience int64
	}{
		{-1, 7, 5, 2}, {2, 7, 5, 2}, {math.MinInt, 7, 5, 2}, {math.MaxInt, 7, 5, 2},
		{0, -1, 5, 2}, {0, api.MaxNumber + 1, 5, 2}, {1, math.MinInt64, 5, 2}, {1, math.MaxInt64, 5, 2},
		{0, 7, 0, 2}, {0, 7, -1, 2}, {0, 7, 1<<20 + 1, 2}, {0, 7, math.MinInt64, 2}, {0, 7, math.MaxInt64, 2},
		{1, 7, 5, 0}, {1, 7, 5, -1}, {1, 7, 5, 1<<20 + 1}, {1, 7, 5, math.MinInt64}, {1, 7, 5, math.MaxInt64},
	} {
		for _, d := range []*sector.Dev{formatted(t), dead, nil} {
			for _, blocks := range []int{theBlocks, 0} {
				n, e := Open(c.id, c.serial, d, blocks, c.term, c.patience)
				want(t, fmt.Sprint("case ", i), e, api.ErrArg)
				if n != nil {
					t.Errorf("case %d: %v", i, n)
				}
			}
		}
	}
	n, e := Open(0, 7, nil, theBlocks, 5, 2)
	want(t, "no device", e, api.ErrArg)
	if n != nil {
		t.Errorf("%v", n)
	}
}

// P16.1: the greatest arguments, and the least ones, may be.
func TestOpenOfEdges(t *testing.T) {
	for id := range 2 {
		for _, serial := range []int64{0, 1, 1<<14 - 1, 1 << 14, 1<<14 + 3, api.MaxNumber - 1, api.MaxNumber} {
			for _, ticks := range []int64{1, 1 << 20} {
				d := formatted(t)
				n, e := Open(id, serial, d, theBlocks, ticks, 1<<20+1-ticks)
				want(t, fmt.Sprint(id, serial, ticks), e, api.OK)
				l := read(t, id, n.Tick())
				if w := []letter{{2, msg(api.MsgAsk, 0, 1, (2+serial%(1<<14)*(1<<14))<<32+1)}}; !slices.Equal(l, w) {
					t.Errorf("%d, %d: %+v, not %+v", id, serial, l, w)
				}
			}
		}
	}
}

// P16.1: the errors of the facts' cell, of the list, and of the cache are told, in this order.
func TestOpenErrors(t *testing.T) {
	opened := func(d *sector.Dev, blocks int) api.Errno {
		n, e := Open(0, 7, d, blocks, 5, 2)
		if (n == nil) != (e != api.OK) {
			t.Errorf("%v, %d", n, e)
		}
		return e
	}
	for n := range 14 {
		want(t, fmt.Sprint(n, " sectors"), opened(sector.New(n), 1), api.ErrArg)
	}
	want(t, "14 sectors", opened(sector.New(14), 1), api.OK)
	want(t, "most sectors", opened(sector.New(api.MaxSectors), api.MaxBlocks), api.OK)
	for _, blocks := range []int{0, -1, api.MaxBlocks + 1, math.MinInt, math.MaxInt} {
		want(t, fmt.Sprint(blocks, " blocks"), opened(formatted(t), blocks), api.ErrArg)
	}
	for fuse := range 3 {
		d := sector.New(20)
		d.Fuse(fuse)
		e := api.ErrDown
		if fuse == 2 { // the cache's cell was put
			e = api.OK
		}
		want(t, fmt.Sprint("lost, fuse ", fuse), opened(d, theBlocks), e)
		d = formatted(t)
		d.Fuse(fuse + 2)
		if fuse == 2 { // the facts' too
			e = api.OK
		}
		want(t, fmt.Sprint("fuse ", fuse+2), opened(d, theBlocks), e)
	}
	dead := formatted(t)
	dead.Fuse(0)
	dead.Barrier()
	want(t, "dead, no blocks", opened(dead, 0), api.ErrDown) // the facts' cell, ahead of the list
	d := formatted(t)
	layText(t, d, 4, 1, recText(api.Rec{Kind: 3, Nums: []int64{1, api.MaxNumber, 0}}))
	want(t, "times are over", opened(d, theBlocks), api.ErrEpoch)
	want(t, "times are over, no blocks", opened(d, 0), api.ErrArg) // the list, ahead of the cache
	d = formatted(t)
	l, _ := log.Open(d, 6, 14, 4, 5)
	want(t, "Append", l.Append("?"), api.OK)
	want(t, "Sync", l.Sync(), api.OK)
	want(t, "no record of a cache's", opened(d, theBlocks), api.ErrForm)
	d = formatted(t)
	layText(t, d, 0, api.MaxNumber, recText(api.Rec{Kind: 50, Nums: []int64{3}}))
	want(t, "generations are over", opened(d, theBlocks), api.ErrSeq)
}

// P16.1: lives are over when the facts have been put too often: they are put once more first.
func TestOpenOfManyLives(t *testing.T) {
	for gen := int64(1<<14 - 4); gen < 1<<14+4; gen++ {
		d := sector.New(20)
		layText(t, d, 0, gen, recText(api.Rec{Kind: 50, Nums: []int64{9}}))
		n, e := Open(0, 0, d, theBlocks, 5, 2)
		if gen+1 < 1<<14 {
			want(t, fmt.Sprint(gen), e, api.OK)
			if l := read(t, 0, n.Tick()); l[0].m.N != (gen+1)<<32+1 {
				t.Errorf("%d: %+v", gen, l)
			}
		} else {
			want(t, fmt.Sprint(gen), e, api.ErrSeq)
			if n != nil {
				t.Errorf("%d: %v", gen, n)
			}
		}
		if c, _ := cell.Open(d, 0, 1); c.Gen() != gen+1 || c.Get() != recText(api.Rec{Kind: 50, Nums: []int64{9}}) {
			t.Errorf("%d: %d, %q", gen, c.Gen(), c.Get())
		}
	}
}

// P16.1: whose facts aren't such has lost all, and puts none.
func TestOpenOfLost(t *testing.T) {
	for i, text := range []string{
		"", "?", recText(api.Rec{Kind: 50}), recText(api.Rec{Kind: 50, Nums: []int64{1, 2}}), recText(api.Rec{Kind: 50, Nums: []int64{-1}}),
		recText(api.Rec{Kind: 50, Nums: []int64{api.MaxNumber + 1}}), recText(api.Rec{Kind: 51, Nums: []int64{1}}), recText(api.Rec{Kind: 49, Nums: []int64{1}}),
		recText(api.Rec{Kind: 50, Nums: []int64{1}, Texts: []string{""}}), recText(api.Rec{Kind: 50, Nums: []int64{1}}) + "\x00",
	} {
		d := sector.New(20)
		layText(t, d, 1, 5, text)
		x := opens(t, d, 0)
		x.view(View{Lost: true})
		x.tick(letter{2, msg(api.MsgLost, 0, 0, 7)})
		if c, _ := cell.Open(d, 0, 1); c.Gen() != 5 || c.Get() != text {
			t.Errorf("case %d: %d, %q", i, c.Gen(), c.Get())
		}
	}
	for _, epoch := range []int64{0, 1, api.MaxNumber} {
		d := sector.New(20)
		layText(t, d, 1, 5, recText(api.Rec{Kind: 50, Nums: []int64{epoch}}))
		opens(t, d, 0).view(View{Epoch: epoch})
	}
}

// P16.1: View, Entries and Marked tell what lies on the device, and hand out nothing that is the node's.
func TestOpenOfSome(t *testing.T) {
	d := formatted(t)
	list, _ := drl.Open(d, 2, 3, theBlocks)
	want(t, "Mark", list.Mark(9), api.OK)
	c, _ := cache.Open(d, 6, 14, 4, 5, theBlocks)
	e := entry(4, 1, 2, "abcdefgh", true, 1, 6)
	want(t, "Put", c.Put(e), api.OK)
	want(t, "Sync", c.Sync(), api.OK)
	x := opens(t, d, 1)
	x.view(View{})
	x.has(e)
	x.marked(8, 9)
	x.n.Entries()[0] = api.Entry{}
	x.n.Marked()[0] = 0
	x.has(e)
	x.marked(8, 9)
	x.kept(1, 2, 0, 6)
}

// refused checks that a letter isn't taken.
func (x *rig) refused(l api.Letter, w api.Errno) {
	x.t.Helper()
	was := x.n.View()
	sent, e := x.n.Take(l)
	want(x.t, fmt.Sprintf("%+v", l), e, w)
	if len(sent) != 0 {
		x.t.Errorf("%+v: %+v", l, sent)
	}
	x.view(was)
}

// P16.3: what letters aren't taken; the first error is told.
func TestTakeErrors(t *testing.T) {
	good, _ := mail.Encode(grant(9, 3, 0))
	for _, x := range []*rig{fresh(t), opens(t, sector.New(20), 0), leads(t)} {
		for _, body := range []string{good, "?", ""} {
			for _, l := range []api.Letter{{From: 2, To: 1}, {From: 2, To: -1}, {From: 2, To: 2}, {From: 0, To: 0}, {From: -1, To: 0}, {From: 8, To: 0}, {From: math.MinInt, To: 0}, {From: math.MaxInt, To: 0}, {From: 1, To: 1}} {
				l.Body = body
				x.refused(l, api.ErrArg)
			}
		}
		for from := 1; from < api.MaxPlaces; from++ {
			for _, body := range []string{"?", "", good + "\x00", good[1:]} {
				x.refused(api.Letter{From: from, To: 0, Body: body}, api.ErrForm)
			}
		}
		x.n.down = true
		for _, l := range []api.Letter{{From: 2, To: 0, Body: good}, {From: 2, To: 1}, {From: -1, To: 0}, {From: 1, To: 0, Body: "?"}} {
			x.refused(l, api.ErrDown)
		}
	}
	x := opens(t, formatted(t), 1)
	x.refused(api.Letter{From: 1, To: 1, Body: good}, api.ErrArg)
	x.refused(api.Letter{From: 2, To: 0, Body: good}, api.ErrArg)
}

// all tells a message of each kind that may do something.
func all(epoch int64) []api.Msg {
	var l []api.Msg
	for kind := api.MsgAsk; kind <= api.MsgAnswer; kind++ {
		for _, block := range []int{-1, 0} {
			for _, seq := range []int64{1, 2} {
				for _, n := range []int64{0, 7, theLife<<32 + 1} {
					m := of(msg(kind, epoch, seq, n), block)
					m.Client, m.Data, m.Row, m.T[2] = 0, "abcdefgh", "\x03\x00", 99
					l = append(l, m)
				}
			}
		}
	}
	return l
}

// P16.3: who is lost takes nothing but MsgLost of the witness.
func TestTakeOfLost(t *testing.T) {
	x := opens(t, sector.New(20), 0)
	x.ticks(1)
	for from := 1; from < api.MaxPlaces; from++ {
		for _, m := range all(1) {
			if from != 2 || m.Kind != api.MsgLost || m.N != 7 {
				x.take(from, m)
				x.view(View{Lost: true})
				x.has()
				x.marked()
				x.kept(0, 0)
			}
		}
	}
}

// P16.3: a message of a kind that isn't told for its sender does nothing.
func TestTakeOfOtherKinds(t *testing.T) {
	hears := func(from, kind int) bool {
		switch from {
		case 1:
			return kind >= api.MsgPut && kind <= api.MsgCleaned
		case 2:
			return kind >= api.MsgGrant && kind <= api.MsgLost
		case 3:
			return kind == api.MsgStored || kind == api.MsgLoaded
		}
		return kind == api.MsgCall
	}
	writes := func(t *testing.T) *rig {
		x := leads(t)
		x.bring(4, write(7, 0, "abcdefgh"))
		x.bring(5, call(7, 1, 0, ""))
		return x
	}
	writesAlone := func(t *testing.T) *rig {
		x := leadsAlone(t)
		x.bring(4, write(7, 0, "abcdefgh"))
		return x
	}
	laid := func(t *testing.T) *rig {
		x := fresh(t)
		x.bring(1, puts(1, 1, 7, 0, 0, "abcdefgh"))
		return x
	}
	for _, begun := range []func(*testing.T) *rig{fresh, leads, leadsAlone, streams, writes, writesAlone, laid} {
		x := begun(t)
		was, entries := x.n.View(), x.n.Entries()
		last, table := x.n.cache.Last(), x.n.table()
		for from := 1; from < api.MaxPlaces; from++ {
			for _, m := range append(all(was.Epoch), all(was.Epoch+1)...) {
				// Who isn't lost doesn't hear that it is.
				if !hears(from, m.Kind) || m.Kind == api.MsgLost {
					x.take(from, m)
					x.view(was)
					x.has(entries...)
					x.kept(last.Epoch, last.Seq, table[:]...)
				}
			}
		}
	}
}

// P16.3: who goes down on a letter says nothing, and is asked nothing any more.
func TestGoesDown(t *testing.T) {
	x := leads(t)
	x.take(4, write(2, 0, "abcdefgh"), put(1, 2, 2, 0, 0, "abcdefgh", 1, 2, 3, 4))
	x.take(1, msg(api.MsgHad, 1, 2, 0), answer(1, 0, 2, 0, api.OK, ""))
	x.take(5, write(3, 0, "ABCDEFGH"), put(1, 3, 3, 0, 1, "ABCDEFGH", 2, 2, 3, 4))
	x.n.wants(1)
	x.d.Fuse(0)
	x.take(2, msg(api.MsgChange, 1, 1, 1)) // it can't mark
	x.view(View{Down: true, Epoch: 1, Role: 3, Mask: 1, Waits: 1, Left: 5, Seq: 3, Acked: 2})
	x.tick()
	x.refused(api.Letter{From: 2, To: 0}, api.ErrDown)
	x.has(entry(0, 1, 3, "ABCDEFGH", true, 1, 3))
	x.marked()
	y := x.reopened()
	y.view(View{Epoch: 1})
	y.has(entry(0, 1, 3, "ABCDEFGH", true, 1, 3))
}

// P16.3: a list that can't be put any more: whoever is to mark goes down, and does nothing behind that.
func TestWornList(t *testing.T) {
	d := formatted(t)
	layText(t, d, 2, api.MaxNumber, "\x03\x02")
	x := opens(t, d, 0)
	x.fences(1, 1)
	x.take(3, loaded(1, -1, 0, ""))
	x.take(4, write(1, 4, "abcdefgh"), store(1, 1, 1, 4, 0, "abcdefgh")) // its region is marked
	x.take(4, write(2, 8, "abcdefgh"))
	x.view(View{Down: true, Epoch: 1, Role: 3, Mask: 1, Waits: 1, Left: 5, Seq: 1, Acked: 1})
	x.has(entry(4, 1, 1, "abcdefgh", true, 0, 1))
	x.marked(4, 5, 6, 7)
	x = opens(t, clone(t, d), 0)
	x.fences(2, 3)
	x.take(3, loaded(2, -1, 0, ""), put(2, 1, 1, 4, 0, "abcdefgh", 1), put(2, 2, 0, -1, -1, "", 1))
	x.take(1, msg(api.MsgHad, 2, 2, 0))
	x.take(4, write(2, 8, "abcdefgh"), put(2, 3, 2, 8, 0, "abcdefgh", 1))
	x.n.wants(1)
	x.take(2, msg(api.MsgChange, 2, 1, 1))
	x.view(View{Down: true, Epoch: 2, Role: 3, Mask: 1, Waits: 1, Left: 5, Seq: 3, Acked: 2})
	x = opens(t, some(t), 0)
	layText(t, x.d, 2, api.MaxNumber, "\x03\x00")
	x = opens(t, x.d, 0)
	x.fences(2, 1)
	x.take(3, loaded(2, -1, 0, ""))
	x.view(View{Down: true, Epoch: 2, Role: 1, Mask: 1, Left: 5})
	x.has(entry(0, 1, 2, "ABCDEFGH", false, 1, 6), entry(2, 1, 3, "12345678", true, -1, 0), entry(8, 1, 1, "abcdefgh", true, 0, 5))
}

// P16.3: a log that can't grow any more: whoever is to lay something goes down, and does nothing behind that.
func TestWornLog(t *testing.T) {
	x := worn(t, 0)
	x.tick(ask(0, 1, 1))
	x.take(2, grant(1, 3, 1), load(1, -1, 0))
	x.take(3, loaded(1, -1, 0, "")) // no note
	x.view(View{Down: true, Epoch: 1, Role: 1, Mask: 3, Left: 5, Seq: 1})
	x = worn(t, 1)
	x.tick(ask(0, 1, 1))
	x.take(2, grant(1, 3, 1), load(1, -1, 0))
	x.take(3, loaded(1, -1, 0, ""), put(1, 1, 0, -1, -1, ""))
	x.take(1, msg(api.MsgHad, 1, 1, 0))
	x.take(4, write(1, 0, "abcdefgh"))
	x.view(View{Down: true, Epoch: 1, Role: 3, Mask: 3, Left: 5, Seq: 1, Acked: 1})
	x.has()
	x = worn(t, 1)
	x.take(1, puts(1, 1, 1, 0, 0, "abcdefgh", 5)) // a note of the numbers, but no entry
	x.view(View{Down: true, Epoch: 1})
	x.kept(0, 0, 5)
	if len(x.d.Pending()) != 1 {
		t.Errorf("%v", x.d.Pending()) // nothing was made sure
	}
	x = worn(t, 0)
	x.take(1, puts(1, 1, 0, -1, -1, ""))
	x.view(View{Down: true, Epoch: 1})
	x = worn(t, 0)
	x.take(1, begins(1, 1, "\x03\x00"))
	x.view(View{Down: true, Epoch: 1})
	x = worn(t, 1)
	x.take(1, puts(1, 1, 1, 0, 0, "abcdefgh"), had(1, 1))
	x.take(1, cleaned(1, 1, 0).m)
	x.view(View{Down: true, Epoch: 1})
}

// P16.1 to P16.6: node 1 speaks to node 0, and its own bit is 2.
func TestNode1(t *testing.T) {
	x := opens(t, some(t), 1)
	to0 := func(l letter) letter {
		l.to = 0
		return l
	}
	g := grant(2, 3, 1)
	g.Client = 1
	x.tick(ask(0, 1, 1))
	x.take(2, g, load(2, -1, 0))
	x.take(3, loaded(2, -1, 0, ""), to0(put(2, 1, 0, 2, -1, "12345678", 5, 6, 0, 2)), to0(put(2, 2, 5, 8, 0, "abcdefgh", 5, 6, 0, 2)), to0(put(2, 3, 0, -1, -1, "", 5, 6, 0, 2)))
	x.take(0, msg(api.MsgHad, 2, 2, 0))
	for i := range int64(3) {
		l := []letter{ask(2, 0, 2+i), to0(put(2, 3, 0, -1, -1, "", 5, 6, 0, 2)), change(2, 2, 1)}
		x.tick(l[:2+i/2]...)
	}
	x.take(2, msg(api.MsgChange, 2, 2, 1))
	x.view(View{Epoch: 2, Role: 3, Mask: 2, Left: 2, Seq: 3, Acked: 3})
	x.marked(0, 1, 2, 3, 8, 9)
	x.tick(ask(2, 0, 5), to0(begin(2, 3, "\x03\x05", 5, 6, 0, 2)), store(2, 1, 0, 2, -1, "12345678", 5, 6, 0, 2), store(2, 2, 0, 8, -1, "abcdefgh", 5, 6, 0, 2))
	x.take(0, puts(3, 1, 0, -1, -1, "", 5, 6, 0, 2), to0(had(3, 1)))
	x.take(0, begins(3, 4, "\x03\x00"), to0(ready(3, 4)))
	x = opens(t, some(t), 1)
	x.ticks(1)
	g.Seq = 2
	x.take(2, g, load(2, -1, 0))
	x.take(3, loaded(2, -1, 0, ""))
	x.view(View{Epoch: 2, Role: 3, Mask: 2, Left: 5, Seq: 2, Acked: 2})
	x.marked(0, 1, 2, 3, 8, 9)
}
