package cell

import (
	"bytes"
	"encoding/binary"
	"fmt"
	"hash/crc32"
	"math"
	"math/rand"
	"slices"
	"strings"
	"testing"

	"seisin/api"
	"seisin/code"
	"seisin/sector"
)

var castagnoli = crc32.MakeTable(crc32.Castagnoli)

// want checks an error.
func want(t *testing.T, what string, e, w api.Errno) {
	t.Helper()
	if e != w {
		t.Errorf("%s: %d, not %d", what, e, w)
	}
}

// says checks a cell's text and generation.
func says(t *testing.T, what string, c *Cell, gen int64, text string) {
	t.Helper()
	if c.Get() != text || c.Gen() != gen {
		t.Errorf("%s: %q, %d, not %q, %d", what, c.Get(), c.Gen(), text, gen)
	}
}

// opened opens a cell that must be there.
func opened(t *testing.T, d *sector.Dev, a, b int) *Cell {
	t.Helper()
	c, e := Open(d, a, b)
	if e != api.OK || c == nil {
		t.Fatalf("Open(%d, %d): %v, %d", a, b, c, e)
	}
	return c
}

// finds opens a cell, and checks what it says.
func finds(t *testing.T, what string, d *sector.Dev, a, b int, gen int64, text string) {
	t.Helper()
	says(t, what, opened(t, d, a, b), gen, text)
}

// holds checks a sector's bytes, with 0 behind them.
func holds(t *testing.T, what string, d *sector.Dev, i int, b []byte) {
	t.Helper()
	got, e := d.Read(i)
	if e != api.OK || !bytes.Equal(got, append(slices.Clip(b), make([]byte, api.SectorSize-len(b))...)) {
		t.Errorf("%s: sector %d: %q, %d, not %q", what, i, got, e, b)
	}
}

// put lets a device have the bytes in a sector for sure.
func put(t *testing.T, d *sector.Dev, i int, b []byte) {
	t.Helper()
	want(t, "Write", d.Write(i, b), api.OK)
	want(t, "Barrier", d.Barrier(), api.OK)
}

// summed tells n, and bytes, with their sum ahead, as the chapter has it, by the library.
func summed(n int, b []byte) []byte {
	l := append([]byte{byte(n)}, b...)
	return append(binary.BigEndian.AppendUint32(nil, crc32.Checksum(l, castagnoli)), l...)
}

// slotOf tells the bytes of what would be a slot with the record, whether it is right or not.
func slotOf(t testing.TB, r api.Rec) []byte {
	t.Helper()
	b, e := code.Encode(r)
	if e != api.OK {
		t.Fatalf("Encode(%v): %d", r, e)
	}
	return summed(len(b), b)
}

// rightSlot tells the bytes of a right slot.
func rightSlot(t testing.TB, gen int64, s string) []byte {
	t.Helper()
	return slotOf(t, api.Rec{Kind: 1, Nums: []int64{gen}, Texts: []string{s}})
}

// TestExample: the chapter's example.
func TestExample(t *testing.T) {
	d := sector.New(2)
	c := opened(t, d, 0, 1)
	says(t, "new", c, 0, "")
	want(t, "Put", c.Put("a"), api.OK)
	want(t, "Put", c.Put("b"), api.OK)
	says(t, "put", c, 2, "b")
	d.Crash(nil)
	finds(t, "crash", d, 0, 1, 2, "b")
}

// P5.2: the bytes of slots, some of them written out.
func TestSlot(t *testing.T) {
	for _, c := range []struct {
		gen  int64
		s    string
		want string
	}{
		{1, "a", "\xc9\xbf\x8e\xd6" + "\x05" + "\x01\x11\x02\x01a"},
		{1, "", "\x8a\xd4\xbd\x27" + "\x04" + "\x01\x11\x02\x00"},
		{64, "\x00\xff", "\x60\xbb\xbe\xd9" + "\x07" + "\x01\x11\x80\x01\x02\x00\xff"},
		{api.MaxNumber, "z", "\xed\xdd\x42\x78" + "\x0e" + "\x01\x11\x80\x80\x80\x80\x80\x80\x80\x80\x80\x01\x01z"},
	} {
		if got := Slot(c.gen, c.s); string(got) != c.want {
			t.Errorf("Slot(%d, %q) = %q, not %q", c.gen, c.s, got, c.want)
		}
	}
	r := rand.New(rand.NewSource(1))
	for n := range api.MaxCell + 1 {
		for _, gen := range []int64{1, 2, 63, 64, 1<<31 + 1, 1 + r.Int63n(api.MaxNumber), api.MaxNumber - 1, api.MaxNumber} {
			s := someText(r, n)
			if got, w := Slot(gen, s), rightSlot(t, gen, s); !bytes.Equal(got, w) {
				t.Errorf("Slot(%d, %q) = %q, not %q", gen, s, got, w)
			}
		}
	}
}

// P5.2: what can be no slot has no bytes, whatever is wrong with it.
func TestNoSlot(t *testing.T) {
	for _, gen := range []int64{0, -1, -2, math.MinInt64, -api.MaxNumber, api.MaxNumber + 1, math.MaxInt64} {
		for _, s := range []string{"", "a", strings.Repeat("x", api.MaxCell), strings.Repeat("x", api.MaxCell+1)} {
			if b := Slot(gen, s); len(b) != 0 {
				t.Errorf("Slot(%d, %d bytes) = %q", gen, len(s), b)
			}
		}
	}
	for _, n := range []int{api.MaxCell + 1, api.MaxCell + 2, api.MaxText, api.MaxText + 1, 256 + 3, 100000} {
		for _, gen := range []int64{1, 2, api.MaxNumber} {
			if b := Slot(gen, strings.Repeat("x", n)); len(b) != 0 {
				t.Errorf("Slot(%d, %d bytes) = %q", gen, n, b)
			}
		}
	}
}

// R3, R4: a slot's bytes are the caller's.
func TestSlotIsNew(t *testing.T) {
	first := Slot(7, "text")
	was := bytes.Clone(first)
	clear(first[:cap(first)])
	if again := Slot(7, "text"); !bytes.Equal(again, was) {
		t.Errorf("Slot again = %q, not %q", again, was)
	}
}

// P5.1: what can be no cell; that is told ahead of a dead device.
func TestOpenOfNoCell(t *testing.T) {
	alive, dead, none := sector.New(3), sector.New(3), sector.New(0)
	dead.Fuse(0)
	want(t, "Barrier", dead.Barrier(), api.ErrDown)
	for _, d := range []*sector.Dev{nil, alive, dead, none} {
		for _, x := range [][2]int{
			{0, 0}, {1, 1}, {2, 2}, {3, 3}, {-1, -1},
			{-1, 0}, {0, -1}, {3, 0}, {0, 3}, {3, 4}, {-1, 3}, {2, api.MaxSectors}, {api.MaxSectors, 2},
			{math.MinInt, 1}, {1, math.MinInt}, {math.MaxInt, 1}, {1, math.MaxInt},
		} {
			if c, e := Open(d, x[0], x[1]); c != nil || e != api.ErrArg {
				t.Errorf("Open(%v): %v, %d", x, c, e)
			}
		}
	}
	for _, d := range []*sector.Dev{nil, none, sector.New(1)} {
		if c, e := Open(d, 0, 1); c != nil || e != api.ErrArg {
			t.Errorf("Open: %v, %d", c, e)
		}
	}
}

// P5.1: a dead device has no cell to be opened, till its power comes again.
func TestOpenOfDead(t *testing.T) {
	d := sector.New(2)
	put(t, d, 1, Slot(5, "there"))
	d.Fuse(0)
	finds(t, "not dead yet", d, 0, 1, 5, "there")
	want(t, "Barrier", d.Barrier(), api.ErrDown)
	if c, e := Open(d, 0, 1); c != nil || e != api.ErrDown {
		t.Errorf("Open: %v, %d", c, e)
	}
	d.Crash(nil)
	finds(t, "crash", d, 0, 1, 5, "there")
}

// P5.1: any two sectors may be a cell's, the last ones too, in either order.
func TestOpenAnywhere(t *testing.T) {
	for _, n := range []int{2, 3, 10, api.MaxSectors} {
		for _, x := range [][2]int{{0, 1}, {1, 0}, {0, n - 1}, {n - 1, 0}, {n - 2, n - 1}, {n - 1, n - 2}} {
			d := sector.New(n)
			c := opened(t, d, x[0], x[1])
			says(t, "new", c, 0, "")
			want(t, "Put", c.Put("first"), api.OK)
			holds(t, "first", d, x[0], Slot(1, "first"))
			holds(t, "first", d, x[1], nil)
			finds(t, "again", d, x[0], x[1], 1, "first")
			finds(t, "turned", d, x[1], x[0], 1, "first")
		}
	}
}

// P5.1: nothing is written, and no act is done, whatever lies there.
func TestOpenWritesNothing(t *testing.T) {
	for _, l := range [][2][]byte{{nil, nil}, {Slot(3, "a"), nil}, {[]byte("wrong"), Slot(3, "b")}, {Slot(2, "a"), Slot(2, "b")}} {
		d := sector.New(3)
		put(t, d, 0, l[0])
		put(t, d, 1, l[1])
		want(t, "Write", d.Write(2, []byte("pending")), api.OK)
		d.Fuse(1)
		for range 3 {
			opened(t, d, 0, 1)
		}
		if p := d.Pending(); !slices.Equal(p, []int{2}) {
			t.Errorf("pending %v", p)
		}
		holds(t, "opened", d, 0, l[0])
		holds(t, "opened", d, 1, l[1])
		want(t, "the last act", d.Barrier(), api.OK)
		want(t, "behind it", d.Barrier(), api.ErrDown)
	}
}

// P5.1: the present slot is the right one with the greater generation, of two alike the first one; the next text goes to the other sector.
func TestPresent(t *testing.T) {
	wrong := []byte("no slot")
	for _, c := range []struct {
		a, b []byte
		gen  int64
		text string
		next int
	}{
		{nil, nil, 0, "", 0},
		{wrong, wrong, 0, "", 0},
		{Slot(1, "a"), nil, 1, "a", 1},
		{nil, Slot(1, "b"), 1, "b", 0},
		{Slot(9, "a"), wrong, 9, "a", 1},
		{wrong, Slot(9, "b"), 9, "b", 0},
		{Slot(1, "a"), Slot(2, "b"), 2, "b", 0},
		{Slot(2, "a"), Slot(1, "b"), 2, "a", 1},
		{Slot(9, "a"), Slot(10, "b"), 10, "b", 0},
		{Slot(127, "a"), Slot(128, "b"), 128, "b", 0},
		{Slot(1<<40, "a"), Slot(3, "b"), 1 << 40, "a", 1},
		{Slot(3, "a"), Slot(1<<40, "b"), 1 << 40, "b", 0},
		{Slot(4, "a"), Slot(4, "b"), 4, "a", 1},
		{Slot(4, "b"), Slot(4, "a"), 4, "b", 1},
		{Slot(4, ""), Slot(4, "b"), 4, "", 1},
		{Slot(7, ""), Slot(3, "b"), 7, "", 1},
		{Slot(3, "a"), Slot(7, ""), 7, "", 0},
	} {
		d := sector.New(4)
		put(t, d, 3, c.a)
		put(t, d, 1, c.b)
		what := fmt.Sprintf("%q and %q", c.a, c.b)
		k := opened(t, d, 3, 1)
		says(t, what, k, c.gen, c.text)
		want(t, what, k.Put("next"), api.OK)
		says(t, what, k, c.gen+1, "next")
		l, at := [][]byte{c.a, c.b}, []int{3, 1}
		holds(t, what, d, at[c.next], Slot(c.gen+1, "next"))
		holds(t, what, d, at[1-c.next], l[1-c.next])
	}
}

// wantNoSlot checks that bytes are no right slot, in whichever sector they lie.
func wantNoSlot(t *testing.T, what string, b []byte) {
	t.Helper()
	d := sector.New(2)
	put(t, d, 0, b)
	finds(t, what, d, 0, 1, 0, "")
	finds(t, what, d, 1, 0, 0, "")
	put(t, d, 1, Slot(1, "right"))
	finds(t, what, d, 0, 1, 1, "right")
	finds(t, what, d, 1, 0, 1, "right")
}

// P5.1: of the records with a right sum just those are a slot's that have what a slot needs.
func TestRecordsOfNoSlot(t *testing.T) {
	long := strings.Repeat("x", api.MaxCell+1)
	for _, r := range []api.Rec{
		{},
		{Kind: 1},
		{Kind: 0, Nums: []int64{9}, Texts: []string{"a"}},
		{Kind: 2, Nums: []int64{9}, Texts: []string{"a"}},
		{Kind: 255, Nums: []int64{9}, Texts: []string{"a"}},
		{Kind: 1, Texts: []string{"a"}},
		{Kind: 1, Nums: []int64{9, 9}, Texts: []string{"a"}},
		{Kind: 1, Nums: make([]int64, 16), Texts: []string{"a"}},
		{Kind: 1, Nums: []int64{9}},
		{Kind: 1, Nums: []int64{9}, Texts: []string{"a", "b"}},
		{Kind: 1, Nums: []int64{9}, Texts: []string{"", "", "", ""}},
		{Kind: 1, Nums: []int64{0}, Texts: []string{"a"}},
		{Kind: 1, Nums: []int64{-1}, Texts: []string{"a"}},
		{Kind: 1, Nums: []int64{math.MinInt64}, Texts: []string{"a"}},
		{Kind: 1, Nums: []int64{api.MaxNumber + 1}, Texts: []string{"a"}},
		{Kind: 1, Nums: []int64{math.MaxInt64}, Texts: []string{"a"}},
		{Kind: 1, Nums: []int64{9}, Texts: []string{long}},
		{Kind: 1, Nums: []int64{9}, Texts: []string{long + "y"}},
		{Kind: 1, Nums: []int64{9}, Texts: []string{strings.Repeat("x", 135)}}, // as many bytes as a sector has
	} {
		wantNoSlot(t, fmt.Sprint(r), slotOf(t, r))
	}
}

// P5.1: n tells just the record's bytes, and no more than the sector has.
func TestLengthsOfNoSlot(t *testing.T) {
	r, _ := code.Encode(api.Rec{Kind: 1, Nums: []int64{5}, Texts: []string{"text"}})
	all := append(bytes.Clone(r), make([]byte, 255)...)
	for n := range 256 {
		if n == len(r) {
			continue
		}
		b := summed(n, all[:n])
		wantNoSlot(t, fmt.Sprint(n), b[:min(len(b), api.SectorSize)])
	}
	for n := 140; n < 256; n++ { // the sum of what there is
		wantNoSlot(t, fmt.Sprint(n), summed(n, all[:139]))
	}
	wantNoSlot(t, "no bytes", summed(0, nil))
	wantNoSlot(t, "bytes of no record", summed(5, []byte{1, 17, 2, 2, 'a'}))
	wantNoSlot(t, "a number of more bytes than needed", summed(6, []byte{1, 17, 0x82, 0, 1, 'a'}))
	wantNoSlot(t, "all bits one", bytes.Repeat([]byte{255}, api.SectorSize))
}

// P5.1: a slot of which one bit is another one is none; what stands behind it is no matter.
func TestOneBit(t *testing.T) {
	for _, s := range []string{"", "text", strings.Repeat("x", api.MaxCell)} {
		slot := rightSlot(t, 300, s)
		room := append(bytes.Clone(slot), make([]byte, api.SectorSize-len(slot))...)
		for i := range 8 * api.SectorSize {
			b := bytes.Clone(room)
			b[i/8] ^= 1 << (i % 8)
			if i < 8*len(slot) {
				wantNoSlot(t, fmt.Sprintf("%d bytes, bit %d", len(s), i), b)
				continue
			}
			d := sector.New(2)
			put(t, d, 1, b)
			finds(t, "behind", d, 0, 1, 300, s)
		}
		d := sector.New(2)
		put(t, d, 0, append(bytes.Clone(slot), bytes.Repeat([]byte{255}, api.SectorSize-len(slot))...))
		finds(t, "all ones behind", d, 0, 1, 300, s)
	}
}

// P5.1: a sum of other bytes, or turned about, is none.
func TestWrongSums(t *testing.T) {
	slot := rightSlot(t, 1, "a")
	rest := slot[4:]
	for what, sum := range map[string][]byte{
		"the lowest first": binary.LittleEndian.AppendUint32(nil, crc32.Checksum(rest, castagnoli)),
		"without n":        binary.BigEndian.AppendUint32(nil, crc32.Checksum(rest[1:], castagnoli)),
		"of one byte more": binary.BigEndian.AppendUint32(nil, crc32.Checksum(append(bytes.Clone(rest), 0), castagnoli)),
		"another sum":      binary.BigEndian.AppendUint32(nil, crc32.ChecksumIEEE(rest)),
		"0":                make([]byte, 4),
	} {
		wantNoSlot(t, what, slices.Concat(sum, rest))
	}
}

// P5.2: texts go to one sector and the other, each with nothing behind it, and touch no sector else.
func TestPut(t *testing.T) {
	d := sector.New(5)
	for i := range 5 {
		put(t, d, i, bytes.Repeat([]byte{'o'}, api.SectorSize))
	}
	c := opened(t, d, 1, 3)
	texts := []string{strings.Repeat("x", api.MaxCell), "", "short", "short", "\x00", "\xff\xfe", strings.Repeat("\x00", api.MaxCell)}
	for i, s := range texts {
		gen := int64(i + 1)
		want(t, "Put", c.Put(s), api.OK)
		says(t, "put", c, gen, s)
		holds(t, "put", d, []int{1, 3}[i%2], Slot(gen, s))
		if i > 0 {
			holds(t, "put", d, []int{3, 1}[i%2], Slot(gen-1, texts[i-1]))
		}
		if p := d.Pending(); len(p) != 0 {
			t.Errorf("pending %v", p)
		}
		finds(t, "opened", d, 1, 3, gen, s)
	}
	for _, i := range []int{0, 2, 4} {
		holds(t, "another sector", d, i, bytes.Repeat([]byte{'o'}, api.SectorSize))
	}
}

// P5.2: each length there may be, and none above.
func TestPutOfEachLength(t *testing.T) {
	d := sector.New(2)
	c := opened(t, d, 0, 1)
	for n := range api.MaxCell + 1 {
		s := strings.Repeat("s", n)
		want(t, fmt.Sprint(n), c.Put(s), api.OK)
		finds(t, fmt.Sprint(n), d, 0, 1, int64(n+1), s)
	}
	for _, n := range []int{api.MaxCell + 1, api.MaxCell + 2, api.MaxText + 1, 256, 100000} {
		want(t, fmt.Sprint(n), c.Put(strings.Repeat("s", n)), api.ErrSize)
	}
	says(t, "too long", c, api.MaxCell+1, strings.Repeat("s", api.MaxCell))
}

// P5.2: a Put is two acts: a write, and a barrier, that makes sure what else was written, too.
func TestActsOfPut(t *testing.T) {
	d := sector.New(3)
	c := opened(t, d, 0, 1)
	want(t, "Write", d.Write(2, []byte("else")), api.OK)
	d.Fuse(2)
	want(t, "Put", c.Put("a"), api.OK)
	want(t, "a third act", d.Barrier(), api.ErrDown)
	d.Crash(nil)
	holds(t, "sure", d, 0, Slot(1, "a"))
	holds(t, "sure", d, 2, []byte("else"))
}

// P5.2: no error does an act, or changes anything, and of several the first one is told.
func TestErrorsOfPut(t *testing.T) {
	long := strings.Repeat("x", api.MaxCell+1)
	d := sector.New(2)
	put(t, d, 1, Slot(api.MaxNumber-1, "almost"))
	c := opened(t, d, 0, 1)
	want(t, "the last", c.Put("last"), api.OK)
	says(t, "the last", c, api.MaxNumber, "last")
	d.Fuse(1)
	for range 3 {
		want(t, "one more", c.Put("more"), api.ErrSeq)
		want(t, "one more, too long", c.Put(long), api.ErrSize)
	}
	c = opened(t, d, 0, 1)
	want(t, "opened", c.Put(""), api.ErrSeq)
	says(t, "the last", c, api.MaxNumber, "last")
	holds(t, "the last", d, 0, Slot(api.MaxNumber, "last"))
	holds(t, "the last", d, 1, Slot(api.MaxNumber-1, "almost"))
	want(t, "the act that is left", d.Barrier(), api.OK)
	want(t, "behind it", d.Barrier(), api.ErrDown)
	want(t, "dead", c.Put("more"), api.ErrSeq)
	want(t, "dead, too long", c.Put(long), api.ErrSize)
	says(t, "dead", c, api.MaxNumber, "last")
}

// P5.2: where the device dies, at the write or at the barrier, the cell says what it did; what was under way may be there behind the crash.
func TestPutOfDying(t *testing.T) {
	for _, c := range []struct {
		fuse    int
		pending []int
		keep    []sector.Keep
		gen     int64
		text    string
	}{
		{0, nil, []sector.Keep{{How: 1}}, 1, "old"},
		{1, []int{0}, nil, 1, "old"},
		{1, []int{0}, []sector.Keep{{How: 2, N: 7}}, 1, "old"},
		{1, []int{0}, []sector.Keep{{How: 1}}, 2, "new"},
	} {
		d := sector.New(2)
		put(t, d, 1, Slot(1, "old"))
		k := opened(t, d, 0, 1)
		d.Fuse(c.fuse)
		want(t, "Put", k.Put("new"), api.ErrDown)
		says(t, "dying", k, 1, "old")
		if p := d.Pending(); !slices.Equal(p, c.pending) {
			t.Errorf("fuse %d: pending %v, not %v", c.fuse, p, c.pending)
		}
		want(t, "dead", k.Put("newer"), api.ErrDown)
		want(t, "dead, too long", k.Put(strings.Repeat("x", 101)), api.ErrSize)
		says(t, "dead", k, 1, "old")
		d.Crash(c.keep)
		finds(t, fmt.Sprint(c), d, 0, 1, c.gen, c.text)
		// Who isn't opened anew goes on from what was OK last, and spares its sector.
		says(t, "alive", k, 1, "old")
		d.Fuse(1)
		want(t, "alive", k.Put("other"), api.ErrDown)
		d.Crash([]sector.Keep{{How: 2, N: 7}})
		finds(t, "torn", d, 0, 1, 1, "old")
		want(t, "alive", k.Put("other"), api.OK)
		finds(t, "other", d, 0, 1, 2, "other")
	}
}

// P5.2: as long as there is no present slot, the first sector is the one that is written.
func TestFirstPutAgain(t *testing.T) {
	d := sector.New(2)
	c := opened(t, d, 1, 0)
	for n := range 2 {
		d.Fuse(n)
		want(t, "Put", c.Put("a"), api.ErrDown)
		says(t, "Put", c, 0, "")
		d.Crash(nil)
	}
	want(t, "Put", c.Put("a"), api.OK)
	holds(t, "a", d, 1, Slot(1, "a"))
	holds(t, "a", d, 0, nil)
}

// R5: cells know nothing of each other but by the device.
func TestManyCells(t *testing.T) {
	d, other := sector.New(4), sector.New(4)
	a, b, c := opened(t, d, 0, 1), opened(t, d, 2, 3), opened(t, other, 0, 1)
	want(t, "Put", a.Put("a1"), api.OK)
	want(t, "Put", b.Put("b1"), api.OK)
	want(t, "Put", a.Put("a2"), api.OK)
	says(t, "a", a, 2, "a2")
	says(t, "b", b, 1, "b1")
	says(t, "c", c, 0, "")
	d.Fuse(0)
	want(t, "Put", b.Put("b2"), api.ErrDown)
	want(t, "Put", c.Put("c1"), api.OK)
	d.Lose()
	finds(t, "lost", d, 0, 1, 0, "")
	finds(t, "c", other, 0, 1, 1, "c1")
}

// someText tells a text of n bytes.
func someText(r *rand.Rand, n int) string {
	b := make([]byte, n)
	r.Read(b)
	return string(b)
}

// P5.3: at each place where a sector may be torn, the cell has the one text or the other.
func TestTornAnywhere(t *testing.T) {
	for _, texts := range [][2]string{{"old", "new"}, {"", strings.Repeat("x", api.MaxCell)}, {strings.Repeat("x", api.MaxCell), ""}} {
		for n := range api.SectorSize + 1 {
			d := sector.New(2)
			c := opened(t, d, 0, 1)
			want(t, "Put", c.Put("ahead"), api.OK)
			want(t, "Put", c.Put(texts[0]), api.OK)
			d.Fuse(1)
			want(t, "Put", c.Put(texts[1]), api.ErrDown)
			d.Crash([]sector.Keep{{How: 2, N: n}})
			// What is behind the slot is 0 in both, so that it is whole as soon as its own bytes are there.
			if n < len(Slot(3, texts[1]))-1 {
				finds(t, fmt.Sprint(n), d, 0, 1, 2, texts[0])
			} else if n >= len(Slot(3, texts[1])) {
				finds(t, fmt.Sprint(n), d, 0, 1, 3, texts[1])
			}
			if k := opened(t, d, 0, 1); k.Get() != texts[0] && k.Get() != texts[1] {
				t.Errorf("%d: %q", n, k.Get())
			}
		}
	}
}

// P5.3: long rows of texts, with crashes in between: the cell has what was put last with OK, or what was under way.
func TestCrashes(t *testing.T) {
	for seed := range int64(200) {
		r := rand.New(rand.NewSource(seed))
		d := sector.New(3)
		c := opened(t, d, 2, 0)
		gen, sure := int64(0), ""
		for range 60 {
			if r.Intn(4) == 0 {
				d.Fuse(r.Intn(3))
			}
			if r.Intn(3) == 0 {
				d.Write(1, []byte(someText(r, 9)))
			}
			s := someText(r, r.Intn(api.MaxCell+1))
			e := c.Put(s)
			if e == api.OK {
				gen, sure = gen+1, s
			}
			says(t, "Put", c, gen, sure)
			if e == api.OK && r.Intn(3) > 0 {
				continue
			}
			d.Crash([]sector.Keep{{How: r.Intn(3), N: r.Intn(api.SectorSize)}, {How: r.Intn(3), N: r.Intn(api.SectorSize)}, {How: r.Intn(3)}})
			c = opened(t, d, 2, 0)
			if e != api.OK && c.Gen() == gen+1 && c.Get() == s {
				gen, sure = gen+1, s
			}
			says(t, "crash", c, gen, sure)
		}
	}
}

// told tells what a sector's bytes are a slot of, in another way: of what they could be a slot, they must be just that one's.
func told(t testing.TB, b []byte) (int64, string) {
	r, e := code.Decode(b[5:min(5+int(b[4]), len(b))])
	if e != api.OK || len(r.Nums) != 1 || len(r.Texts) != 1 {
		return 0, ""
	}
	gen, s := r.Nums[0], r.Texts[0]
	if gen < 1 || gen > api.MaxNumber || len(s) > api.MaxCell || !bytes.HasPrefix(b, rightSlot(t, gen, s)) {
		return 0, ""
	}
	return gen, s
}

// wantTold checks a cell of any two sectors.
func wantTold(t *testing.T, a, b []byte) {
	t.Helper()
	d := sector.New(2)
	put(t, d, 0, a)
	put(t, d, 1, b)
	a, _ = d.Read(0)
	b, _ = d.Read(1)
	gen, text := told(t, a)
	if other, s := told(t, b); other > gen {
		gen, text = other, s
	}
	finds(t, fmt.Sprintf("%q, %q", a, b), d, 0, 1, gen, text)
}

// P5.1: slots, and what is almost one, against another way of telling.
func TestAgainstTold(t *testing.T) {
	r := rand.New(rand.NewSource(3))
	some := func() []byte {
		b := Slot(1+r.Int63n(4), someText(r, r.Intn(4)))
		switch r.Intn(4) {
		case 0:
			b[r.Intn(len(b))] ^= byte(1 << r.Intn(8))
		case 1:
			b[5+r.Intn(len(b)-5)] ^= byte(1 << r.Intn(8))
			b = summed(len(b)-5, b[5:])
		case 2:
			b = append(b, someText(r, r.Intn(20))...)
		}
		return b
	}
	for range 20000 {
		wantTold(t, some(), some())
	}
}

func FuzzOpen(f *testing.F) {
	f.Add(Slot(1, "a"), Slot(2, "b"))
	f.Add(Slot(api.MaxNumber, ""), []byte("none"))
	f.Add([]byte{}, rightSlot(f, 0, "a"))
	f.Fuzz(func(t *testing.T, a, b []byte) {
		wantTold(t, a[:min(len(a), api.SectorSize)], b[:min(len(b), api.SectorSize)])
	})
}
