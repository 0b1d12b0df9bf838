package drl

import (
	"bytes"
	"fmt"
	"math"
	"math/rand"
	"slices"
	"strings"
	"testing"

	"seisin/api"
	"seisin/cell"
	"seisin/sector"
)

// want checks an error.
func want(t *testing.T, what string, e, w api.Errno) {
	t.Helper()
	if e != w {
		t.Errorf("%s: %d, not %d", what, e, w)
	}
}

// regionsOf tells how many regions so many blocks are: as many as are begun.
func regionsOf(blocks int) int {
	n := 0
	for first := 0; first < blocks; first += api.RegionSize {
		n++
	}
	return n
}

// textOf tells the text of a row, whose marks are a number's bits. No list has more than eight regions, so that one byte holds them.
func textOf(blocks int, marks byte) string {
	return string([]byte{byte(regionsOf(blocks)), marks})
}

// notOf tells numbers of which so many blocks have none.
func notOf(blocks int) []int {
	return []int{-1, -2, -3, -4, -5, -blocks, -blocks - 1, blocks, blocks + 1, blocks + 2, blocks + 3, blocks + 4, 32, 33, 36, 64, 255, 256, 1 << 32, -1 << 32, 1<<32 + 1, math.MaxInt, math.MinInt}
}

// says checks a list by all that it tells but its cell.
func says(t *testing.T, what string, l *List, blocks int, marks byte) {
	t.Helper()
	var marked []int
	for b := range blocks {
		is := marks>>(b/4)&1 == 1
		if is {
			marked = append(marked, b)
		}
		if l.Has(b) != is {
			t.Errorf("%s: Has(%d) = %v of %08b", what, b, l.Has(b), marks)
		}
	}
	for _, b := range notOf(blocks) {
		if l.Has(b) {
			t.Errorf("%s: Has(%d) of %d blocks", what, b, blocks)
		}
	}
	if got := l.Blocks(); !slices.Equal(got, marked) {
		t.Errorf("%s: Blocks %v, not %v", what, got, marked)
	}
	if r := l.Row(); r.Len() != regionsOf(blocks) || r.Text() != textOf(blocks, marks) {
		t.Errorf("%s: Row %d, %q, not %q", what, r.Len(), r.Text(), textOf(blocks, marks))
	}
}

// saysCell checks what is asked of a list's cell.
func saysCell(t *testing.T, what string, l *List, gen int64, text string) {
	t.Helper()
	if l.Gen() != gen || l.Get() != text {
		t.Errorf("%s: %d, %q, not %d, %q", what, l.Gen(), l.Get(), gen, text)
	}
}

// opened opens a list that must be there, in the sectors 0 and 1.
func opened(t *testing.T, d *sector.Dev, blocks int) *List {
	t.Helper()
	l, e := Open(d, 0, 1, blocks)
	if e != api.OK || l == nil {
		t.Fatalf("Open: %v, %d", l, e)
	}
	return l
}

// finds opens a list, and checks what it says.
func finds(t *testing.T, what string, d *sector.Dev, blocks int, marks byte) {
	t.Helper()
	says(t, what, opened(t, d, blocks), blocks, marks)
}

// wantNoOpen checks that there is no list to be opened.
func wantNoOpen(t *testing.T, what string, d *sector.Dev, a, b, blocks int, w api.Errno) {
	t.Helper()
	l, e := Open(d, a, b, blocks)
	want(t, what, e, w)
	if l != nil {
		t.Errorf("%s: %v", what, l)
	}
}

// lay lets a device's sector have the slot of a text for sure.
func lay(t *testing.T, d *sector.Dev, i int, gen int64, text string) {
	t.Helper()
	want(t, "Write", d.Write(i, cell.Slot(gen, text)), api.OK)
	want(t, "Barrier", d.Barrier(), api.OK)
}

// laid tells a device whose cell has a text.
func laid(t *testing.T, gen int64, text string) *sector.Dev {
	t.Helper()
	d := sector.New(2)
	lay(t, d, 0, gen, text)
	return d
}

// holds checks a sector's bytes, with 0 behind them.
func holds(t *testing.T, what string, d *sector.Dev, i int, b []byte) {
	t.Helper()
	got, e := d.Read(i)
	if e != api.OK || !bytes.Equal(got, append(slices.Clip(b), make([]byte, api.SectorSize-len(b))...)) {
		t.Errorf("%s: sector %d: %q, %d, not %q", what, i, got, e, b)
	}
}

// dying tells a device whose power goes at the next act but n.
func dying(d *sector.Dev, n int) *sector.Dev {
	d.Fuse(n)
	return d
}

// TestExample: the chapter's example.
func TestExample(t *testing.T) {
	d := sector.New(2)
	l := opened(t, d, 6)
	want(t, "Mark(5)", l.Mark(5), api.OK)
	if b := l.Blocks(); !slices.Equal(b, []int{4, 5}) {
		t.Errorf("Blocks: %v", b)
	}
	d.Crash(nil)
	l = opened(t, d, 6)
	if !l.Has(4) || l.Has(3) {
		t.Errorf("Has: %v, %v", l.Has(4), l.Has(3))
	}
	want(t, "Clear", l.Clear(), api.OK)
	if b := l.Blocks(); len(b) != 0 {
		t.Errorf("Blocks: %v", b)
	}
}

// P8.1: so many blocks there can't be, whatever else is wrong.
func TestOpenOfWrongBlocks(t *testing.T) {
	dead := sector.New(2)
	want(t, "Barrier", dying(dead, 0).Barrier(), api.ErrDown)
	for _, d := range []*sector.Dev{nil, sector.New(0), sector.New(2), dead, laid(t, 1, textOf(6, 2))} {
		for _, n := range []int{0, -1, -4, -32, 33, 34, 36, 64, 256, 1<<32 + 6, -1 << 32, math.MaxInt, math.MinInt} {
			wantNoOpen(t, fmt.Sprint(n, " blocks"), d, 0, 1, n, api.ErrArg)
			wantNoOpen(t, fmt.Sprint(n, " blocks, one sector"), d, 1, 1, n, api.ErrArg)
		}
	}
}

// P8.1: what can be no cell is no list.
func TestOpenOfNoCell(t *testing.T) {
	alive, dead := sector.New(3), sector.New(3)
	want(t, "Barrier", dying(dead, 0).Barrier(), api.ErrDown)
	for _, blocks := range []int{1, 6, 32} {
		for _, d := range []*sector.Dev{alive, dead} {
			for _, x := range [][2]int{{0, 0}, {2, 2}, {-1, 0}, {0, -1}, {3, 0}, {0, 3}, {math.MinInt, 1}, {1, math.MaxInt}} {
				wantNoOpen(t, fmt.Sprint(x), d, x[0], x[1], blocks, api.ErrArg)
			}
		}
		wantNoOpen(t, "no device", nil, 0, 1, blocks, api.ErrArg)
		wantNoOpen(t, "no sectors", sector.New(0), 0, 1, blocks, api.ErrArg)
		wantNoOpen(t, "dead", dead, 0, 1, blocks, api.ErrDown)
	}
}

// P8.1: a new device's list has a place for each region, and none is marked.
func TestOpenOfNew(t *testing.T) {
	for blocks := 1; blocks <= api.MaxBlocks; blocks++ {
		l := opened(t, sector.New(2), blocks)
		says(t, "new", l, blocks, 0)
		saysCell(t, "new", l, 0, "")
	}
}

// P8.1: each row of as many places as there are regions is the list's, and no other one.
func TestOpenOfEachRow(t *testing.T) {
	for n := 1; n <= api.MaxBlocks; n += api.RegionSize {
		for marks := range 1 << regionsOf(n) {
			text := textOf(n, byte(marks))
			d := laid(t, 7, text)
			for blocks := 1; blocks <= api.MaxBlocks; blocks++ {
				l := opened(t, d, blocks)
				saysCell(t, "laid", l, 7, text)
				if regionsOf(blocks) == regionsOf(n) {
					says(t, "its own", l, blocks, byte(marks))
				} else {
					says(t, "another length", l, blocks, 0)
				}
			}
		}
	}
}

// P8.1: of what is no row's text none is marked, nor of rows that no list has.
func TestOpenOfNoRow(t *testing.T) {
	for _, text := range []string{
		"", "\x00", "\x01", "\x02", "\x08", "x", "\x00\x00", "\x00\x01",
		"\x01\x02", "\x01\x03", "\x02\x04", "\x02\x07", "\x02\x82", "\x07\x80", "\x07\xff", "\x03\x08",
		"\x01\x01\x00", "\x02\x02\x00", "\x02\x02\x02", "\x08\xff\x00", "\x08\xff\xff",
		"\x09\xff\x01", "\x0a\x02\x02", "\x10\xff\xff", "\x20\xff\xff\xff\xff", "\x40\xff\xff\xff\xff\xff\xff\xff\xff",
		"\x41\xff\xff\xff\xff\xff\xff\xff\xff\x01", "\x82\x03", "\xff\xff", "2\x03", "\xc2\x82",
		strings.Repeat("\x01", api.MaxCell), strings.Repeat("\xff", api.MaxCell),
	} {
		d := laid(t, 3, text)
		for blocks := 1; blocks <= api.MaxBlocks; blocks++ {
			l := opened(t, d, blocks)
			says(t, fmt.Sprintf("%q", text), l, blocks, 0)
			saysCell(t, fmt.Sprintf("%q", text), l, 3, text)
		}
	}
}

// P8.1: the cell lies in the two sectors that were named, and its present text is the list's.
func TestOpenAnywhere(t *testing.T) {
	for _, x := range [][2]int{{0, 1}, {1, 0}, {2, 3}, {4, 2}, {0, 511}, {511, 510}} {
		d := sector.New(api.MaxSectors)
		lay(t, d, x[0], 4, textOf(20, 1))
		lay(t, d, x[1], 5, textOf(20, 18))
		l, e := Open(d, x[0], x[1], 20)
		want(t, fmt.Sprint(x), e, api.OK)
		says(t, fmt.Sprint(x), l, 20, 18)
		want(t, fmt.Sprint(x), l.Mark(11), api.OK)
		holds(t, fmt.Sprint(x), d, x[0], cell.Slot(6, textOf(20, 22)))
		holds(t, fmt.Sprint(x), d, x[1], cell.Slot(5, textOf(20, 18)))
	}
}

// P8.1: the sector that was named first is the cell's first one: it is written first, and of two alike it is the one.
func TestOrderOfSectors(t *testing.T) {
	for _, x := range [][2]int{{0, 2}, {2, 0}} {
		d := sector.New(3)
		l, e := Open(d, x[0], x[1], 20)
		want(t, fmt.Sprint(x), e, api.OK)
		want(t, fmt.Sprint(x), l.Mark(4), api.OK)
		holds(t, fmt.Sprint(x), d, x[0], cell.Slot(1, textOf(20, 2)))
		holds(t, fmt.Sprint(x), d, x[1], nil)
		lay(t, d, x[1], 1, textOf(20, 9))
		l, e = Open(d, x[0], x[1], 20)
		want(t, fmt.Sprint(x), e, api.OK)
		says(t, fmt.Sprint(x), l, 20, 2)
	}
}

// P8.1, P8.2: to open and to ask does no act, and writes nothing.
func TestAskingWritesNothing(t *testing.T) {
	for _, text := range []string{"", "no row", textOf(9, 0), textOf(9, 5), textOf(32, 255)} {
		d := dying(laid(t, 2, text), 0)
		for _, blocks := range []int{1, 9, 32} {
			l := opened(t, d, blocks)
			l.Row()
			l.Has(0)
			l.Blocks()
			saysCell(t, "asked", l, 2, text)
		}
		if d.Dead() || len(d.Pending()) != 0 {
			t.Errorf("%q: dead %v, pending %v", text, d.Dead(), d.Pending())
		}
		holds(t, text, d, 0, cell.Slot(2, text))
		holds(t, text, d, 1, nil)
	}
}

// P8.2: each block marks its own region, beside what is marked, by one text of the cell.
func TestMark(t *testing.T) {
	for blocks := 1; blocks <= api.MaxBlocks; blocks++ {
		all := byte(1<<regionsOf(blocks) - 1)
		for b := range blocks {
			own := byte(1) << (b / 4)
			for _, was := range []byte{0, all &^ own, 0x55 & all &^ own} {
				what := fmt.Sprintf("%d blocks, %08b, Mark(%d)", blocks, was, b)
				d := laid(t, 8, textOf(blocks, was))
				l := opened(t, d, blocks)
				want(t, what, l.Mark(b), api.OK)
				says(t, what, l, blocks, was|own)
				saysCell(t, what, l, 9, textOf(blocks, was|own))
				holds(t, what, d, 0, cell.Slot(8, textOf(blocks, was)))
				holds(t, what, d, 1, cell.Slot(9, textOf(blocks, was|own)))
				d.Crash(nil)
				finds(t, what, d, blocks, was|own)
			}
		}
	}
}

// P8.2: where its region is marked, nothing is done, by whatever block of it, even if it couldn't be.
func TestMarkOfMarked(t *testing.T) {
	for blocks := 1; blocks <= api.MaxBlocks; blocks++ {
		for b := range blocks {
			own := byte(1) << (b / 4)
			text := textOf(blocks, own)
			for _, gen := range []int64{5, api.MaxNumber} {
				d := laid(t, gen, text)
				l := opened(t, dying(d, 0), blocks)
				for other := b / 4 * 4; other < min(b/4*4+4, blocks); other++ {
					want(t, fmt.Sprintf("%d blocks, Mark(%d)", blocks, other), l.Mark(other), api.OK)
				}
				says(t, "again", l, blocks, own)
				saysCell(t, "again", l, gen, text)
				if d.Dead() {
					t.Errorf("%d blocks, Mark(%d): dead", blocks, b)
				}
			}
		}
	}
}

// P8.2: there is no such block, whatever is marked, and whatever else is wrong; the last region has no block behind the last one.
func TestMarkOfNoBlock(t *testing.T) {
	for blocks := 1; blocks <= api.MaxBlocks; blocks++ {
		for _, marks := range []byte{0, byte(1<<regionsOf(blocks) - 1)} {
			for _, gen := range []int64{5, api.MaxNumber} {
				d := laid(t, gen, textOf(blocks, marks))
				l := opened(t, dying(d, 1), blocks)
				for _, b := range notOf(blocks) {
					want(t, fmt.Sprintf("%d blocks, Mark(%d)", blocks, b), l.Mark(b), api.ErrRange)
				}
				want(t, "the act that is left", d.Barrier(), api.OK)
				want(t, "behind it", d.Barrier(), api.ErrDown)
				want(t, "dead", l.Mark(blocks), api.ErrRange)
				want(t, "dead", l.Mark(-1), api.ErrRange)
				says(t, "afterwards", l, blocks, marks)
				saysCell(t, "afterwards", l, gen, textOf(blocks, marks))
			}
		}
	}
}

// P8.2: what lay there, if it is no row of these regions, is gone with the first mark.
func TestMarkBehindNoRow(t *testing.T) {
	for _, text := range []string{"", "no row", "\x03\x07", "\x02\x04", "\x08\xff", "\x02\x03\x00"} {
		d := laid(t, 3, text)
		l := opened(t, d, 6)
		want(t, text, l.Mark(2), api.OK)
		says(t, text, l, 6, 1)
		saysCell(t, text, l, 4, textOf(6, 1))
		d.Crash(nil)
		finds(t, text, d, 6, 1)
	}
}

// P8.2: whatever is marked, a Clear takes it all away, by one text of the cell.
func TestClear(t *testing.T) {
	for blocks := 1; blocks <= api.MaxBlocks; blocks++ {
		for marks := 1; marks < 1<<regionsOf(blocks); marks++ {
			d := laid(t, 8, textOf(blocks, byte(marks)))
			l := opened(t, d, blocks)
			d.Fuse(2)
			want(t, "Clear", l.Clear(), api.OK)
			want(t, "again", l.Clear(), api.OK)
			says(t, "cleared", l, blocks, 0)
			saysCell(t, "cleared", l, 9, textOf(blocks, 0))
			holds(t, "cleared", d, 1, cell.Slot(9, textOf(blocks, 0)))
			d.Crash(nil)
			finds(t, "cleared", d, blocks, 0)
		}
	}
}

// P8.2: where none is marked, nothing is done, even if it couldn't be, and whatever lies there stays.
func TestClearOfNone(t *testing.T) {
	for _, text := range []string{"", "no row", "\x03\x07", "\x02\x04", "\x02\x00"} {
		for _, gen := range []int64{5, api.MaxNumber} {
			d := laid(t, gen, text)
			l := opened(t, dying(d, 0), 6)
			want(t, text, l.Clear(), api.OK)
			says(t, text, l, 6, 0)
			saysCell(t, text, l, gen, text)
			if d.Dead() {
				t.Errorf("%q: dead", text)
			}
			want(t, "Barrier", d.Barrier(), api.ErrDown)
			want(t, "dead", l.Clear(), api.OK)
			saysCell(t, text, l, gen, text)
		}
	}
	d := sector.New(2)
	want(t, "new", opened(t, d, 6).Clear(), api.OK)
	holds(t, "new", d, 0, nil)
	holds(t, "new", d, 1, nil)
}

// P8.2: where the cell has no more generations, its error is told, and all stays.
func TestNoMoreGenerations(t *testing.T) {
	d := laid(t, api.MaxNumber-1, textOf(32, 1))
	l := opened(t, d, 32)
	want(t, "the last", l.Mark(30), api.OK)
	for range 3 {
		want(t, "Mark", l.Mark(9), api.ErrSeq)
		want(t, "Clear", l.Clear(), api.ErrSeq)
		says(t, "afterwards", l, 32, 129)
		saysCell(t, "afterwards", l, api.MaxNumber, textOf(32, 129))
	}
	finds(t, "opened", d, 32, 129)
}

// change is a call that puts the cell, and with it the marks.
type change struct {
	what    string
	call    func(l *List) api.Errno
	was, is byte
}

// changes tells some of 30 blocks.
func changes() []change {
	return []change{
		{"Mark", func(l *List) api.Errno { return l.Mark(21) }, 5, 37},
		{"first Mark", func(l *List) api.Errno { return l.Mark(0) }, 0, 1},
		{"Clear", func(l *List) api.Errno { return l.Clear() }, 37, 0},
	}
}

// P8.2, P8.3: where the device dies, at the write or at the barrier, all stays as it was; what was under way may be there behind the crash.
func TestDying(t *testing.T) {
	for _, death := range []struct {
		fuse    int
		pending []int
		keep    []sector.Keep
		kept    bool
	}{
		{0, nil, []sector.Keep{{How: 1}}, false},
		{1, []int{1}, nil, false},
		{1, []int{1}, []sector.Keep{{How: 2, N: 6}}, false},
		{1, []int{1}, []sector.Keep{{How: 1}}, true},
	} {
		for _, c := range changes() {
			what := fmt.Sprintf("%s, fuse %d, %v", c.what, death.fuse, death.keep)
			d := laid(t, 4, textOf(30, c.was))
			l := opened(t, d, 30)
			d.Fuse(death.fuse)
			for range 2 {
				want(t, what, c.call(l), api.ErrDown)
				says(t, what, l, 30, c.was)
				saysCell(t, what, l, 4, textOf(30, c.was))
			}
			if p := d.Pending(); !slices.Equal(p, death.pending) {
				t.Errorf("%s: pending %v", what, p)
			}
			d.Crash(death.keep)
			there := map[bool]byte{false: c.was, true: c.is}[death.kept]
			finds(t, what, d, 30, there)
			want(t, what, c.call(l), api.OK)
			says(t, what, l, 30, c.is)
			finds(t, what, d, 30, c.is)
		}
	}
}

// P8.3: at each place where a sector may be torn, the list has the one row or the other.
func TestTornAnywhere(t *testing.T) {
	for _, c := range changes() {
		size := len(cell.Slot(5, textOf(30, c.is)))
		for n := range api.SectorSize + 1 {
			what := fmt.Sprintf("%s, %d bytes", c.what, n)
			d := laid(t, 4, textOf(30, c.was))
			l := opened(t, d, 30)
			d.Fuse(1)
			want(t, what, c.call(l), api.ErrDown)
			d.Crash([]sector.Keep{{How: 2, N: n}})
			switch s := opened(t, d, 30).Row().Text(); {
			case n < size-1: // one byte less than the slot may be all of it, where its last one is 0
				finds(t, what, d, 30, c.was)
			case n >= size:
				finds(t, what, d, 30, c.is)
			case s != textOf(30, c.was) && s != textOf(30, c.is):
				t.Errorf("%s: %q", what, s)
			}
		}
	}
}

// R3, R4: a list of blocks that is told is the caller's, and so is a row.
func TestAnswersAreNew(t *testing.T) {
	l := opened(t, laid(t, 1, textOf(14, 10)), 14)
	first := l.Blocks()
	clear(first[:cap(first)])
	if e := l.Mark(13); e != api.OK {
		t.Errorf("Mark: %d", e)
	}
	if r, e := l.Row().Put(0); e != api.OK || !r.Has(0) {
		t.Errorf("Put: %d", e)
	}
	says(t, "afterwards", l, 14, 10)
}

// R5: lists know nothing of each other but by the device.
func TestManyLists(t *testing.T) {
	d, other := sector.New(4), sector.New(4)
	a, c := opened(t, d, 6), opened(t, other, 6)
	b, e := Open(d, 3, 2, 32)
	want(t, "Open", e, api.OK)
	want(t, "a", a.Mark(0), api.OK)
	want(t, "b", b.Mark(31), api.OK)
	want(t, "b", b.Mark(16), api.OK)
	says(t, "a", a, 6, 1)
	says(t, "b", b, 32, 144)
	says(t, "c", c, 6, 0)
	want(t, "a", a.Clear(), api.OK)
	says(t, "b", b, 32, 144)
	d.Lose()
	finds(t, "lost", d, 6, 0)
	want(t, "c", c.Mark(5), api.OK)
	finds(t, "c", other, 6, 2)
}

// someCall calls a list by chance; it tells what is marked if that is OK. Of no such block it checks the error, and tells OK in its place.
func someCall(t *testing.T, r *rand.Rand, l *List, blocks int, marks byte) (api.Errno, byte) {
	t.Helper()
	if r.Intn(6) == 0 {
		return l.Clear(), 0
	}
	b := r.Intn(blocks+4) - 2
	e := l.Mark(b)
	if b < 0 || b >= blocks {
		want(t, fmt.Sprintf("Mark(%d) of %d blocks", b, blocks), e, api.ErrRange)
		return api.OK, marks
	}
	return e, marks | 1<<(b/4)
}

// P8.2, P8.3: long rows of calls, with crashes in between: what was marked with OK is marked, till it is cleared; what is marked besides was under way.
func TestCrashes(t *testing.T) {
	for seed := range int64(300) {
		r := rand.New(rand.NewSource(seed))
		blocks := 1 + r.Intn(api.MaxBlocks)
		d := sector.New(3)
		l, marks := opened(t, d, blocks), byte(0)
		for range 60 {
			if r.Intn(4) == 0 {
				d.Fuse(r.Intn(3))
			}
			if r.Intn(3) == 0 {
				d.Write(2, []byte("else"))
			}
			e, next := someCall(t, r, l, blocks, marks)
			if e == api.OK {
				marks = next
			} else {
				want(t, "dying", e, api.ErrDown)
			}
			says(t, "call", l, blocks, marks)
			if e == api.OK && r.Intn(3) > 0 && !d.Dead() {
				continue
			}
			d.Crash([]sector.Keep{{How: r.Intn(3), N: r.Intn(api.SectorSize)}, {How: r.Intn(3), N: r.Intn(api.SectorSize)}, {How: r.Intn(3)}})
			l = opened(t, d, blocks)
			if e != api.OK && l.Row().Text() == textOf(blocks, next) {
				marks = next
			}
			says(t, "crash", l, blocks, marks)
		}
	}
}

// FuzzOpen: of whatever text the cell has, a list is marked just where the text is one of its rows.
func FuzzOpen(f *testing.F) {
	f.Add("\x02\x02", 6)
	f.Add("\x08\xff", 32)
	f.Add("\x03\x08", 9)
	f.Add("", 1)
	f.Fuzz(func(t *testing.T, text string, n int) {
		blocks, text := 1+int(uint(n)%api.MaxBlocks), text[:min(len(text), api.MaxCell)]
		l, marks := opened(t, laid(t, 1, text), blocks), byte(0)
		if len(text) == 2 && int(text[0]) == regionsOf(blocks) && int(text[1]) < 1<<regionsOf(blocks) {
			marks = text[1]
		}
		says(t, fmt.Sprintf("%d blocks, %q", blocks, text), l, blocks, marks)
	})
}
