package log

import (
	"bytes"
	"encoding/binary"
	"fmt"
	"hash/crc32"
	"math"
	"math/rand"
	"slices"
	"strings"
	"testing"

	"seisin/api"
	"seisin/cell"
	"seisin/code"
	"seisin/sector"
)

var castagnoli = crc32.MakeTable(crc32.Castagnoli)

// most is the longest payload.
var most = strings.Repeat("m", api.MaxEntry)

// want checks an error.
func want(t *testing.T, what string, e, w api.Errno) {
	t.Helper()
	if e != w {
		t.Errorf("%s: %d, not %d", what, e, w)
	}
}

// opened opens a log that must be there, in the sectors from 2 on, with its cell in the first two.
func opened(t *testing.T, d *sector.Dev) *Log {
	t.Helper()
	return openedAt(t, d, 2, d.Sectors()-2, 0, 1)
}

func openedAt(t *testing.T, d *sector.Dev, first, n, a, b int) *Log {
	t.Helper()
	l, e := Open(d, first, n, a, b)
	if e != api.OK || l == nil {
		t.Fatalf("Open(%d, %d, %d, %d): %v, %d", first, n, a, b, l, e)
	}
	return l
}

// says checks what a log of n sectors says; its records are told as words.
func says(t *testing.T, what string, l *Log, n int, head, time int64, records string) {
	t.Helper()
	w := strings.Fields(records)
	if got := l.Records(); !slices.Equal(got, w) {
		t.Errorf("%s: records %q, not %q", what, got, w)
	}
	if l.Head() != head || l.Tail() != head+int64(len(w)) || l.Time() != time || l.Free() != n-len(w) {
		t.Errorf("%s: head %d, tail %d, time %d, free %d, not head %d, time %d, of %d records", what, l.Head(), l.Tail(), l.Time(), l.Free(), head, time, len(w))
	}
}

// finds opens a log, and checks what it says.
func finds(t *testing.T, what string, d *sector.Dev, head, time int64, records string) *Log {
	t.Helper()
	l := opened(t, d)
	says(t, what, l, d.Sectors()-2, head, time, records)
	return l
}

// appends appends words.
func appends(t *testing.T, l *Log, words string) {
	t.Helper()
	for _, s := range strings.Fields(words) {
		want(t, "Append "+s, l.Append(s), api.OK)
	}
}

// put lets a device have bytes in a sector for sure.
func put(t *testing.T, d *sector.Dev, i int, b []byte) {
	t.Helper()
	want(t, "Write", d.Write(i, b), api.OK)
	want(t, "Barrier", d.Barrier(), api.OK)
}

// holds checks a sector's bytes, with 0 behind them.
func holds(t *testing.T, what string, d *sector.Dev, i int, b []byte) {
	t.Helper()
	got, e := d.Read(i)
	if e != api.OK || !bytes.Equal(got, append(slices.Clip(b), make([]byte, api.SectorSize-len(b))...)) {
		t.Errorf("%s: sector %d: %q, %d, not %q", what, i, got, e, b)
	}
}

// summed tells n, and bytes, with their sum ahead, as the chapter has it, by the library.
func summed(n int, b []byte) []byte {
	l := append([]byte{byte(n)}, b...)
	return append(binary.BigEndian.AppendUint32(nil, crc32.Checksum(l, castagnoli)), l...)
}

// encoded tells a record's bytes.
func encoded(t testing.TB, r api.Rec) []byte {
	t.Helper()
	b, e := code.Encode(r)
	if e != api.OK {
		t.Fatalf("Encode(%v): %d", r, e)
	}
	return b
}

// sectorOf tells the bytes of what would be a record's sector, whether it is right or not.
func sectorOf(t testing.TB, r api.Rec) []byte {
	t.Helper()
	b := encoded(t, r)
	return summed(len(b), b)
}

// right tells the bytes of a right sector of record k.
func right(t testing.TB, k, time int64, payload string) []byte {
	t.Helper()
	return sectorOf(t, api.Rec{Kind: 2, Nums: []int64{k, time}, Texts: []string{payload}})
}

// stateOf tells the cell's text.
func stateOf(t testing.TB, head, time, least int64) string {
	t.Helper()
	return string(encoded(t, api.Rec{Kind: 3, Nums: []int64{head, time, least}}))
}

// putCell lets a device have a text in the cell of sectors 0 and 1.
func putCell(t testing.TB, d *sector.Dev, text string) {
	t.Helper()
	c, e := cell.Open(d, 0, 1)
	if e != api.OK {
		t.Fatalf("cell.Open: %d", e)
	}
	if e := c.Put(text); e != api.OK {
		t.Fatalf("cell.Put(%q): %d", text, e)
	}
}

// hasCell checks the text of the cell of sectors 0 and 1.
func hasCell(t *testing.T, what string, d *sector.Dev, text string) {
	t.Helper()
	if c, e := cell.Open(d, 0, 1); e != api.OK || c.Get() != text {
		t.Errorf("%s: the cell isn't of %q: %v, %d", what, text, c, e)
	}
}

// TestExample: the chapter's example.
func TestExample(t *testing.T) {
	l := finds(t, "new", sector.New(4), 1, 1, "")
	want(t, "a", l.Append("a"), api.OK)
	want(t, "b", l.Append("b"), api.OK)
	want(t, "c", l.Append("c"), api.ErrFull)
	want(t, "Trim", l.Trim(2), api.OK)
	want(t, "c", l.Append("c"), api.OK)
	says(t, "the end", l, 2, 2, 1, "b c")
	if l.Tail() != 4 {
		t.Errorf("tail %d", l.Tail())
	}
}

// P6.1: what can be no log; that is told ahead of a dead device.
func TestOpenOfNoLog(t *testing.T) {
	alive, dead := sector.New(10), sector.New(10)
	dead.Fuse(0)
	want(t, "Barrier", dead.Barrier(), api.ErrDown)
	for _, d := range []*sector.Dev{nil, alive, dead, sector.New(0)} {
		for _, x := range [][4]int{
			{2, 1, 0, 1}, {2, 0, 0, 1}, {2, -1, 0, 1}, {2, -8, 0, 1}, {2, math.MinInt, 0, 1},
			{2, 9, 0, 1}, {8, 3, 0, 1}, {9, 2, 0, 1}, {10, 2, 0, 1}, {11, 2, 0, 1}, {2, math.MaxInt, 0, 1},
			{-1, 4, 8, 9}, {-2, 4, 8, 9}, {math.MinInt, 4, 8, 9}, {math.MinInt, math.MaxInt, 8, 9},
			{math.MaxInt, 2, 0, 1}, {math.MaxInt, math.MaxInt, 0, 1}, {math.MaxInt - 1, 2, 0, 1},
			{2, 8, 0, 2}, {2, 8, 2, 0}, {2, 8, 9, 0}, {2, 8, 1, 9}, {3, 4, 3, 0}, {3, 4, 0, 6}, {3, 4, 4, 5},
			{2, 8, 0, 0}, {3, 4, 9, 9},
			{2, 8, 0, -1}, {2, 8, -1, 0}, {0, 4, 9, 10}, {0, 4, 10, 9}, {0, 4, math.MinInt, 9}, {0, 4, 9, math.MaxInt},
		} {
			if l, e := Open(d, x[0], x[1], x[2], x[3]); l != nil || e != api.ErrArg {
				t.Errorf("Open(%v): %v, %d", x, l, e)
			}
		}
	}
	for i := range 10 {
		holds(t, "no log", alive, i, nil)
	}
	if l, e := Open(nil, 2, 4, 0, 1); l != nil || e != api.ErrArg {
		t.Errorf("Open(nil): %v, %d", l, e)
	}
}

// P6.1: a ring may lie anywhere beside its cell, and touches no sector else.
func TestOpenAnywhere(t *testing.T) {
	other := bytes.Repeat([]byte{'o'}, api.SectorSize)
	for _, x := range []struct{ sectors, first, n, a, b int }{
		{4, 2, 2, 0, 1}, {4, 0, 2, 2, 3}, {4, 1, 2, 3, 0}, {10, 3, 4, 7, 2}, {10, 3, 4, 2, 7}, {10, 5, 3, 9, 0},
		{api.MaxSectors, 2, 510, 1, 0}, {api.MaxSectors, 0, 510, 510, 511}, {api.MaxSectors, 510, 2, 0, 509},
	} {
		d := sector.New(x.sectors)
		for i := range x.sectors {
			put(t, d, i, other)
		}
		l := openedAt(t, d, x.first, x.n, x.a, x.b)
		says(t, "new", l, x.n, 1, 1, "")
		holds(t, "first of the cell", d, x.a, cell.Slot(1, stateOf(t, 1, 1, 0)))
		var all []string
		for k := range x.n {
			s := fmt.Sprint("r", k+1)
			all = append(all, s)
			want(t, s, l.Append(s), api.OK)
			holds(t, s, d, x.first+(k+1)%x.n, right(t, int64(k+1), 1, s))
		}
		want(t, "full", l.Append("more"), api.ErrFull)
		for i := range x.sectors {
			if i != x.a && (i < x.first || i >= x.first+x.n) {
				holds(t, "another sector", d, i, other)
			}
		}
		says(t, "again", openedAt(t, d, x.first, x.n, x.a, x.b), x.n, 1, 2, strings.Join(all, " "))
	}
}

// P6.1: a dead device has no log to be opened, till its power comes again.
func TestOpenOfDead(t *testing.T) {
	d := sector.New(5)
	l := opened(t, d)
	appends(t, l, "a b")
	want(t, "Sync", l.Sync(), api.OK)
	d.Fuse(0)
	want(t, "Append", l.Append("c"), api.ErrDown)
	if l, e := Open(d, 2, 3, 0, 1); l != nil || e != api.ErrDown {
		t.Errorf("Open: %v, %d", l, e)
	}
	d.Crash(nil)
	finds(t, "crash", d, 1, 2, "a b")
}

// P6.1: the last time can't be followed by one more; that is told behind a dead device, and nothing is written.
func TestOpenBehindTheLastTime(t *testing.T) {
	d := sector.New(5)
	putCell(t, d, stateOf(t, 1, api.MaxNumber-1, 0))
	put(t, d, 3, right(t, 1, api.MaxNumber-1, "r"))
	l := finds(t, "the last", d, 1, api.MaxNumber, "r")
	appends(t, l, "s")
	holds(t, "of the last time", d, 4, right(t, 2, api.MaxNumber, "s"))
	d.Fuse(1)
	if l, e := Open(d, 2, 3, 0, 1); l != nil || e != api.ErrEpoch {
		t.Errorf("Open: %v, %d", l, e)
	}
	want(t, "the act that is left", d.Barrier(), api.OK)
	hasCell(t, "as it was", d, stateOf(t, 1, api.MaxNumber, 0))
	want(t, "behind it", d.Barrier(), api.ErrDown)
	if l, e := Open(d, 2, 3, 0, 1); l != nil || e != api.ErrDown {
		t.Errorf("Open: %v, %d", l, e)
	}
}

// P6.1: what the cell tells as its error.
func TestOpenOfAFullCell(t *testing.T) {
	for _, c := range []struct {
		time int64
		e    api.Errno
	}{{5, api.ErrSeq}, {api.MaxNumber, api.ErrEpoch}} {
		d := sector.New(5)
		put(t, d, 0, cell.Slot(api.MaxNumber, stateOf(t, 1, c.time, 0)))
		if l, e := Open(d, 2, 3, 0, 1); l != nil || e != c.e {
			t.Errorf("Open: %v, %d, not %d", l, e, c.e)
		}
		hasCell(t, "as it was", d, stateOf(t, 1, c.time, 0))
	}
}

// P6.1: to open is two acts, the cell's; where the device dies on them there is no log, and the time may be one more or not.
func TestActsOfOpen(t *testing.T) {
	for _, c := range []struct {
		fuse int
		keep []sector.Keep
		time int64
	}{
		{0, nil, 2}, {0, []sector.Keep{{How: 1}}, 2},
		{1, nil, 2}, {1, []sector.Keep{{How: 2, N: 9}}, 2}, {1, []sector.Keep{{How: 1}}, 3},
	} {
		d := sector.New(5)
		appends(t, opened(t, d), "a b")
		want(t, "Barrier", d.Barrier(), api.OK)
		d.Fuse(c.fuse)
		if l, e := Open(d, 2, 3, 0, 1); l != nil || e != api.ErrDown {
			t.Errorf("Open: %v, %d", l, e)
		}
		d.Crash(c.keep)
		finds(t, fmt.Sprint(c), d, 1, c.time, "a b")
	}
	d := sector.New(5)
	appends(t, opened(t, d), "a b")
	d.Fuse(2)
	finds(t, "two acts", d, 1, 2, "a b")
	want(t, "a third act", d.Barrier(), api.ErrDown)
	d.Crash(nil)
	finds(t, "sure by Open", d, 1, 3, "a b")
}

// P6.1: the cell's text as it may be, at its edges; the time is one more then, and the rest as it was.
func TestStates(t *testing.T) {
	for _, x := range [][3]int64{
		{1, 0, 0}, {1, 1, 0}, {1, 0, 7}, {2, 5, 5}, {77, 300, 20}, {1, 3, api.MaxNumber},
		{api.MaxNumber, 0, 0}, {api.MaxNumber, api.MaxNumber - 1, api.MaxNumber},
	} {
		d := sector.New(5)
		text := stateOf(t, x[0], x[1], x[2])
		putCell(t, d, text)
		finds(t, fmt.Sprint(x), d, x[0], x[1]+1, "")
		hasCell(t, fmt.Sprint(x), d, stateOf(t, x[0], x[1]+1, x[2]))
	}
}

// P6.1: texts that aren't such stand for head 1, time 0, and least time 0.
func TestTextsOfNoState(t *testing.T) {
	whole := stateOf(t, 4, 9, 3)
	texts := []string{"", "text", whole[:len(whole)-1], whole + "\x00", "\x03\x03\x82\x00\x02\x02", strings.Repeat("\xff", api.MaxCell)}
	for _, r := range []api.Rec{
		{}, {Kind: 3},
		{Kind: 2, Nums: []int64{4, 9, 3}}, {Kind: 4, Nums: []int64{4, 9, 3}}, {Kind: 0, Nums: []int64{4, 9, 3}},
		{Kind: 3, Nums: []int64{4, 9}}, {Kind: 3, Nums: []int64{4, 9, 3, 0}}, {Kind: 3, Nums: make([]int64, 16)},
		{Kind: 3, Nums: []int64{4, 9, 3}, Texts: []string{""}}, {Kind: 3, Nums: []int64{4, 9, 3}, Texts: []string{"a"}},
		{Kind: 3, Nums: []int64{0, 9, 3}}, {Kind: 3, Nums: []int64{-1, 9, 3}}, {Kind: 3, Nums: []int64{api.MaxNumber + 1, 9, 3}},
		{Kind: 3, Nums: []int64{4, -1, 3}}, {Kind: 3, Nums: []int64{4, api.MaxNumber + 1, 3}},
		{Kind: 3, Nums: []int64{4, 9, -1}}, {Kind: 3, Nums: []int64{4, 9, api.MaxNumber + 1}},
		{Kind: 3, Nums: []int64{math.MinInt64, 9, 3}}, {Kind: 3, Nums: []int64{4, math.MaxInt64, 3}}, {Kind: 3, Nums: []int64{4, 9, math.MinInt64}},
	} {
		texts = append(texts, string(encoded(t, r)))
	}
	for _, s := range texts {
		d := sector.New(5)
		putCell(t, d, s)
		put(t, d, 3, right(t, 1, 0, "first"))
		put(t, d, 4, right(t, 2, 1, "above"))
		finds(t, fmt.Sprintf("%q", s), d, 1, 1, "first")
		hasCell(t, fmt.Sprintf("%q", s), d, stateOf(t, 1, 1, 0))
	}
}

// P6.1: which times the records may have: not below the one ahead, the first one's not below the least, none above the cell's.
func TestTimes(t *testing.T) {
	for _, c := range []struct {
		time, least int64
		times       [4]int64
		n           int
	}{
		{5, 0, [4]int64{0, 0, 0, 0}, 4},
		{5, 0, [4]int64{0, 1, 2, 3}, 4},
		{5, 0, [4]int64{5, 5, 5, 5}, 4},
		{5, 0, [4]int64{0, 5, 5, 5}, 4},
		{5, 0, [4]int64{6, 5, 5, 5}, 0},
		{5, 0, [4]int64{5, 6, 6, 6}, 1},
		{5, 0, [4]int64{1, 2, 3, 6}, 3},
		{5, 0, [4]int64{2, 1, 2, 3}, 1},
		{5, 0, [4]int64{2, 3, 2, 3}, 2},
		{5, 0, [4]int64{2, 2, 5, 4}, 3},
		{5, 0, [4]int64{-1, 1, 1, 1}, 0},
		{5, 0, [4]int64{math.MaxInt64, 1, 1, 1}, 0},
		{5, 3, [4]int64{2, 5, 5, 5}, 0},
		{5, 3, [4]int64{3, 3, 4, 5}, 4},
		{5, 3, [4]int64{4, 3, 4, 5}, 1},
		{5, 3, [4]int64{3, 4, 3, 5}, 2},
		{5, 5, [4]int64{5, 5, 5, 5}, 4},
		{5, 6, [4]int64{5, 5, 5, 5}, 0},
		{5, 6, [4]int64{6, 6, 6, 6}, 0},
		{0, 0, [4]int64{0, 0, 1, 0}, 2},
		{api.MaxNumber - 1, 0, [4]int64{1, api.MaxNumber - 1, api.MaxNumber, api.MaxNumber}, 2},
	} {
		for _, head := range []int64{1, 2, 3, 4, 1001} {
			d := sector.New(6)
			putCell(t, d, stateOf(t, head, c.time, c.least))
			words := strings.Fields("a b c d")
			for i, s := range words {
				k := head + int64(i)
				put(t, d, 2+int(k%4), right(t, k, c.times[i], s))
			}
			finds(t, fmt.Sprint(c, head), d, head, c.time+1, strings.Join(words[:c.n], " "))
		}
	}
}

// wantNone checks that bytes are no right sector of record 2, behind which there is nothing then.
func wantNone(t *testing.T, what string, b []byte) {
	t.Helper()
	d := sector.New(6)
	putCell(t, d, stateOf(t, 1, 9, 0))
	put(t, d, 3, right(t, 1, 7, "first"))
	put(t, d, 4, b)
	put(t, d, 5, right(t, 3, 7, "third"))
	finds(t, what, d, 1, 10, "first")
	put(t, d, 4, right(t, 2, 7, "second"))
	finds(t, what, d, 1, 11, "first second third")
}

// P6.1: of the records with a right sum just those are the log's that have what they need.
func TestRecordsOfNoLog(t *testing.T) {
	for _, r := range []api.Rec{
		{},
		{Kind: 2},
		{Kind: 0, Nums: []int64{2, 7}, Texts: []string{"a"}},
		{Kind: 1, Nums: []int64{2, 7}, Texts: []string{"a"}},
		{Kind: 3, Nums: []int64{2, 7}, Texts: []string{"a"}},
		{Kind: 255, Nums: []int64{2, 7}, Texts: []string{"a"}},
		{Kind: 2, Texts: []string{"a"}},
		{Kind: 2, Nums: []int64{2}, Texts: []string{"a"}},
		{Kind: 2, Nums: []int64{2, 7, 7}, Texts: []string{"a"}},
		{Kind: 2, Nums: append([]int64{2, 7}, make([]int64, 14)...), Texts: []string{"a"}},
		{Kind: 2, Nums: []int64{2, 7}},
		{Kind: 2, Nums: []int64{2, 7}, Texts: []string{"a", "b"}},
		{Kind: 2, Nums: []int64{2, 7}, Texts: []string{"", "", "", ""}},
		{Kind: 2, Nums: []int64{2, 7}, Texts: []string{most + "x"}},
		{Kind: 2, Nums: []int64{2, 7}, Texts: []string{most + "xy"}},
		{Kind: 2, Nums: []int64{2, 7}, Texts: []string{strings.Repeat("x", 134)}}, // as many bytes as a sector has
		{Kind: 2, Nums: []int64{7, 2}, Texts: []string{"a"}},
		{Kind: 2, Nums: []int64{1, 7}, Texts: []string{"a"}},
		{Kind: 2, Nums: []int64{3, 7}, Texts: []string{"a"}},
		{Kind: 2, Nums: []int64{6, 7}, Texts: []string{"a"}}, // another round's
		{Kind: 2, Nums: []int64{-2, 7}, Texts: []string{"a"}},
		{Kind: 2, Nums: []int64{0, 7}, Texts: []string{"a"}},
		{Kind: 2, Nums: []int64{math.MinInt64, 7}, Texts: []string{"a"}},
		{Kind: 2, Nums: []int64{math.MaxInt64, 7}, Texts: []string{"a"}},
	} {
		wantNone(t, fmt.Sprint(r), sectorOf(t, r))
	}
	wantNone(t, "nothing", nil)
	wantNone(t, "a slot", cell.Slot(2, "a"))
	wantNone(t, "all bits one", bytes.Repeat([]byte{255}, api.SectorSize))
}

// P6.1: n tells just the record's bytes, and no more than the sector has.
func TestLengthsOfNoRecord(t *testing.T) {
	r := encoded(t, api.Rec{Kind: 2, Nums: []int64{2, 7}, Texts: []string{"text"}})
	all := append(bytes.Clone(r), make([]byte, 255)...)
	for n := range 256 {
		if n != len(r) {
			b := summed(n, all[:n])
			wantNone(t, fmt.Sprint(n), b[:min(len(b), api.SectorSize)])
		}
	}
	for n := 140; n < 256; n++ { // the sum of what there is
		wantNone(t, fmt.Sprint(n), summed(n, all[:139]))
	}
	wantNone(t, "no bytes", summed(0, nil))
	wantNone(t, "bytes of no record", summed(6, []byte{2, 18, 4, 14, 2, 'a'}))
	wantNone(t, "a number of more bytes than needed", summed(7, []byte{2, 18, 0x84, 0, 14, 1, 'a'}))
}

// P6.1: a sector of which one bit is another one isn't right; what stands behind it is no matter.
func TestOneBit(t *testing.T) {
	for _, s := range []string{"", "text", most} {
		b := right(t, 2, 7, s)
		for i := range 8 * len(b) {
			other := bytes.Clone(b)
			other[i/8] ^= 1 << (i % 8)
			wantNone(t, fmt.Sprintf("%d bytes, bit %d", len(s), i), other)
		}
		for i := len(b); i < api.SectorSize; i++ {
			d := sector.New(6)
			putCell(t, d, stateOf(t, 2, 9, 0))
			behind := append(bytes.Clone(b), make([]byte, api.SectorSize-len(b))...)
			behind[i] = 255
			put(t, d, 4, behind)
			if l := opened(t, d); !slices.Equal(l.Records(), []string{s}) {
				t.Errorf("behind, at %d: %q, not %q", i, l.Records(), s)
			}
		}
	}
}

// P6.1: a sum of other bytes, or turned about, is none.
func TestWrongSums(t *testing.T) {
	rest := right(t, 2, 7, "a")[4:]
	for what, sum := range map[string][]byte{
		"the lowest first": binary.LittleEndian.AppendUint32(nil, crc32.Checksum(rest, castagnoli)),
		"without n":        binary.BigEndian.AppendUint32(nil, crc32.Checksum(rest[1:], castagnoli)),
		"of one byte more": binary.BigEndian.AppendUint32(nil, crc32.Checksum(append(bytes.Clone(rest), 0), castagnoli)),
		"another sum":      binary.BigEndian.AppendUint32(nil, crc32.ChecksumIEEE(rest)),
		"0":                make([]byte, 4),
	} {
		wantNone(t, what, slices.Concat(sum, rest))
	}
}

// P6.1: what stands behind a gap isn't the log's, also where the ring goes round.
func TestGaps(t *testing.T) {
	for _, head := range []int64{1, 2, 3, 4, 5, 998} {
		for gap := range int64(5) {
			d := sector.New(7)
			putCell(t, d, stateOf(t, head, 3, 0))
			words := strings.Fields("a b c d e")
			for i, s := range words {
				if k := head + int64(i); int64(i) != gap {
					put(t, d, 2+int(k%5), right(t, k, 3, s))
				}
			}
			l := finds(t, fmt.Sprint(head, gap), d, head, 4, strings.Join(words[:gap], " "))
			appends(t, l, "new")
			finds(t, fmt.Sprint(head, gap), d, head, 5, strings.Join(append(words[:gap:gap], "new"), " "))
		}
	}
}

// P6.2: the bytes of a record's sector, some of them written out.
func TestAppendedBytes(t *testing.T) {
	d := sector.New(5)
	l := opened(t, d)
	appends(t, l, "a")
	want(t, "empty", l.Append(""), api.OK)
	holds(t, "a", d, 3, summed(6, []byte{2, 18, 2, 2, 1, 'a'}))
	holds(t, "empty", d, 4, summed(5, []byte{2, 18, 4, 2, 0}))
	holds(t, "place 0", d, 2, nil)
	for i, b := range []string{"\x9a\x53\x11\xfe\x06\x02\x12\x02\x02\x01a", "\x95\x55\xf9\xf4\x05\x02\x12\x04\x02\x00"} {
		if got, _ := d.Read(3 + i); !strings.HasPrefix(string(got), b) {
			t.Errorf("%q, not %q", got[:len(b)], b)
		}
	}
	hasCell(t, "its text", d, "\x03\x03\x02\x02\x00")
}

// P6.2: any payload of each length there may be, and none above.
func TestAppendOfEachLength(t *testing.T) {
	r := rand.New(rand.NewSource(1))
	d := sector.New(6)
	l := opened(t, d)
	var last string
	for n := range api.MaxEntry + 1 {
		if n > 0 {
			want(t, "Trim", l.Trim(l.Tail()-1), api.OK)
		}
		s := someText(r, n)
		k := l.Tail()
		want(t, fmt.Sprint(n), l.Append(s), api.OK)
		holds(t, fmt.Sprint(n), d, 2+int(k%4), right(t, k, l.Time(), s))
		if n%10 == 1 {
			want(t, "Sync", l.Sync(), api.OK)
			d.Crash(nil)
			l = opened(t, d)
		}
		if got := l.Records(); got[len(got)-1] != s || n > 0 && got[0] != last {
			t.Errorf("%d: %q, not %q", n, got, s)
		}
		last = s
	}
	for _, n := range []int{api.MaxEntry + 1, api.MaxEntry + 2, api.MaxText, api.MaxText + 1, 256, 256 + 3, 100000} {
		want(t, fmt.Sprint(n), l.Append(strings.Repeat("s", n)), api.ErrSize)
	}
}

// P6.2: the longest record there is has room in a sector.
func TestLongestRecord(t *testing.T) {
	d := sector.New(5)
	putCell(t, d, stateOf(t, api.MaxNumber-1, api.MaxNumber-1, 0))
	l := opened(t, d)
	want(t, "Append", l.Append(most), api.OK)
	k := int64(api.MaxNumber - 1)
	holds(t, "the longest", d, 2+int(k%3), right(t, k, api.MaxNumber, most))
	says(t, "the longest", l, 3, k, api.MaxNumber, most)
}

// P6.2: an Append is one act, a write that isn't sure yet.
func TestActsOfAppend(t *testing.T) {
	d := sector.New(6)
	l := opened(t, d)
	d.Fuse(3)
	appends(t, l, "a b c")
	if p := d.Pending(); !slices.Equal(p, []int{3, 4, 5}) {
		t.Errorf("pending %v", p)
	}
	want(t, "a fourth act", l.Append("d"), api.ErrDown)
	says(t, "a fourth act", l, 4, 1, 1, "a b c")
	want(t, "dead", l.Append("d"), api.ErrDown)
	d.Crash(nil)
	finds(t, "nothing is kept", d, 1, 2, "")
}

// P6.2: no error of Append does an act, or changes anything, and of several the first one is told.
func TestErrorsOfAppend(t *testing.T) {
	d := sector.New(4)
	l := opened(t, d)
	appends(t, l, "a b")
	d.Fuse(1)
	for range 3 {
		want(t, "full", l.Append("c"), api.ErrFull)
		want(t, "full, too long", l.Append(most+"x"), api.ErrSize)
	}
	says(t, "full", l, 2, 1, 1, "a b")
	want(t, "the act that is left", d.Barrier(), api.OK)
	want(t, "behind it", d.Barrier(), api.ErrDown)
	want(t, "dead, full", l.Append("c"), api.ErrFull)
	want(t, "dead, full, too long", l.Append(most+"x"), api.ErrSize)
}

// P6.2: the last number there is can't be appended; that is told behind a full log, ahead of a dead device.
func TestTheLastNumber(t *testing.T) {
	d := sector.New(4)
	putCell(t, d, stateOf(t, api.MaxNumber-2, 5, 0))
	l := finds(t, "almost", d, api.MaxNumber-2, 6, "")
	appends(t, l, "a b")
	want(t, "full", l.Append("c"), api.ErrFull)
	want(t, "Trim", l.Trim(api.MaxNumber-1), api.OK)
	want(t, "the last", l.Append("c"), api.ErrSeq)
	want(t, "too long", l.Append(most+"x"), api.ErrSize)
	says(t, "the last", l, 2, api.MaxNumber-1, 6, "b")
	want(t, "above", l.Trim(api.MaxNumber+1), api.ErrArg)
	want(t, "all", l.Trim(api.MaxNumber), api.OK)
	l = finds(t, "all", d, api.MaxNumber, 7, "")
	want(t, "the last", l.Append(""), api.ErrSeq)
	if p := d.Pending(); len(p) != 0 {
		t.Errorf("pending %v", p)
	}
	d.Fuse(0)
	want(t, "Sync", l.Sync(), api.ErrDown)
	want(t, "dead", l.Append(""), api.ErrSeq)
}

// P6.2: Sync is one act, that makes sure what was appended.
func TestSync(t *testing.T) {
	d := sector.New(5)
	l := opened(t, d)
	appends(t, l, "a b")
	d.Fuse(2)
	want(t, "Sync", l.Sync(), api.OK)
	if p := d.Pending(); len(p) != 0 {
		t.Errorf("pending %v", p)
	}
	appends(t, l, "c")
	want(t, "a third act", l.Sync(), api.ErrDown)
	want(t, "dead", l.Sync(), api.ErrDown)
	says(t, "dead", l, 3, 1, 1, "a b c")
	d.Crash(nil)
	finds(t, "what was sure", d, 1, 2, "a b")
}

// P6.2: Trim goes from the head to the tail, and no further; of what may not be nothing is done.
func TestTrim(t *testing.T) {
	for k := int64(1); k <= 4; k++ {
		d := sector.New(6)
		l := opened(t, d)
		appends(t, l, "a b c")
		d.Fuse(1)
		for _, wrong := range []int64{0, -1, 5, 6, math.MinInt64, math.MaxInt64, api.MaxNumber} {
			want(t, fmt.Sprint(wrong), l.Trim(wrong), api.ErrArg)
		}
		d.Fuse(-1)
		if p := d.Pending(); !slices.Equal(p, []int{3, 4, 5}) {
			t.Errorf("pending %v", p)
		}
		want(t, fmt.Sprint(k), l.Trim(k), api.OK)
		left := strings.Join(strings.Fields("a b c")[k-1:], " ")
		says(t, fmt.Sprint(k), l, 4, k, 1, left)
		want(t, "below the head", l.Trim(k-1), api.ErrArg)
		want(t, "above the tail", l.Trim(5), api.ErrArg)
		appends(t, l, "d")
		d.Crash(nil)
		finds(t, fmt.Sprint(k), d, k, 2, left)
	}
}

// P6.2: what Trim puts: the head, and the time of the record ahead of it; at the head itself what was there, again.
func TestWhatTrimPuts(t *testing.T) {
	d := sector.New(8)
	putCell(t, d, stateOf(t, 5, 8, 2))
	for i, time := range []int64{3, 3, 4, 8} {
		k := 5 + int64(i)
		put(t, d, 2+int(k%6), right(t, k, time, fmt.Sprint("r", k)))
	}
	l := finds(t, "new", d, 5, 9, "r5 r6 r7 r8")
	appends(t, l, "r9 r10")
	for _, c := range []struct{ k, least int64 }{{5, 2}, {5, 2}, {6, 3}, {6, 3}, {8, 4}, {9, 8}, {9, 8}, {10, 9}, {11, 9}, {11, 9}} {
		k, _ := cell.Open(d, 0, 1)
		gen := k.Gen()
		want(t, fmt.Sprint(c.k), l.Trim(c.k), api.OK)
		hasCell(t, fmt.Sprint(c.k), d, stateOf(t, c.k, 9, c.least))
		if k, _ := cell.Open(d, 0, 1); k.Gen() != gen+1 {
			t.Errorf("Trim(%d): generation %d behind %d", c.k, k.Gen(), gen)
		}
		if l.Head() != c.k || l.Tail() != 11 {
			t.Errorf("Trim(%d): %d, %d", c.k, l.Head(), l.Tail())
		}
	}
	finds(t, "none is left", d, 11, 10, "")
	hasCell(t, "opened", d, stateOf(t, 11, 10, 9))
}

// P6.2: a Trim is three acts: where the device dies on one of them all is as it was, but for what a crash keeps.
func TestActsOfTrim(t *testing.T) {
	for _, c := range []struct {
		fuse  int
		keep  []sector.Keep
		head  int64
		found string
	}{
		{0, nil, 1, "a"},
		{0, []sector.Keep{{How: 1}}, 1, "a b"},
		{0, []sector.Keep{{}, {How: 1}}, 1, "a"},
		{0, []sector.Keep{{How: 1}, {How: 1}}, 1, "a b c"},
		{1, nil, 1, "a b c"},
		{2, nil, 1, "a b c"},
		{2, []sector.Keep{{How: 2, N: 8}}, 1, "a b c"},
		{2, []sector.Keep{{How: 1}}, 3, "c"},
		{3, nil, 3, "c"},
	} {
		d := sector.New(6)
		l := opened(t, d)
		appends(t, l, "a")
		want(t, "Sync", l.Sync(), api.OK)
		appends(t, l, "b c")
		d.Fuse(c.fuse)
		if c.fuse == 3 {
			want(t, "Trim", l.Trim(3), api.OK)
			says(t, "Trim", l, 4, 3, 1, "c")
			want(t, "a fourth act", l.Sync(), api.ErrDown)
		} else {
			want(t, "Trim", l.Trim(3), api.ErrDown)
			says(t, "Trim", l, 4, 1, 1, "a b c")
			want(t, "dead", l.Trim(1), api.ErrDown)
		}
		want(t, "wrong", l.Trim(9), api.ErrArg)
		d.Crash(c.keep)
		finds(t, fmt.Sprint(c), d, c.head, 2, c.found)
	}
}

// P6.2: the cell's error is Trim's, the records being sure all the same; Sync's error is told ahead of it.
func TestTrimOfAFullCell(t *testing.T) {
	d := sector.New(5)
	put(t, d, 0, cell.Slot(api.MaxNumber-1, stateOf(t, 1, 5, 0)))
	l := finds(t, "almost", d, 1, 6, "")
	appends(t, l, "a b")
	want(t, "Trim", l.Trim(2), api.ErrSeq)
	want(t, "Trim", l.Trim(1), api.ErrSeq)
	want(t, "wrong", l.Trim(4), api.ErrArg)
	says(t, "Trim", l, 3, 1, 6, "a b")
	if p := d.Pending(); len(p) != 0 {
		t.Errorf("pending %v", p)
	}
	d.Fuse(0)
	want(t, "dying", l.Trim(2), api.ErrDown)
	want(t, "dead", l.Trim(2), api.ErrDown)
	says(t, "dead", l, 3, 1, 6, "a b")
}

// P6.2: the ring goes round and round, and each record lies in its place.
func TestRounds(t *testing.T) {
	for n := 2; n < 8; n++ {
		d := sector.New(n + 2)
		l := opened(t, d)
		var all []string
		head, time := int64(1), int64(1)
		for i := range 100 {
			if l.Free() == 0 {
				want(t, "full", l.Append("x"), api.ErrFull)
				head += int64(1 + i%n)
				want(t, "Trim", l.Trim(head), api.OK)
			}
			if i%9 == 0 {
				want(t, "Sync", l.Sync(), api.OK)
				d.Crash(nil)
				l = opened(t, d)
				time++
			}
			s := fmt.Sprint("r", i+1)
			appends(t, l, s)
			holds(t, s, d, 2+(i+1)%n, right(t, int64(i+1), time, s))
			all = append(all, s)
			says(t, s, l, n, head, time, strings.Join(all[head-1:], " "))
		}
	}
}

// P6.3: what a crash has left behind a lost one doesn't come back, when others are appended in the place of that.
func TestLeftBehindALostOne(t *testing.T) {
	d := sector.New(7)
	appends(t, opened(t, d), "a b c d")
	d.Crash([]sector.Keep{{How: 1}, {}, {How: 1}, {How: 1}}) // of the sectors 3, 4, 5, 6
	l := finds(t, "a is left", d, 1, 2, "a")
	appends(t, l, "x")
	want(t, "Sync", l.Sync(), api.OK)
	d.Crash(nil)
	l = finds(t, "not c", d, 1, 3, "a x")
	appends(t, l, "y z")
	d.Crash([]sector.Keep{{How: 1}})
	finds(t, "not d", d, 1, 4, "a x y")
}

// P6.3: nor when the head comes to stand behind one that was appended since.
func TestLeftBehindATrim(t *testing.T) {
	d := sector.New(7)
	appends(t, opened(t, d), "a b c")
	d.Crash([]sector.Keep{{}, {How: 1}, {How: 1}})
	l := finds(t, "none is left", d, 1, 2, "")
	appends(t, l, "x")
	want(t, "Trim", l.Trim(2), api.OK)
	l = finds(t, "not b", d, 2, 3, "")
	appends(t, l, "y")
	want(t, "Trim", l.Trim(2), api.OK) // at the head: the least time stays
	d.Crash(nil)
	l = finds(t, "not c", d, 2, 4, "y")
	want(t, "Trim", l.Trim(3), api.OK)
	l = finds(t, "not c", d, 3, 5, "")
	want(t, "Trim", l.Trim(3), api.OK)
	finds(t, "not c", d, 3, 6, "")
}

// P6.3: nor what was there a round ago.
func TestLeftOfARound(t *testing.T) {
	d := sector.New(5)
	l := opened(t, d)
	appends(t, l, "a b c")
	want(t, "Trim", l.Trim(4), api.OK)
	l = finds(t, "none", d, 4, 2, "")
	appends(t, l, "d e f")
	d.Crash([]sector.Keep{{How: 1}, {}, {How: 1}}) // of the sectors 2, 3, 4: f, d, e
	finds(t, "d is lost", d, 4, 3, "")
}

// P6.3: at each place where a sector may be torn, the log has the record whole, or has none of it.
func TestTornAnywhere(t *testing.T) {
	for _, s := range []string{"s", most} {
		size := len(right(t, 3, 1, s))
		for n := range api.SectorSize + 1 {
			d := sector.New(5)
			l := opened(t, d)
			appends(t, l, "a b")
			want(t, "Trim", l.Trim(2), api.OK)
			appends(t, l, s)
			d.Crash([]sector.Keep{{How: 2, N: n}})
			if n < size { // neither payload ends in a 0
				finds(t, fmt.Sprint(n), d, 2, 2, "b")
			} else {
				finds(t, fmt.Sprint(n), d, 2, 2, "b "+s)
			}
		}
	}
}

// R3: what is handed out is the caller's.
func TestRecordsAreNew(t *testing.T) {
	d := sector.New(6)
	l := opened(t, d)
	if len(l.Records()) != 0 {
		t.Errorf("%q", l.Records())
	}
	appends(t, l, "a b c")
	got := l.Records()
	clear(got)
	_ = append(got[:0], "x", "y", "z")
	says(t, "changed", l, 4, 1, 1, "a b c")
	got = l.Records()
	want(t, "Trim", l.Trim(2), api.OK)
	appends(t, l, "d e")
	if !slices.Equal(got, []string{"a", "b", "c"}) {
		t.Errorf("what was handed out is %q now", got)
	}
}

// R5: logs know nothing of each other but by the device.
func TestManyLogs(t *testing.T) {
	d, other := sector.New(10), sector.New(10)
	a, b, c := openedAt(t, d, 4, 3, 0, 1), openedAt(t, d, 7, 3, 2, 3), openedAt(t, other, 4, 3, 0, 1)
	appends(t, a, "a1 a2")
	appends(t, b, "b1")
	want(t, "Trim", a.Trim(2), api.OK)
	appends(t, a, "a3")
	appends(t, c, "c1")
	says(t, "a", a, 3, 2, 1, "a2 a3")
	says(t, "b", b, 3, 1, 1, "b1")
	d.Lose()
	says(t, "c", c, 3, 1, 1, "c1")
	says(t, "a is lost", openedAt(t, d, 4, 3, 0, 1), 3, 1, 1, "")
	says(t, "c again", openedAt(t, other, 4, 3, 0, 1), 3, 1, 2, "c1")
}

// someText tells a text of n bytes.
func someText(r *rand.Rand, n int) string {
	b := make([]byte, n)
	r.Read(b)
	return string(b)
}

// toldState tells what a cell's text tells, in another way: of what it could be of, it must be just that.
func toldState(t testing.TB, s string) (head, time, least int64) {
	r, _ := code.Decode([]byte(s))
	if len(r.Nums) == 3 && r.Nums[0] > 0 && min(r.Nums[1], r.Nums[2]) >= 0 && slices.Max(r.Nums) <= api.MaxNumber && s == stateOf(t, r.Nums[0], r.Nums[1], r.Nums[2]) {
		return r.Nums[0], r.Nums[1], r.Nums[2]
	}
	return 1, 0, 0
}

// toldRecord tells a sector's record likewise; of the number 0, if there is none.
func toldRecord(t testing.TB, b []byte) (k, time int64, payload string) {
	r, _ := code.Decode(b[5:min(5+int(b[4]), len(b))])
	if len(r.Nums) != 2 || len(r.Texts) != 1 || len(r.Texts[0]) > api.MaxEntry || !bytes.HasPrefix(b, right(t, r.Nums[0], r.Nums[1], r.Texts[0])) {
		return 0, 0, ""
	}
	return r.Nums[0], r.Nums[1], r.Texts[0]
}

// told tells what a log is to have that is opened now, where its ring is behind the cell's two sectors.
func told(t testing.TB, d *sector.Dev) (head, time int64, records []string) {
	t.Helper()
	c, e := cell.Open(d, 0, 1)
	if e != api.OK {
		t.Fatalf("cell.Open: %d", e)
	}
	head, time, least := toldState(t, c.Get())
	n := d.Sectors() - 2
	for i := range n {
		k := head + int64(i)
		b, _ := d.Read(2 + int(k%int64(n)))
		if number, at, s := toldRecord(t, b); number == k && at >= least && at <= time {
			least, records = at, append(records, s)
			continue
		}
		break
	}
	return head, time, records
}

// wantTold opens a log, and checks it against what it is to have.
func wantTold(t *testing.T, d *sector.Dev) {
	t.Helper()
	head, time, records := told(t, d)
	l, e := Open(d, 2, d.Sectors()-2, 0, 1)
	if time == api.MaxNumber {
		want(t, "Open", e, api.ErrEpoch)
		return
	}
	want(t, "Open", e, api.OK)
	if l.Head() != head || l.Time() != time+1 || !slices.Equal(l.Records(), records) || l.Tail() != head+int64(len(records)) {
		t.Errorf("%d, %d, %q, not %d, %d, %q", l.Head(), l.Time(), l.Records(), head, time+1, records)
	}
}

// P6.1: rings of records, and of what is almost one, against another way of telling.
func TestAgainstTold(t *testing.T) {
	r := rand.New(rand.NewSource(2))
	for range 20000 {
		d := sector.New(4 + r.Intn(4))
		n := int64(d.Sectors() - 2)
		head := 1 + r.Int63n(9)
		putCell(t, d, stateOf(t, head, 3+r.Int63n(3), r.Int63n(3)))
		time := r.Int63n(3)
		for i := range n {
			k := head + i
			b := right(t, k, time, someText(r, r.Intn(4)))
			time += r.Int63n(3) / 2
			switch r.Intn(16) {
			case 0:
				b[r.Intn(len(b))] ^= byte(1 << r.Intn(8))
			case 1:
				b[5+r.Intn(len(b)-5)] ^= byte(1 << r.Intn(8))
				b = summed(len(b)-5, b[5:])
			case 2:
				b = append(b, someText(r, r.Intn(20))...)
			case 3:
				b = right(t, k+r.Int63n(3)-1, r.Int63n(7), "other")
			}
			put(t, d, 2+int(k%n), b)
		}
		wantTold(t, d)
	}
}

// run is a log under way, and what is known of it.
type run struct {
	t    *testing.T
	r    *rand.Rand
	d    *sector.Dev
	l    *Log
	all  []string // each record's payload, by its number less 1, up to the tail
	head int64
	trim int64 // the head that may be there in its place, by a Trim that told an error
	sure int64 // the tail when all was sure last
	made int   // how many payloads there were: no two are alike
}

func (x *run) tail() int64 { return int64(len(x.all)) + 1 }

// step does one call, and checks what it told.
func (x *run) step() {
	switch {
	case x.r.Intn(5) == 0:
		if e := x.l.Sync(); e == api.OK {
			x.sure = x.tail()
		} else {
			want(x.t, "Sync", e, api.ErrDown)
		}
	case x.r.Intn(4) == 0:
		x.doTrim(x.head - 1 + x.r.Int63n(x.tail()-x.head+3))
	default:
		x.doAppend()
	}
	if left := x.all[x.head-1:]; !slices.Equal(x.l.Records(), left) || x.l.Head() != x.head || x.l.Tail() != x.tail() {
		x.t.Fatalf("%q, from %d, not %q, from %d", x.l.Records(), x.l.Head(), left, x.head)
	}
}

func (x *run) doTrim(k int64) {
	e := x.l.Trim(k)
	switch {
	case k < x.head || k > x.tail():
		want(x.t, "Trim", e, api.ErrArg)
	case e == api.OK:
		x.head, x.trim, x.sure = k, k, x.tail()
	default:
		want(x.t, "Trim", e, api.ErrDown)
		if x.trim == x.head { // a later one, of a dead device, does nothing
			x.trim = k
		}
	}
}

func (x *run) doAppend() {
	x.made++
	s := fmt.Sprint(x.made, someText(x.r, x.r.Intn(100)))
	e := x.l.Append(s)
	switch {
	case x.tail()-x.head == int64(x.d.Sectors()-2):
		want(x.t, "Append", e, api.ErrFull)
	case e == api.OK:
		x.all = append(x.all, s)
	default:
		want(x.t, "Append", e, api.ErrDown)
	}
}

// crash lets the power go, and checks what is there behind it.
func (x *run) crash() {
	var l []sector.Keep
	for range x.r.Intn(x.d.Sectors() + 1) {
		l = append(l, sector.Keep{How: x.r.Intn(3), N: x.r.Intn(api.SectorSize)})
	}
	x.d.Crash(l)
	if x.r.Intn(3) == 0 {
		x.d.Fuse(x.r.Intn(3))
	}
	head, time, records := told(x.t, x.d)
	log, e := Open(x.d, 2, x.d.Sectors()-2, 0, 1)
	if e != api.OK {
		want(x.t, "Open", e, api.ErrDown)
		x.crash()
		return
	}
	x.l = log
	if log.Head() != head || log.Time() != time+1 || !slices.Equal(log.Records(), records) {
		x.t.Fatalf("%d, %d, %q, not %d, %d, %q", log.Head(), log.Time(), log.Records(), head, time+1, records)
	}
	if head != x.head && head != x.trim {
		x.t.Fatalf("head %d, neither %d nor %d", head, x.head, x.trim)
	}
	tail := log.Tail()
	if tail < x.sure || tail > x.tail() || !slices.Equal(records, x.all[head-1:tail-1]) {
		x.t.Fatalf("%q, from %d, behind %q, from %d, sure up to %d", records, head, x.all[x.head-1:], x.head, x.sure)
	}
	x.head, x.trim, x.sure, x.all = head, head, tail, x.all[:tail-1]
}

// P6.3: long rows of calls, with crashes in between: what was sure is there, with a beginning of what came since, and nothing else.
func TestCrashes(t *testing.T) {
	for seed := range int64(400) {
		r := rand.New(rand.NewSource(seed))
		d := sector.New(4 + r.Intn(6))
		x := &run{t: t, r: r, d: d, l: opened(t, d), head: 1, trim: 1, sure: 1}
		for range 150 {
			if r.Intn(6) == 0 {
				d.Fuse(r.Intn(5))
			}
			x.step()
			if r.Intn(5) == 0 {
				x.crash()
			}
		}
	}
}

func FuzzOpen(f *testing.F) {
	f.Add([]byte(stateOf(f, 1, 2, 0)), right(f, 2, 1, "b"), right(f, 1, 1, "a"))
	f.Add([]byte(stateOf(f, 5, 2, 2)), right(f, 6, 2, ""), right(f, 5, 1, "a"))
	f.Add([]byte(stateOf(f, api.MaxNumber, api.MaxNumber, 0)), []byte("none"), []byte{})
	f.Fuzz(func(t *testing.T, text, a, b []byte) {
		d := sector.New(4)
		putCell(t, d, string(text[:min(len(text), api.MaxCell)]))
		put(t, d, 2, a[:min(len(a), api.SectorSize)])
		put(t, d, 3, b[:min(len(b), api.SectorSize)])
		wantTold(t, d)
	})
}
