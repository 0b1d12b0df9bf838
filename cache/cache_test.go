package cache

import (
	"fmt"
	"math"
	"slices"
	"strings"
	"testing"

	"seisin/api"
	"seisin/cell"
	"seisin/code"
	"seisin/log"
	"seisin/sector"
)

const top = api.MaxNumber

// want checks an error.
func want(t testing.TB, what string, e, w api.Errno) {
	t.Helper()
	if e != w {
		t.Errorf("%s: %d, not %d", what, e, w)
	}
}

// opened opens a cache that must be there: its log's cell in the first two sectors, its ring in the others.
func opened(t testing.TB, d *sector.Dev, blocks int) *Cache {
	t.Helper()
	c, e := Open(d, 2, d.Sectors()-2, 0, 1, blocks)
	if e != api.OK || c == nil {
		t.Fatalf("Open: %v, %d", c, e)
	}
	return c
}

// wantNoOpen checks that there is no cache to be opened.
func wantNoOpen(t testing.TB, what string, d *sector.Dev, blocks int, w api.Errno) {
	t.Helper()
	c, e := Open(d, 2, d.Sectors()-2, 0, 1, blocks)
	if c != nil || e != w {
		t.Errorf("%s: %v, %d, not %d", what, c, e, w)
	}
}

func version(epoch, seq int64) api.Version {
	return api.Version{Epoch: epoch, Seq: seq}
}

// entry tells an entry of nobody's, with data that no other one of the tests has.
func entry(block int, epoch, seq int64, dirty bool) api.Entry {
	data := fmt.Sprintf("%02x%02x%04x", block&255, epoch&255, seq&65535)
	return api.Entry{Block: block, V: version(epoch, seq), Data: data, Dirty: dirty, Client: -1}
}

// by tells an entry of a client's.
func by(e api.Entry, client int, n int64) api.Entry {
	e.Client, e.N = client, n
	return e
}

// puts puts entries that must be taken.
func puts(t testing.TB, c *Cache, l ...api.Entry) {
	t.Helper()
	for _, e := range l {
		want(t, fmt.Sprint("Put ", e), c.Put(e), api.OK)
	}
}

// state is all that a cache tells, as the tests hold it.
type state struct {
	entries [api.MaxBlocks]api.Entry // of no block: Data is empty
	last    api.Version
	table   [api.MaxClients]int64
}

// with tells a state that has these entries besides.
func (s state) with(l ...api.Entry) state {
	for _, e := range l {
		s.entries[e.Block] = e
	}
	return s
}

// all tells the entries, by block.
func (s state) all() []api.Entry {
	var l []api.Entry
	for _, e := range s.entries {
		if e.Data != "" {
			l = append(l, e)
		}
	}
	return l
}

// stateOf asks a cache for its state.
func stateOf(c *Cache) state {
	s := state{last: c.Last()}.with(c.All()...)
	for i := range s.table {
		s.table[i] = c.Number(i)
	}
	return s
}

// says checks a cache of a ring of n by all that it tells.
func says(t testing.TB, what string, c *Cache, n int, s state) {
	t.Helper()
	if got := c.All(); !slices.Equal(got, s.all()) {
		t.Errorf("%s: All %v, not %v", what, got, s.all())
	}
	for i, e := range s.entries {
		if got, ok := c.Get(i); ok != (e.Data != "") || got != e {
			t.Errorf("%s: Get(%d): %v, %v, not %v", what, i, got, ok, e)
		}
	}
	for _, i := range []int{-1, -2, 32, 33, 1 << 32, math.MaxInt, math.MinInt} {
		if got, ok := c.Get(i); ok || got != (api.Entry{}) {
			t.Errorf("%s: Get(%d): %v, %v", what, i, got, ok)
		}
	}
	if c.Last() != s.last || c.Room() != n-6 {
		t.Errorf("%s: Last %v, not %v; Room %d of %d", what, c.Last(), s.last, c.Room(), n)
	}
	for i, w := range s.table {
		if got := c.Number(i); got != w {
			t.Errorf("%s: Number(%d): %d, not %d", what, i, got, w)
		}
	}
	for _, i := range []int{-1, -2, 4, 5, 1 << 32, math.MaxInt, math.MinInt} {
		if got := c.Number(i); got != 0 {
			t.Errorf("%s: Number(%d): %d", what, i, got)
		}
	}
}

// finds opens a cache, and checks what it says.
func finds(t testing.TB, what string, d *sector.Dev, blocks int, s state) *Cache {
	t.Helper()
	c := opened(t, d, blocks)
	says(t, what, c, d.Sectors()-2, s)
	return c
}

// layRec tells the record that lays an entry, with what is kept behind it.
func layRec(e api.Entry, s state) api.Rec {
	dirty := int64(0)
	if e.Dirty {
		dirty = 1
	}
	return rec(10, s, e.Data, int64(e.Block), e.V.Epoch, e.V.Seq, dirty, int64(e.Client), e.N)
}

// rec tells a record of own numbers, with what is kept behind it, and a text, if it isn't empty.
func rec(kind int, s state, text string, nums ...int64) api.Rec {
	nums = append(slices.Clip(nums), s.last.Epoch, s.last.Seq, s.table[0], s.table[1], s.table[2], s.table[3])
	r := api.Rec{Kind: kind, Nums: nums}
	if text != "" {
		r.Texts = []string{text}
	}
	return r
}

// payload tells a record's bytes.
func payload(t testing.TB, r api.Rec) string {
	t.Helper()
	b, e := code.Encode(r)
	if e != api.OK {
		t.Fatalf("Encode(%v): %d", r, e)
	}
	return string(b)
}

// deviceOf tells a device with a ring of n, whose log has these payloads for sure.
func deviceOf(t testing.TB, n int, payloads ...string) *sector.Dev {
	t.Helper()
	d := sector.New(n + 2)
	l, e := log.Open(d, 2, n, 0, 1)
	want(t, "log.Open", e, api.OK)
	for _, s := range payloads {
		want(t, "Append", l.Append(s), api.OK)
	}
	want(t, "Sync", l.Sync(), api.OK)
	return d
}

// device tells likewise a device of records.
func device(t testing.TB, n int, l ...api.Rec) *sector.Dev {
	t.Helper()
	var s []string
	for _, r := range l {
		s = append(s, payload(t, r))
	}
	return deviceOf(t, n, s...)
}

// copied tells a device that has for sure what another one says.
func copied(t testing.TB, d *sector.Dev) *sector.Dev {
	t.Helper()
	other := sector.New(d.Sectors())
	for i := range d.Sectors() {
		b, e := d.Read(i)
		want(t, "Read", e, api.OK)
		want(t, "Write", other.Write(i, b), api.OK)
	}
	want(t, "Barrier", other.Barrier(), api.OK)
	return other
}

// recordsOf tells a device's log's head, and its records, without touching the device.
func recordsOf(t testing.TB, d *sector.Dev) (int64, []api.Rec) {
	t.Helper()
	l, e := log.Open(copied(t, d), 2, d.Sectors()-2, 0, 1)
	if e != api.OK {
		t.Fatalf("log.Open: %d", e)
	}
	var recs []api.Rec
	for _, s := range l.Records() {
		r, e := code.Decode([]byte(s))
		if e != api.OK {
			t.Fatalf("%q: %d", s, e)
		}
		recs = append(recs, r)
	}
	return l.Head(), recs
}

// logs checks which records a device's log has.
func logs(t testing.TB, what string, d *sector.Dev, head int64, l ...api.Rec) {
	t.Helper()
	h, got := recordsOf(t, d)
	if h != head || !slices.EqualFunc(got, l, sameRec) {
		t.Errorf("%s: from %d on\n%v, not from %d on\n%v", what, h, got, head, l)
	}
}

func sameRec(a, b api.Rec) bool {
	return a.Kind == b.Kind && slices.Equal(a.Nums, b.Nums) && slices.Equal(a.Texts, b.Texts)
}

// untouched checks that a device does the act that is left, and then no more.
func untouched(t testing.TB, what string, d *sector.Dev) {
	t.Helper()
	want(t, what+": the act that is left", d.Barrier(), api.OK)
	want(t, what+": behind it", d.Barrier(), api.ErrDown)
}

// TestExample: the chapter's example.
func TestExample(t *testing.T) {
	c := opened(t, sector.New(10), 4)
	want(t, "Put(0)", c.Put(entry(0, 1, 1, true)), api.OK)
	want(t, "Put(1)", c.Put(entry(1, 1, 2, true)), api.OK)
	want(t, "Put(2)", c.Put(entry(2, 1, 3, false)), api.ErrFull)
	want(t, "Clean(0)", c.Clean(0, version(1, 1)), api.OK)
	want(t, "Put(2)", c.Put(entry(2, 1, 3, false)), api.OK)
	if e, ok := c.Get(0); ok || e != (api.Entry{}) {
		t.Errorf("Get(0): %v, %v", e, ok)
	}
	want(t, "Put(1)", c.Put(entry(1, 1, 3, true)), api.ErrArg)
}

// P9.1: so many blocks there can't be, nor so small a ring, whatever else is wrong; the device isn't touched then.
func TestOpenOfWrongNumbers(t *testing.T) {
	dead := sector.New(20)
	dead.Fuse(0)
	want(t, "Barrier", dead.Barrier(), api.ErrDown)
	for _, d := range []*sector.Dev{nil, dead, sector.New(0), sector.New(20), device(t, 18, rec(99, state{}, ""))} {
		for _, x := range [][2]int{
			{8, 0}, {8, -1}, {8, -4}, {8, 33}, {8, 64}, {8, 1<<32 + 4}, {8, math.MaxInt}, {8, math.MinInt},
			{7, 4}, {6, 4}, {2, 4}, {1, 4}, {0, 4}, {-8, 4}, {math.MinInt, 4}, {7, 33},
		} {
			if c, e := Open(d, 2, x[0], 0, 1, x[1]); c != nil || e != api.ErrArg {
				t.Errorf("Open(n %d, blocks %d): %v, %d", x[0], x[1], c, e)
			}
		}
	}
	d := sector.New(20)
	d.Fuse(1)
	Open(d, 2, 18, 0, 1, 0)
	Open(d, 2, 7, 0, 1, 4)
	untouched(t, "no cache", d)
}

// P9.1: what can be no log is no cache.
func TestOpenOfNoLog(t *testing.T) {
	alive, dead, last, full := sector.New(12), sector.New(12), sector.New(12), sector.New(12)
	dead.Fuse(0)
	want(t, "Barrier", dead.Barrier(), api.ErrDown)
	state := payload(t, api.Rec{Kind: 3, Nums: []int64{1, top, 0}})
	want(t, "Write", last.Write(0, cell.Slot(1, state)), api.OK)
	want(t, "Write", full.Write(0, cell.Slot(top, "")), api.OK)
	for _, x := range []struct {
		what           string
		d              *sector.Dev
		first, n, a, b int
		e              api.Errno
	}{
		{"no device", nil, 2, 8, 0, 1, api.ErrArg},
		{"behind the end", alive, 5, 8, 0, 1, api.ErrArg},
		{"ahead", alive, -1, 8, 10, 11, api.ErrArg},
		{"too long", alive, 2, math.MaxInt, 0, 1, api.ErrArg},
		{"cell in the ring", alive, 2, 8, 0, 9, api.ErrArg},
		{"cell in the ring", alive, 2, 8, 2, 0, api.ErrArg},
		{"cell of one", alive, 2, 8, 1, 1, api.ErrArg},
		{"no sector", alive, 2, 8, 0, 12, api.ErrArg},
		{"arguments ahead of power", dead, 2, 8, 0, 9, api.ErrArg},
		{"dead", dead, 2, 8, 0, 1, api.ErrDown},
		{"the last time", last, 2, 8, 0, 1, api.ErrEpoch},
		{"the last generation", full, 2, 8, 0, 1, api.ErrSeq},
	} {
		if c, e := Open(x.d, x.first, x.n, x.a, x.b, 4); c != nil || e != x.e {
			t.Errorf("%s: %v, %d, not %d", x.what, c, e, x.e)
		}
	}
}

// P9.1, P9.2: a new device's cache has nothing, and room for six entries less than its ring has sectors, wherever the ring lies.
func TestOpenOfNew(t *testing.T) {
	for blocks := 1; blocks <= api.MaxBlocks; blocks++ {
		finds(t, "new", sector.New(10), blocks, state{})
	}
	for _, x := range []struct{ sectors, first, n, a, b int }{
		{10, 2, 8, 0, 1}, {10, 0, 8, 9, 8}, {10, 1, 8, 0, 9}, {40, 20, 9, 3, 38}, {512, 6, 506, 4, 5}, {512, 2, 510, 1, 0},
	} {
		d := sector.New(x.sectors)
		c, e := Open(d, x.first, x.n, x.a, x.b, 3)
		want(t, fmt.Sprint(x), e, api.OK)
		says(t, fmt.Sprint(x), c, x.n, state{})
		puts(t, c, entry(2, 1, 1, true))
		c, e = Open(d, x.first, x.n, x.a, x.b, 3)
		want(t, fmt.Sprint(x), e, api.OK)
		says(t, fmt.Sprint(x), c, x.n, state{last: version(1, 1)}.with(entry(2, 1, 1, true)))
	}
}

// someKept is what is kept in many a record here.
var someKept = state{last: version(7, 8), table: [4]int64{10, 20, 30, 40}}

// P9.1: records at all edges of what may be, and what they do.
func TestRecordsThatMayBe(t *testing.T) {
	greatest := state{last: version(top, top), table: [4]int64{top, top, top, top}}
	least := by(entry(0, 1, 1, false), -1, 0)
	most := by(entry(31, top, top, true), 3, top)
	mid := by(entry(5, 3, 4, true), 0, 6)
	cleaned := mid
	cleaned.Dirty = false
	other := entry(5, 1, 9, true)
	for _, x := range []struct {
		what string
		recs []api.Rec
		is   state
	}{
		{"none", nil, state{}},
		{"least", []api.Rec{layRec(least, state{})}, state{}.with(least)},
		{"most", []api.Rec{layRec(most, greatest)}, greatest.with(most)},
		{"no version kept", []api.Rec{layRec(mid, state{})}, state{}.with(mid)},
		{"more is kept", []api.Rec{layRec(mid, someKept)}, someKept.with(mid)},
		{"two blocks", []api.Rec{layRec(mid, state{}), layRec(least, someKept)}, someKept.with(mid, least)},
		{"what is kept falls", []api.Rec{layRec(mid, greatest), rec(13, state{}, "")}, state{}.with(mid)},
		{"laid again, of an elder version", []api.Rec{layRec(mid, someKept), layRec(other, someKept)}, someKept.with(other)},
		{"cleaned", []api.Rec{layRec(mid, state{}), rec(11, someKept, "", 5, 3, 4)}, someKept.with(cleaned)},
		{"cleaned twice", []api.Rec{layRec(mid, state{}), rec(11, someKept, "", 5, 3, 4), rec(11, someKept, "", 5, 3, 4)}, someKept.with(cleaned)},
		{"another seq cleaned", []api.Rec{layRec(mid, state{}), rec(11, someKept, "", 5, 3, 5)}, someKept.with(mid)},
		{"an elder seq cleaned", []api.Rec{layRec(mid, state{}), rec(11, someKept, "", 5, 3, 3)}, someKept.with(mid)},
		{"another epoch cleaned", []api.Rec{layRec(mid, state{}), rec(11, someKept, "", 5, 4, 4)}, someKept.with(mid)},
		{"another block cleaned", []api.Rec{layRec(mid, state{}), rec(11, someKept, "", 4, 3, 4)}, someKept.with(mid)},
		{"nothing cleaned", []api.Rec{rec(11, greatest, "", 31, top, top)}, greatest},
		{"the least cleaned", []api.Rec{rec(11, state{}, "", 0, 1, 1)}, state{}},
		{"cleaned ahead", []api.Rec{rec(11, someKept, "", 5, 3, 4), layRec(mid, someKept)}, someKept.with(mid)},
		{"dropped", []api.Rec{layRec(mid, state{}), layRec(least, state{}), rec(12, someKept, "", 5)}, someKept.with(least)},
		{"another one dropped", []api.Rec{layRec(mid, state{}), rec(12, someKept, "", 4)}, someKept.with(mid)},
		{"nothing dropped", []api.Rec{rec(12, someKept, "", 31), rec(12, greatest, "", 0)}, greatest},
		{"dropped, and laid again", []api.Rec{layRec(mid, state{}), rec(12, state{}, "", 5), layRec(other, someKept)}, someKept.with(other)},
		{"dropped, and cleaned", []api.Rec{layRec(mid, state{}), rec(12, state{}, "", 5), rec(11, someKept, "", 5, 3, 4)}, someKept},
		{"noted", []api.Rec{rec(13, greatest, ""), rec(13, someKept, "")}, someKept},
	} {
		d := device(t, 8, x.recs...)
		finds(t, x.what, d, 32, x.is)
		finds(t, x.what+", again", d, 32, x.is)
		logs(t, x.what, d, 1, x.recs...)
	}
}

// P9.1: each record with the edges of blocks: the last one of so many is there, the next one isn't.
func TestRecordsOfBlocks(t *testing.T) {
	for blocks := 1; blocks <= api.MaxBlocks; blocks++ {
		for _, b := range []int64{-1, int64(blocks), 32, 33, 1 << 32, -1 << 32, math.MaxInt64, math.MinInt64} {
			for _, r := range []api.Rec{rec(10, state{}, "12345678", b, 1, 1, 0, -1, 0), rec(11, state{}, "", b, 1, 1), rec(12, state{}, "", b)} {
				wantNoOpen(t, fmt.Sprintf("%v of %d blocks", r, blocks), device(t, 8, r), blocks, api.ErrForm)
			}
		}
		e := entry(blocks-1, 1, 1, true)
		finds(t, "the last", device(t, 8, layRec(e, someKept)), blocks, someKept.with(e))
		finds(t, "cleaned", device(t, 8, rec(11, someKept, "", int64(blocks-1), 1, 1)), blocks, someKept)
		finds(t, "dropped", device(t, 8, rec(12, someKept, "", int64(blocks-1))), blocks, someKept)
	}
}

// badRecs tells records that may not be, of a cache of 32 blocks.
func badRecs() []api.Rec {
	var l []api.Rec
	text := "12345678"
	for at, good := range []int64{0, 1, 1, 0, 0, 0} { // block, epoch, seq, dirty, client, number
		for _, n := range map[int][]int64{
			1: {0, -1, top + 1, math.MaxInt64, math.MinInt64},
			2: {0, -1, top + 1, math.MaxInt64, math.MinInt64},
			3: {-1, 2, 3, 1 << 32, math.MaxInt64, math.MinInt64},
			4: {-2, 4, 5, 1 << 32, math.MaxInt64, math.MinInt64},
			5: {-1, top + 1, math.MaxInt64, math.MinInt64},
		}[at] {
			nums := []int64{0, 1, 1, 0, 0, 0}
			nums[at] += n - good
			l = append(l, rec(10, state{}, text, nums...))
		}
	}
	for _, s := range []string{"1", "1234567", "123456789", strings.Repeat("x", 16)} {
		l = append(l, rec(10, state{}, s, 0, 1, 1, 0, 0, 0))
	}
	for _, n := range []int64{0, -1, top + 1, math.MaxInt64, math.MinInt64} {
		l = append(l, rec(11, state{}, "", 0, n, 1), rec(11, state{}, "", 0, 1, n))
	}
	return append(l, misshapen()...)
}

// misshapen tells records of other kinds, of more or fewer numbers or texts, and of what may not be kept.
func misshapen() []api.Rec {
	var l []api.Rec
	shapes := []struct {
		kind  int
		nums  []int64
		texts []string
	}{{10, []int64{0, 1, 1, 0, 0, 0}, []string{"12345678"}}, {11, []int64{0, 1, 1}, nil}, {12, []int64{0}, nil}, {13, nil, nil}}
	kept := []int64{1, 1, 1, 1, 1, 1}
	for _, x := range shapes {
		whole := slices.Concat(x.nums, kept)
		for n := range api.MaxNums + 1 {
			if n != len(whole) {
				l = append(l, api.Rec{Kind: x.kind, Nums: append(slices.Clip(whole), make([]int64, 16)...)[:n], Texts: x.texts})
			}
		}
		l = append(l, api.Rec{Kind: x.kind, Nums: whole, Texts: append(slices.Clip(x.texts), "")})
		l = append(l, api.Rec{Kind: x.kind, Nums: whole, Texts: append(slices.Clip(x.texts), "12345678")})
		for _, y := range shapes {
			if y.kind != x.kind {
				l = append(l, api.Rec{Kind: y.kind, Nums: whole, Texts: x.texts})
			}
		}
		for _, kind := range []int{0, 1, 2, 3, 9, 14, 50, 255} {
			l = append(l, api.Rec{Kind: kind, Nums: whole, Texts: x.texts})
		}
		for at := range kept {
			for _, n := range []int64{-1, top + 1, math.MaxInt64, math.MinInt64} {
				bad := slices.Clone(whole)
				bad[len(x.nums)+at] = n
				l = append(l, api.Rec{Kind: x.kind, Nums: bad, Texts: x.texts})
			}
		}
	}
	return append(l, api.Rec{Kind: 10, Nums: slices.Concat(shapes[0].nums, kept)})
}

// P9.1: a record that may not be, at whatever place of the log; the good ones beside it are found without it.
func TestRecordsThatMayNotBe(t *testing.T) {
	good := layRec(entry(3, 1, 2, true), someKept)
	for _, r := range badRecs() {
		for _, l := range [][]api.Rec{{r}, {r, good}, {good, r}, {good, r, good}} {
			wantNoOpen(t, fmt.Sprint(l), device(t, 8, l...), 32, api.ErrForm)
		}
	}
	for _, s := range []string{"", "x", "\x0d\x06", "\x0d\x06\x00\x00\x00\x00\x00", "\x0d\x06\x00\x00\x00\x00\x00\x00\x00", "\x0d\x06\x80\x00\x00\x00\x00\x00\x00", strings.Repeat("\xff", api.MaxEntry)} {
		wantNoOpen(t, fmt.Sprintf("%q", s), deviceOf(t, 8, s), 32, api.ErrForm)
		wantNoOpen(t, fmt.Sprintf("%q", s), deviceOf(t, 8, payload(t, good), s), 32, api.ErrForm)
	}
	finds(t, "good", device(t, 8, good), 32, someKept.with(entry(3, 1, 2, true)))
	finds(t, "nothing", deviceOf(t, 8, "\x0d\x06\x00\x00\x00\x00\x00\x00"), 32, state{})
}

// P9.3: what a Put does, by entries at all edges; to the log, too.
func TestPut(t *testing.T) {
	d := sector.New(18)
	c := opened(t, d, 32)
	var s state
	var recs []api.Rec
	for _, e := range []api.Entry{
		entry(0, 1, 1, true), entry(31, 1, 2, false), by(entry(1, 1, 9, true), 0, 0), by(entry(2, 2, 1, true), 0, 5), by(entry(2, 2, 3, true), 0, 4),
		by(entry(2, 3, 2, false), 3, 7), by(entry(0, 3, 3, false), -1, 9), by(entry(4, 4, 1, true), 1, top), by(entry(5, top, 1, true), 1, 3), by(entry(5, top, top, true), 2, top),
	} {
		want(t, fmt.Sprint(e), c.Put(e), api.OK)
		s = s.with(e)
		s.last = e.V
		if e.Client >= 0 {
			s.table[e.Client] = max(s.table[e.Client], e.N)
		}
		recs = append(recs, layRec(e, s))
		says(t, fmt.Sprint(e), c, 16, s)
		logs(t, fmt.Sprint(e), d, 1, recs...)
	}
	want(t, "above the last", c.Put(entry(5, top, top, true)), api.ErrArg)
	finds(t, "opened", d, 32, s)
}

// P9.3: what is wrong with an entry, the first error first; nothing is done then.
func TestPutOfWrong(t *testing.T) {
	d := device(t, 8, layRec(entry(0, 4, 4, true), someKept), layRec(entry(1, 5, 5, true), state{last: version(5, 5)}))
	c := opened(t, d, 4)
	s := stateOf(c)
	d.Fuse(1)
	good := entry(2, 6, 1, true) // but there is no room for it
	sized := func(e api.Entry, n int) api.Entry { e.Data = strings.Repeat("x", n); return e }
	of := func(e api.Entry, v api.Version) api.Entry { e.V = v; return e }
	at := func(e api.Entry, block int) api.Entry { e.Block = block; return e }
	for _, b := range []int{-1, 4, 5, 31, 32, 1 << 32, math.MaxInt, math.MinInt} {
		want(t, "no block", c.Put(at(entry(0, 6, 1, true), b)), api.ErrRange)
		want(t, "no block", c.Put(by(sized(of(at(good, b), version(0, 0)), 7), 9, -1)), api.ErrRange)
	}
	for _, n := range []int{0, 1, 7, 9, 16, 200, 100000} {
		want(t, "size", c.Put(sized(entry(0, 6, 1, true), n)), api.ErrSize)
		want(t, "size", c.Put(by(sized(of(good, version(0, 0)), n), 9, -1)), api.ErrSize)
	}
	for _, v := range []api.Version{
		{}, {Epoch: 5, Seq: 5}, {Epoch: 5, Seq: 4}, {Epoch: 4, Seq: 9}, {Epoch: 4, Seq: 5}, {Epoch: 1, Seq: 1}, {Epoch: 0, Seq: 9}, {Epoch: -1, Seq: 9},
		{Epoch: 6, Seq: 0}, {Epoch: 6, Seq: -1}, {Epoch: 6, Seq: math.MinInt64}, {Epoch: math.MinInt64, Seq: 6},
		{Epoch: 6, Seq: top + 1}, {Epoch: top + 1, Seq: 1}, {Epoch: 6, Seq: math.MaxInt64}, {Epoch: math.MaxInt64, Seq: 6},
	} {
		want(t, fmt.Sprint(v), c.Put(of(entry(0, 6, 1, true), v)), api.ErrArg)
		want(t, fmt.Sprint(v), c.Put(of(good, v)), api.ErrArg)
	}
	for _, client := range []int{-2, -3, 4, 5, 1 << 32, math.MaxInt, math.MinInt} {
		want(t, fmt.Sprint(client), c.Put(by(entry(0, 6, 1, true), client, 1)), api.ErrArg)
		want(t, fmt.Sprint(client), c.Put(by(good, client, 1)), api.ErrArg)
	}
	for _, n := range []int64{-1, top + 1, math.MaxInt64, math.MinInt64} {
		for client := -1; client < 4; client++ {
			want(t, fmt.Sprint(n), c.Put(by(entry(0, 6, 1, true), client, n)), api.ErrArg)
			want(t, fmt.Sprint(n), c.Put(by(good, client, n)), api.ErrArg)
		}
	}
	want(t, "full", c.Put(good), api.ErrFull)
	says(t, "afterwards", c, 8, s)
	untouched(t, "wrong", d)
	want(t, "full, and dead", c.Put(good), api.ErrFull)
	want(t, "dead", c.Put(entry(0, 6, 1, true)), api.ErrDown)
	says(t, "dead", c, 8, s)
}

// P9.3: on a new cache an entry's version is above (0, 0) only if both may be.
func TestPutOfFirstVersions(t *testing.T) {
	for _, x := range []struct {
		v api.Version
		e api.Errno
	}{{version(0, 0), api.ErrArg}, {version(0, 1), api.ErrArg}, {version(1, 0), api.ErrArg}, {version(1, 1), api.OK}, {version(top, top), api.OK}, {version(1, top), api.OK}, {version(top, 1), api.OK}} {
		e := entry(0, 1, 1, true)
		e.V = x.v
		want(t, fmt.Sprint(x.v), opened(t, sector.New(10), 1).Put(e), x.e)
	}
}

// P9.3: which entry makes way: of the clean ones that of the lowest version, of such alike that of the lowest block; by a record of its own.
func TestWhoMakesWay(t *testing.T) {
	for _, x := range []struct {
		what string
		l    []api.Entry
		goes int // -1: none may
	}{
		{"all dirty", []api.Entry{entry(0, 1, 1, true), entry(1, 1, 2, true), entry(2, 1, 3, true)}, -1},
		{"one clean", []api.Entry{entry(0, 1, 1, true), entry(1, 1, 2, true), entry(2, 1, 3, false)}, 2},
		{"the first by seq", []api.Entry{entry(0, 1, 3, false), entry(1, 1, 2, false), entry(2, 1, 4, false)}, 1},
		{"the first by epoch", []api.Entry{entry(0, 2, 1, false), entry(1, 1, 9, false), entry(2, 2, 2, false)}, 1},
		{"the dirty one is lower", []api.Entry{entry(0, 1, 1, true), entry(1, 1, 9, false), entry(2, 1, 8, false)}, 2},
		{"alike", []api.Entry{entry(2, 1, 1, false), entry(1, 1, 1, false), entry(0, 1, 1, true)}, 1},
		{"all alike", []api.Entry{entry(2, 3, 3, false), entry(0, 3, 3, false), entry(1, 3, 3, false)}, 0},
	} {
		var s state
		var recs []api.Rec
		s.table = someKept.table
		for _, e := range x.l {
			s = s.with(e)
			s.last = e.V
			recs = append(recs, layRec(e, s))
		}
		s.last = version(3, 9)
		recs = append(recs, rec(13, s, ""))
		d := device(t, 9, recs...)
		c := opened(t, d, 8)
		comes := by(entry(7, 4, 1, true), 2, 99)
		if x.goes < 0 {
			want(t, x.what, c.Put(comes), api.ErrFull)
			says(t, x.what, c, 9, s)
			logs(t, x.what, d, 1, recs...)
			continue
		}
		want(t, x.what, c.Put(comes), api.OK)
		s.entries[x.goes] = api.Entry{}
		recs = append(recs, rec(12, s, "", int64(x.goes)))
		s = s.with(comes)
		s.last, s.table[2] = version(4, 1), 99
		says(t, x.what, c, 9, s)
		logs(t, x.what, d, 1, append(recs, layRec(comes, s))...)
	}
}

// P9.3: while there is room nothing makes way; nor does it for a block that has an entry, whether all are dirty or not.
func TestWhoMakesNoWay(t *testing.T) {
	for _, dirty := range []bool{true, false} {
		d := sector.New(11)
		c := opened(t, d, 8)
		s := state{}
		for i, block := range []int{0, 5, 2, 5, 0, 2, 2} {
			e := entry(block, 1, int64(i+1), dirty)
			want(t, fmt.Sprint(e), c.Put(e), api.OK)
			s = s.with(e)
			s.last = e.V
			says(t, fmt.Sprint(e), c, 9, s)
		}
	}
	for n := 8; n <= 40; n++ {
		c := opened(t, sector.New(n+2), 32)
		for b := range min(n-6, 32) {
			puts(t, c, entry(b, 1, int64(b+1), false))
			if len(c.All()) != b+1 {
				t.Errorf("ring of %d: %v", n, c.All())
			}
		}
		if n-6 < 32 {
			puts(t, c, entry(n-6, 2, 1, true))
			if _, ok := c.Get(0); ok || len(c.All()) != n-6 {
				t.Errorf("ring of %d: %v", n, c.All())
			}
		}
	}
}

// P9.4: Clean, by the version alone.
func TestClean(t *testing.T) {
	e, other := by(entry(1, 4, 5, true), 2, 6), entry(2, 4, 6, true)
	first := []api.Rec{layRec(e, someKept), layRec(other, someKept)}
	d := device(t, 10, first...)
	c := opened(t, d, 4)
	s := someKept.with(e, other)
	d.Fuse(1)
	for _, x := range []struct {
		block int
		v     api.Version
	}{
		{0, version(4, 5)}, {0, version(0, 0)}, {3, version(4, 5)}, {1, version(4, 6)}, {1, version(4, 4)}, {1, version(3, 5)}, {1, version(5, 5)}, {1, version(0, 0)},
		{1, version(7, 8)}, {2, version(4, 5)}, {-1, version(4, 5)}, {4, version(0, 0)}, {-1, version(0, 0)}, {1 << 32, version(4, 5)}, {math.MinInt, version(0, 0)}, {math.MaxInt, version(top, top)},
		{1, version(-4, 5)}, {1, version(math.MinInt64, math.MaxInt64)},
	} {
		want(t, fmt.Sprint(x), c.Clean(x.block, x.v), api.ErrNone)
	}
	says(t, "none", c, 10, s)
	untouched(t, "none", d)
	want(t, "dead", c.Clean(1, version(4, 5)), api.ErrDown)
	says(t, "dead", c, 10, s)
	d.Crash(nil)
	want(t, "Clean", c.Clean(1, version(4, 5)), api.OK)
	e.Dirty = false
	says(t, "Clean", c, 10, s.with(e))
	logs(t, "Clean", d, 1, append(first, rec(11, someKept, "", 1, 4, 5))...)
	d.Fuse(1)
	want(t, "again", c.Clean(1, version(4, 5)), api.OK)
	want(t, "another version", c.Clean(1, version(4, 4)), api.ErrNone)
	says(t, "again", c, 10, s.with(e))
	untouched(t, "again", d)
	want(t, "again, dead", c.Clean(1, version(4, 5)), api.OK)
}

// P9.4: Drop, dirty or not.
func TestDrop(t *testing.T) {
	e, other := by(entry(1, 4, 5, true), 2, 6), entry(2, 4, 6, false)
	first := []api.Rec{layRec(e, someKept), layRec(other, someKept)}
	d := device(t, 10, first...)
	c := opened(t, d, 4)
	d.Fuse(1)
	for _, b := range []int{0, 3, -1, 4, 32, 1<<32 + 1, math.MaxInt, math.MinInt} {
		want(t, fmt.Sprint(b), c.Drop(b), api.ErrNone)
	}
	says(t, "none", c, 10, someKept.with(e, other))
	untouched(t, "none", d)
	want(t, "dead", c.Drop(1), api.ErrDown)
	says(t, "dead", c, 10, someKept.with(e, other))
	d.Crash(nil)
	want(t, "Drop(1)", c.Drop(1), api.OK)
	says(t, "Drop(1)", c, 10, someKept.with(other))
	want(t, "Drop(1)", c.Drop(1), api.ErrNone)
	want(t, "Drop(2)", c.Drop(2), api.OK)
	says(t, "Drop(2)", c, 10, someKept)
	logs(t, "Drop", d, 1, append(first, rec(12, someKept, "", 1), rec(12, someKept, "", 2))...)
	want(t, "an elder version", c.Put(e), api.ErrArg)
	finds(t, "opened", d, 4, someKept)
}

// P9.4: Note raises, Reset sets, each of version and numbers for itself.
func TestNoteAndReset(t *testing.T) {
	e := entry(1, 4, 5, true)
	for _, x := range []struct {
		v     api.Version
		l     [4]int64
		noted state
	}{
		{version(0, 0), [4]int64{}, someKept},
		{version(7, 9), [4]int64{10, 20, 30, 40}, state{last: version(7, 9), table: someKept.table}},
		{version(7, 7), [4]int64{11, 19, 31, 39}, state{last: version(7, 8), table: [4]int64{11, 20, 31, 40}}},
		{version(8, 0), [4]int64{0, 21, 0, 41}, state{last: version(8, 0), table: [4]int64{10, 21, 30, 41}}},
		{version(6, top), [4]int64{top, 0, 0, 0}, state{last: version(7, 8), table: [4]int64{top, 20, 30, 40}}},
		{version(top, 0), [4]int64{0, 0, 0, top}, state{last: version(top, 0), table: [4]int64{10, 20, 30, top}}},
		{version(0, top), [4]int64{1, 1, 1, 1}, someKept},
		{version(top, top), [4]int64{top, top, top, top}, state{last: version(top, top), table: [4]int64{top, top, top, top}}},
	} {
		what := fmt.Sprint(x.v, x.l)
		first := layRec(e, someKept)
		d := device(t, 10, first)
		c := opened(t, d, 4)
		want(t, "Note "+what, c.Note(x.v, x.l[:]), api.OK)
		says(t, "Note "+what, c, 10, x.noted.with(e))
		reset := state{last: x.v, table: x.l}
		want(t, "Reset "+what, c.Reset(x.v, x.l[:]), api.OK)
		says(t, "Reset "+what, c, 10, reset.with(e))
		logs(t, what, d, 1, first, rec(13, x.noted, ""), rec(13, reset, ""))
		finds(t, what, d, 4, reset.with(e))
	}
}

// P9.4: what may not be noted, nor set.
func TestWrongNotes(t *testing.T) {
	e := entry(1, 4, 5, true)
	d := device(t, 10, layRec(e, someKept))
	c := opened(t, d, 4)
	d.Fuse(1)
	calls := map[string]func(api.Version, []int64) api.Errno{"Note": c.Note, "Reset": c.Reset}
	for what, call := range calls {
		for _, n := range []int64{-1, top + 1, math.MaxInt64, math.MinInt64} {
			want(t, what, call(version(n, 9), []int64{1, 2, 3, 4}), api.ErrArg)
			want(t, what, call(version(9, n), []int64{1, 2, 3, 4}), api.ErrArg)
			for i := range 4 {
				l := []int64{1, 2, 3, 4}
				l[i] = n
				want(t, fmt.Sprint(what, l), call(version(9, 9), l), api.ErrArg)
			}
		}
		for _, l := range [][]int64{nil, {}, {1}, {1, 2, 3}, {1, 2, 3, 4, 5}, make([]int64, 16)} {
			want(t, fmt.Sprint(what, l), call(version(9, 9), l), api.ErrArg)
		}
	}
	says(t, "wrong", c, 10, someKept.with(e))
	untouched(t, "wrong", d)
	for what, call := range calls {
		want(t, what, call(version(9, 9), []int64{1, 2, 3}), api.ErrArg)
		want(t, what, call(version(9, 9), []int64{1, 2, 3, 4}), api.ErrDown)
	}
	says(t, "dead", c, 10, someKept.with(e))
}

// P9.3, P9.4: behind a Reset lower versions are above Last again.
func TestPutBehindReset(t *testing.T) {
	d := sector.New(10)
	c := opened(t, d, 4)
	puts(t, c, by(entry(0, 5, 5, false), 1, 9))
	want(t, "Reset", c.Reset(version(2, 2), []int64{0, 3, 0, 0}), api.OK)
	want(t, "not above", c.Put(entry(0, 2, 2, true)), api.ErrArg)
	puts(t, c, by(entry(1, 2, 3, false), 1, 2))
	puts(t, c, entry(2, 5, 5, false)) // there is room for two: that of the lowest version goes
	s := state{last: version(5, 5), table: [4]int64{0, 3, 0, 0}}.with(by(entry(0, 5, 5, false), 1, 9), entry(2, 5, 5, false))
	says(t, "behind", c, 8, s)
	want(t, "Reset", c.Reset(version(2, 2), []int64{0, 3, 0, 0}), api.OK)
	puts(t, c, entry(3, 2, 4, true)) // both are of one version: the lowest block goes
	finds(t, "opened", d, 4, state{last: version(2, 4), table: s.table}.with(entry(2, 5, 5, false), entry(3, 2, 4, true)))
}

// P9.4: Sync is the log's: one act, whose error is told.
func TestSync(t *testing.T) {
	d := sector.New(10)
	c := opened(t, d, 4)
	puts(t, c, entry(0, 1, 1, true))
	d.Fuse(2)
	want(t, "Sync", c.Sync(), api.OK)
	if l := d.Pending(); len(l) != 0 {
		t.Errorf("pending %v", l)
	}
	puts(t, c, entry(1, 1, 2, true))
	want(t, "dying", c.Sync(), api.ErrDown)
	want(t, "dead", c.Sync(), api.ErrDown)
	says(t, "dead", c, 8, state{last: version(1, 2)}.with(entry(0, 1, 1, true), entry(1, 1, 2, true)))
	d.Crash(nil)
	finds(t, "crash", d, 4, state{last: version(1, 1)}.with(entry(0, 1, 1, true)))
}

// roomCases tells records of a ring of eight, and those of them, with what was laid anew, that are there when room is made; the first one of these has the number head.
func roomCases() map[string]struct {
	recs, stays []api.Rec
	head        int64
} {
	e, f, gone := by(entry(0, 1, 1, true), 0, 1), by(entry(1, 1, 2, false), 1, 2), entry(3, 1, 3, true)
	elder, cleaned := entry(0, 1, 1, false), e
	cleaned.Dirty = false
	a, b, c, n := layRec(e, someKept), layRec(f, someKept), layRec(cleaned, someKept), rec(13, someKept, "")
	x, y := layRec(gone, someKept), rec(12, someKept, "", 3)
	return map[string]struct {
		recs, stays []api.Rec
		head        int64
	}{
		"none":                          {nil, nil, 1},
		"four":                          {[]api.Rec{a, b, n, n}, []api.Rec{a, b, n, n}, 1},
		"five, a note first":            {[]api.Rec{n, a, b, n, n}, []api.Rec{a, b, n, n}, 2},
		"five, both are laid anew":      {[]api.Rec{a, b, n, n, n}, []api.Rec{n, n, a, b}, 4},
		"five, one is laid twice":       {[]api.Rec{a, a, b, n, n}, []api.Rec{a, b, n, n}, 2},
		"five, an elder one first":      {[]api.Rec{layRec(elder, someKept), n, n, n, a}, []api.Rec{n, n, n, a}, 2},
		"five, one is dropped":          {[]api.Rec{x, y, a, b, n}, []api.Rec{y, a, b, n}, 2},
		"five, dropped, and laid again": {[]api.Rec{x, y, x, b, n}, []api.Rec{y, x, b, n}, 2},
		"five, one is cleaned":          {[]api.Rec{a, rec(11, someKept, "", 0, 1, 1), n, n, n}, []api.Rec{n, n, n, c}, 3},
		"five, less was kept":           {[]api.Rec{layRec(e, state{}), n, n, n, n}, []api.Rec{n, n, n, a}, 3},
		"seven, two notes first":        {[]api.Rec{n, n, a, b, n, n, n}, []api.Rec{n, n, a, b}, 6},
		"seven, far from each other":    {[]api.Rec{a, n, n, n, n, n, b}, []api.Rec{n, n, b, a}, 5},
		"eight":                         {[]api.Rec{n, n, n, n, a, n, n, b}, []api.Rec{a, n, n, b}, 5},
	}
}

// P9.3, P9.4: room is made just when fewer than four records may be appended: the first ones go, and what one of them alone tells is laid anew. Nothing of that is seen.
func TestRoom(t *testing.T) {
	for what, x := range roomCases() {
		d := device(t, 8, x.recs...)
		c := opened(t, d, 4)
		s := stateOf(c)
		s.last, s.table = someKept.last, someKept.table
		want(t, what, c.Note(someKept.last, someKept.table[:]), api.OK)
		says(t, what, c, 8, s)
		logs(t, what, d, x.head, append(x.stays, rec(13, someKept, ""))...)
		finds(t, what, d, 4, s)
	}
}

// P9.3, P9.4: each call that lets a record come makes room first, once.
func TestWhoMakesRoom(t *testing.T) {
	a, b := entry(0, 1, 1, true), entry(1, 1, 2, false)
	la, lb, n := layRec(a, someKept), layRec(b, someKept), rec(13, someKept, "")
	next, third := entry(0, 8, 1, true), entry(2, 8, 1, true)
	behind := state{last: version(8, 1), table: someKept.table}
	low := state{last: version(1, 1), table: [4]int64{1, 2, 3, 4}}
	for what, x := range map[string]struct {
		call  func(c *Cache) api.Errno
		comes []api.Rec
	}{
		"Put":                  {func(c *Cache) api.Errno { return c.Put(next) }, []api.Rec{layRec(next, behind)}},
		"Put, and one goes":    {func(c *Cache) api.Errno { return c.Put(third) }, []api.Rec{rec(12, someKept, "", 1), layRec(third, behind)}},
		"Clean":                {func(c *Cache) api.Errno { return c.Clean(0, a.V) }, []api.Rec{rec(11, someKept, "", 0, 1, 1)}},
		"Drop":                 {func(c *Cache) api.Errno { return c.Drop(1) }, []api.Rec{rec(12, someKept, "", 1)}},
		"Note of less":         {func(c *Cache) api.Errno { return c.Note(version(1, 1), []int64{1, 2, 3, 4}) }, []api.Rec{n}},
		"Reset":                {func(c *Cache) api.Errno { return c.Reset(version(1, 1), []int64{1, 2, 3, 4}) }, []api.Rec{rec(13, low, "")}},
		"Sync":                 {func(c *Cache) api.Errno { return c.Sync() }, nil},
		"Clean of a clean one": {func(c *Cache) api.Errno { return c.Clean(1, b.V) }, nil},
	} {
		d := device(t, 8, n, la, lb, n, n)
		want(t, what, x.call(opened(t, d, 4)), api.OK)
		if x.comes == nil {
			logs(t, what, d, 1, n, la, lb, n, n)
		} else {
			logs(t, what, d, 2, slices.Concat([]api.Rec{la, lb, n, n}, x.comes)...)
		}
	}
}

// manyLaid tells records that lay so many blocks.
func manyLaid(n int, dirty bool) []api.Rec {
	var l []api.Rec
	for b := range n {
		l = append(l, layRec(entry(b, 1, int64(b+1), dirty), someKept))
	}
	return l
}

// P9.3, P9.4: where a log tells more entries than there is room for, none may go; as many steps are made as the ring has sectors.
func TestNoRoom(t *testing.T) {
	for n := 5; n <= 8; n++ {
		recs := manyLaid(n, true)
		d := device(t, 8, recs...)
		c := opened(t, d, 9)
		s := stateOf(c)
		head := int64(1)
		for call, e := range []api.Errno{c.Drop(0), c.Clean(1, version(1, 2)), c.Put(entry(2, 8, 1, true)), c.Note(version(9, 9), []int64{9, 9, 9, 99}), c.Reset(version(0, 0), make([]int64, 4))} {
			want(t, fmt.Sprint(n, " laid, call ", call), e, api.ErrFull)
			if n < 8 { // else not even one more may be appended
				head += 8
			}
		}
		says(t, "no room", c, 8, s)
		logs(t, fmt.Sprint(n, " laid"), d, head, append(recs[int(head-1)%n:], recs[:int(head-1)%n]...)...)
		want(t, "all dirty", c.Put(entry(8, 8, 1, true)), api.ErrFull)
		finds(t, "no room", d, 9, s)
	}
	d := device(t, 8, manyLaid(6, false)...)
	want(t, "no room", opened(t, d, 9).Put(entry(8, 8, 1, true)), api.ErrFull)
	if h, _ := recordsOf(t, d); h != 9 {
		t.Errorf("head %d", h)
	}
}

// P9.3: more entries than there may be are as many as there may be: one makes way for another one, and no more.
func TestMoreThanThereMayBe(t *testing.T) {
	c := opened(t, device(t, 8, manyLaid(4, false)...), 9)
	puts(t, c, entry(8, 8, 1, true))
	s := state{last: version(8, 1), table: someKept.table}
	says(t, "clean", c, 8, s.with(entry(1, 1, 2, false), entry(2, 1, 3, false), entry(3, 1, 4, false), entry(8, 8, 1, true)))
	c = opened(t, device(t, 8, manyLaid(4, true)...), 9)
	want(t, "dirty", c.Put(entry(8, 8, 1, true)), api.ErrFull)
	puts(t, c, entry(3, 8, 1, true))
}

// P9.3, P9.4: the first error while room is made ends it, and is told; what came has come: it isn't laid anew once more.
func TestErrorWhileRoomIsMade(t *testing.T) {
	a, b, n := layRec(entry(0, 1, 1, true), someKept), layRec(entry(1, 1, 2, true), someKept), rec(13, someKept, "")
	d := device(t, 8, a, b, n, n, n)
	text := payload(t, api.Rec{Kind: 3, Nums: []int64{1, 1, 0}})
	want(t, "Write", d.Write(0, cell.Slot(top-1, text)), api.OK)
	c := opened(t, d, 4) // the cell has no more generations
	s := stateOf(c)
	for range 3 {
		want(t, "Drop", c.Drop(0), api.ErrSeq)
		want(t, "Put", c.Put(entry(0, 8, 1, true)), api.ErrSeq)
		want(t, "Note", c.Note(version(9, 9), []int64{99, 99, 99, 99}), api.ErrSeq)
		says(t, "no more", c, 8, s)
	}
	elder := payload(t, api.Rec{Kind: 3, Nums: []int64{1, 2, 0}})
	want(t, "Write", d.Write(1, cell.Slot(1, elder)), api.OK) // so that the log can be opened again
	want(t, "Write", d.Write(0, nil), api.OK)
	logs(t, "no more", d, 1, a, b, n, n, n, a)
}

// P9.3: where the log has no more numbers a Put's second record doesn't come; the first one has come.
func TestLastNumber(t *testing.T) {
	d := sector.New(10)
	want(t, "Write", d.Write(0, cell.Slot(1, payload(t, api.Rec{Kind: 3, Nums: []int64{top - 3, 1, 0}}))), api.OK)
	c := opened(t, d, 4)
	puts(t, c, entry(0, 1, 1, false), entry(1, 1, 2, true))
	want(t, "Put", c.Put(entry(2, 1, 3, true)), api.ErrSeq)
	s := state{last: version(1, 2)}.with(entry(1, 1, 2, true))
	says(t, "Put", c, 8, s)
	want(t, "Drop", c.Drop(1), api.ErrSeq)
	want(t, "Clean", c.Clean(1, version(1, 2)), api.ErrSeq)
	want(t, "Note", c.Note(version(9, 9), []int64{1, 1, 1, 1}), api.ErrSeq)
	want(t, "Reset", c.Reset(version(9, 9), []int64{1, 1, 1, 1}), api.ErrSeq)
	says(t, "afterwards", c, 8, s)
	finds(t, "opened", d, 4, s)
}

// P9.3: where the device dies between a Put's two records, the first one has come.
func TestDyingBetween(t *testing.T) {
	for _, keep := range [][]sector.Keep{nil, {{How: 2, N: 9}}, {{How: 1}}} {
		d := device(t, 8, manyLaid(2, false)...)
		c := opened(t, d, 4)
		whole, half := stateOf(c), stateOf(c)
		half.entries[0] = api.Entry{}
		d.Fuse(1)
		want(t, "Put", c.Put(entry(2, 8, 1, true)), api.ErrDown)
		says(t, "Put", c, 8, half)
		d.Crash(keep)
		if len(keep) > 0 && keep[0].How == 1 {
			whole = half
		}
		finds(t, "crash", d, 4, whole)
	}
}

// R3: a list that was handed in is the caller's, and so is one that is told.
func TestListsAreNotShared(t *testing.T) {
	c := opened(t, sector.New(10), 4)
	puts(t, c, entry(0, 1, 1, true), entry(1, 1, 2, true))
	l := []int64{1, 2, 3, 4}
	want(t, "Note", c.Note(version(2, 0), l), api.OK)
	clear(l)
	all := c.All()
	clear(all[:cap(all)])
	s := state{last: version(2, 0), table: [4]int64{1, 2, 3, 4}}.with(entry(0, 1, 1, true), entry(1, 1, 2, true))
	says(t, "Note", c, 8, s)
	l = []int64{4, 3, 2, 1}
	want(t, "Reset", c.Reset(version(2, 0), l), api.OK)
	if !slices.Equal(l, []int64{4, 3, 2, 1}) {
		t.Errorf("the argument: %v", l)
	}
	clear(l)
	s.table = [4]int64{4, 3, 2, 1}
	says(t, "Reset", c, 8, s)
}

// R5: caches know nothing of each other but by the device.
func TestManyCaches(t *testing.T) {
	d, other := sector.New(20), sector.New(10)
	a, b := opened(t, other, 4), opened(t, sector.New(10), 4)
	c, e := Open(d, 0, 8, 16, 17, 4)
	want(t, "Open", e, api.OK)
	x, e := Open(d, 8, 8, 18, 19, 4)
	want(t, "Open", e, api.OK)
	for i, y := range []*Cache{a, c, x} {
		puts(t, y, by(entry(i, 1, int64(i+1), true), i, 7))
	}
	says(t, "b", b, 8, state{})
	for i, y := range []*Cache{a, c, x} {
		s := state{last: version(1, int64(i+1))}
		s.table[i] = 7
		says(t, fmt.Sprint(i), y, 8, s.with(by(entry(i, 1, int64(i+1), true), i, 7)))
	}
	other.Lose()
	finds(t, "lost", other, 4, state{})
}
