package backing

import (
	"fmt"
	"math"
	"slices"
	"strings"
	"testing"

	"seisin/api"
	"seisin/cell"
	"seisin/code"
	"seisin/sector"
)

const zeros = "\x00\x00\x00\x00\x00\x00\x00\x00"

// at is the first sector of a store in these tests, where nothing else is said.
const at = 1

// sectorsOf tells how many sectors a device has, in which so many blocks' cells end one sector ahead of the last one.
func sectorsOf(blocks int) int { return at + 2 + 2*blocks + 1 }

// opened opens a store that must be there.
func opened(t *testing.T, d *sector.Dev, blocks int) *Store {
	t.Helper()
	s, e := Open(d, at, blocks)
	if e != api.OK || s == nil {
		t.Fatalf("Open of %d blocks: %v, %d", blocks, s, e)
	}
	return s
}

// want checks an error.
func want(t *testing.T, what string, e, w api.Errno) {
	t.Helper()
	if e != w {
		t.Errorf("%s: %d, not %d", what, e, w)
	}
}

// says checks a store by all that it tells.
func says(t *testing.T, what string, s *Store, n int, is state) {
	t.Helper()
	if s.Token() != is.token {
		t.Errorf("%s: Token %d, not %d", what, s.Token(), is.token)
	}
	for i, b := range is.blocks[:n] {
		if v, data := s.Get(i); v != b.v || data != b.data {
			t.Errorf("%s: Get(%d): %v, %q, not %v, %q", what, i, v, data, b.v, b.data)
		}
	}
	if s.Table() != is.table(n) {
		t.Errorf("%s: Table %v, not %v", what, s.Table(), is.table(n))
	}
}

// bytesOf tells a record as a cell's text.
func bytesOf(t *testing.T, r api.Rec) string {
	t.Helper()
	b, e := code.Encode(r)
	if e != api.OK {
		t.Fatalf("%v: %d", r, e)
	}
	return string(b)
}

// tokenRec tells the record of a token.
func tokenRec(n int64) api.Rec {
	return api.Rec{Kind: 31, Nums: []int64{n}}
}

// blockRec tells the record of a block.
func blockRec(b saved) api.Rec {
	return api.Rec{Kind: 30, Nums: []int64{b.v.Epoch, b.v.Seq, b.t[0], b.t[1], b.t[2], b.t[3]}, Texts: []string{b.data}}
}

// holds checks a device by its cells.
func holds(t *testing.T, what string, d *sector.Dev, n int, is state) {
	t.Helper()
	recs, gens := []api.Rec{tokenRec(is.token)}, []int64{is.gen}
	for _, b := range is.blocks[:n] {
		recs, gens = append(recs, blockRec(b)), append(gens, b.gen)
	}
	for i, r := range recs {
		c, e := cell.Open(d, at+2*i, at+2*i+1)
		want(t, what, e, api.OK)
		text := ""
		if gens[i] > 0 {
			text = bytesOf(t, r)
		}
		if c.Gen() != gens[i] || c.Get() != text {
			t.Errorf("%s: cell %d: %d, %q, not %d, %q", what, i, c.Gen(), c.Get(), gens[i], text)
		}
	}
}

// lay lets a cell of a store at a sector have a text for sure: the token's is the cell -1, the others' are the blocks'.
func lay(t *testing.T, d *sector.Dev, first, block int, gen int64, text string) {
	t.Helper()
	want(t, "Write", d.Write(first+2+2*block+int(gen%2), cell.Slot(gen, text)), api.OK)
	want(t, "Barrier", d.Barrier(), api.OK)
}

// laid tells a device that has a state.
func laid(t *testing.T, n int, is state) *sector.Dev {
	t.Helper()
	d := sector.New(sectorsOf(n))
	if is.gen > 0 {
		lay(t, d, at, -1, is.gen, bytesOf(t, tokenRec(is.token)))
	}
	for i, b := range is.blocks[:n] {
		if b.gen > 0 {
			lay(t, d, at, i, b.gen, bytesOf(t, blockRec(b)))
		}
	}
	return d
}

// takes checks what is answered: of the fields that an answer has of the message nothing needs to be said.
func takes(t *testing.T, what string, s *Store, m api.Msg, e api.Errno, data string, table [4]int64) {
	t.Helper()
	w := api.Msg{Kind: m.Kind + 1, Epoch: m.Epoch, Seq: m.Seq, N: m.N, Block: m.Block, Client: -1, E: e, Data: data, T: table}
	if a, ok := s.Take(m); !ok || a != w {
		t.Errorf("%s: %+v: %+v, %v, not %+v", what, m, a, ok, w)
	}
}

// refuses checks that nothing is answered.
func refuses(t *testing.T, what string, s *Store, m api.Msg) {
	t.Helper()
	if a, ok := s.Take(m); ok || a != (api.Msg{}) {
		t.Errorf("%s: %+v: %+v, %v", what, m, a, ok)
	}
}

// store tells a message to store, of no client.
func store(epoch, seq int64, block int, data string) api.Msg {
	return api.Msg{Kind: api.MsgStore, Epoch: epoch, Seq: seq, Block: block, Client: -1, Data: data}
}

// load tells a message to load.
func load(epoch int64, block int) api.Msg {
	return api.Msg{Kind: api.MsgLoad, Epoch: epoch, Block: block, Client: -1}
}

// some tells a state of two blocks.
func some() state {
	is := fresh()
	is.token, is.gen = 6, 4
	is.blocks[0] = saved{api.Version{Epoch: 5, Seq: 9}, "zero....", [4]int64{1, 20, 3, 0}, 7}
	is.blocks[1] = saved{api.Version{Epoch: 6, Seq: 2}, "one.....", [4]int64{10, 2, 3, 4}, 2}
	return is
}

var none [4]int64

// TestExamples: the chapter's examples.
func TestExamples(t *testing.T) {
	s := opened(t, sector.New(sectorsOf(1)), 1)
	takes(t, "1", s, store(2, 1, 0, "abcdefgh"), api.OK, "", none)
	takes(t, "2", s, store(2, 1, 0, "abcdefgh"), api.OK, "", none)
	takes(t, "3", s, load(1, 0), api.ErrToken, "", none)
	takes(t, "4", s, load(3, 0), api.OK, "abcdefgh", none)
	if s.Token() != 3 {
		t.Errorf("Token: %d", s.Token())
	}
	takes(t, "5", s, store(2, 9, 0, "abcdefgh"), api.ErrToken, "", none)
}

// P13.1: so many blocks there can't be, or not there, whether the device is dead or not.
func TestOpenOfWrongArguments(t *testing.T) {
	dead := sector.New(10)
	dead.Fuse(0)
	want(t, "Barrier", dead.Barrier(), api.ErrDown)
	for _, d := range []*sector.Dev{sector.New(10), dead} {
		for _, x := range [][2]int{
			{0, 0}, {0, -1}, {0, 33}, {0, 5}, {1, 4}, {2, 4}, {3, 3}, {5, 2}, {6, 2}, {7, 1}, {8, 1}, {9, 1}, {10, 1}, {11, 1}, {-1, 1}, {-2, 1}, {-3, 1}, {-4, 1}, {-6, 4},
			{math.MinInt, 1}, {math.MaxInt, 1}, {math.MaxInt - 3, 1}, {math.MaxInt - 4, 4}, {math.MinInt, 4}, {1 << 32, 1}, {-1 << 32, 1}, {-1 << 62, 4},
			{0, math.MaxInt}, {0, math.MinInt}, {0, 1 << 32}, {0, 1<<32 + 1}, {0, 1 << 63 >> 1}, {0, -1 << 63 >> 1}, {math.MaxInt, math.MaxInt}, {math.MinInt, math.MinInt}, {1 << 62, 1 << 61},
		} {
			s, e := Open(d, x[0], x[1])
			want(t, fmt.Sprint(x), e, api.ErrArg)
			if s != nil {
				t.Errorf("%v: %v", x, s)
			}
		}
	}
	for _, d := range []*sector.Dev{nil, sector.New(0), sector.New(1), sector.New(2), sector.New(3)} {
		for blocks := -1; blocks < 35; blocks++ {
			s, e := Open(d, 0, blocks)
			want(t, "small", e, api.ErrArg)
			if s != nil {
				t.Errorf("small: %v", s)
			}
		}
	}
	for _, blocks := range []int{0, 33, 64} {
		_, e := Open(sector.New(api.MaxSectors), 0, blocks)
		want(t, fmt.Sprint(blocks, " blocks"), e, api.ErrArg)
	}
}

// P13.1: the cells may end with the device, and no sector ahead of that.
func TestOpenWithinSectors(t *testing.T) {
	for blocks := 1; blocks <= api.MaxBlocks; blocks++ {
		for first := range 4 {
			n := first + 2 + 2*blocks
			s, e := Open(sector.New(n), first, blocks)
			want(t, "just enough", e, api.OK)
			says(t, "just enough", s, blocks, fresh())
			s, e = Open(sector.New(n-1), first, blocks)
			want(t, "one less", e, api.ErrArg)
			if s != nil {
				t.Errorf("one less: %v", s)
			}
		}
	}
	s, e := Open(sector.New(api.MaxSectors), api.MaxSectors-2-2*api.MaxBlocks, api.MaxBlocks)
	want(t, "at the end", e, api.OK)
	says(t, "at the end", s, api.MaxBlocks, fresh())
}

// P13.1: a dead device is told as such, if nothing else is wrong.
func TestOpenOfDead(t *testing.T) {
	for _, blocks := range []int{1, 3, 32} {
		d := sector.New(sectorsOf(blocks))
		d.Fuse(0)
		want(t, "Barrier", d.Barrier(), api.ErrDown)
		s, e := Open(d, at, blocks)
		want(t, "dead", e, api.ErrDown)
		if s != nil {
			t.Errorf("dead: %v", s)
		}
		d.Crash(nil)
		says(t, "alive", opened(t, d, blocks), blocks, fresh())
	}
}

// P13.1: each cell lies where the chapter says, and is told as it lies there.
func TestOpenOfLaid(t *testing.T) {
	for _, first := range []int{0, 1, 7, 512 - 66} {
		d, is := sector.New(512), fresh()
		is.token = 77
		lay(t, d, first, -1, 3, bytesOf(t, tokenRec(77)))
		for i := range is.blocks {
			is.blocks[i] = saved{api.Version{Epoch: int64(i), Seq: int64(100 + i)}, fmt.Sprintf("block %02d", i), [4]int64{int64(i), 9, int64(31 - i), int64(i % 7)}, int64(i + 1)}
			lay(t, d, first, i, int64(i+1), bytesOf(t, blockRec(is.blocks[i])))
		}
		for _, n := range []int{1, 2, 20, 31, 32} {
			s, e := Open(d, first, n)
			want(t, "Open", e, api.OK)
			says(t, fmt.Sprint("from ", first), s, n, is)
		}
	}
}

// P13.1: of a cell's two slots the present one is meant.
func TestOpenOfPresentSlot(t *testing.T) {
	d, is := sector.New(sectorsOf(1)), fresh()
	lay(t, d, at, -1, 3, bytesOf(t, tokenRec(9)))
	lay(t, d, at, -1, 4, bytesOf(t, tokenRec(8)))
	is.token = 8
	is.blocks[0] = saved{v: api.Version{Epoch: 2, Seq: 1}, data: "newer...", t: [4]int64{5, 0, 0, 1}}
	lay(t, d, at, 0, 7, bytesOf(t, blockRec(is.blocks[0])))
	lay(t, d, at, 0, 6, bytesOf(t, blockRec(saved{v: api.Version{Epoch: 3, Seq: 1}, data: "elder...", t: [4]int64{9, 9, 9, 9}})))
	says(t, "present", opened(t, d, 1), 1, is)
}

// P13.1: the greatest and the least numbers that there may be are told.
func TestOpenOfEdges(t *testing.T) {
	for _, n := range []int64{0, 1, api.MaxNumber - 1, api.MaxNumber} {
		is := fresh()
		is.token, is.gen = n, 1
		is.blocks[0] = saved{api.Version{Epoch: n, Seq: n}, "\xff\x00\x80 \n\"\\a", [4]int64{n, n, n, n}, 1}
		says(t, fmt.Sprint(n), opened(t, laid(t, 1, is), 1), 1, is)
	}
}

// P13.1: what is no such record is meant as token 0, and changes nothing else.
func TestOpenOfNoToken(t *testing.T) {
	right := bytesOf(t, tokenRec(9))
	for _, text := range []string{
		"", "\x00", "\x1f", right[:2], right + "\x00", strings.Repeat("\xff", 100), "\x1f\x01\x92\x00", "\x1f\x51\x12",
		bytesOf(t, api.Rec{Kind: 30, Nums: []int64{9}}), bytesOf(t, api.Rec{Kind: 32, Nums: []int64{9}}), bytesOf(t, api.Rec{Kind: 0, Nums: []int64{9}}),
		bytesOf(t, api.Rec{Kind: 31}), bytesOf(t, api.Rec{Kind: 31, Nums: []int64{9, 9}}), bytesOf(t, api.Rec{Kind: 31, Nums: []int64{9, 0}}),
		bytesOf(t, api.Rec{Kind: 31, Nums: []int64{9}, Texts: []string{""}}), bytesOf(t, api.Rec{Kind: 31, Nums: []int64{9}, Texts: []string{"12345678"}}), bytesOf(t, api.Rec{Kind: 31, Texts: []string{"9"}}),
		bytesOf(t, tokenRec(-1)), bytesOf(t, tokenRec(api.MaxNumber+1)), bytesOf(t, tokenRec(math.MinInt64)), bytesOf(t, tokenRec(math.MaxInt64)),
		bytesOf(t, blockRec(some().blocks[0])),
	} {
		is := some()
		is.token = 0
		d := laid(t, 2, is)
		lay(t, d, at, -1, 5, text)
		s := opened(t, d, 2)
		says(t, fmt.Sprintf("%q", text), s, 2, is)
		takes(t, fmt.Sprintf("%q", text), s, load(0, 0), api.OK, "zero....", [4]int64{10, 20, 3, 4})
		takes(t, fmt.Sprintf("%q", text), s, load(1, 1), api.OK, "one.....", [4]int64{10, 20, 3, 4})
		is.token, is.gen = 1, 6
		holds(t, fmt.Sprintf("%q", text), d, 2, is)
	}
}

// noBlocks tells texts that are no block's.
func noBlocks(t *testing.T) []string {
	t.Helper()
	right := bytesOf(t, blockRec(some().blocks[0]))
	l := []string{"", "\x00", "\x1e", right[:len(right)-1], right + "\x00", "\x00" + right, strings.Repeat("\xff", 100), bytesOf(t, tokenRec(9))}
	nums := []int64{5, 9, 1, 20, 3, 0}
	add := func(kind int, nums []int64, texts ...string) {
		l = append(l, bytesOf(t, api.Rec{Kind: kind, Nums: nums, Texts: texts}))
	}
	for _, kind := range []int{0, 29, 31, 255} {
		add(kind, nums, "zero....")
	}
	for n := range nums {
		add(30, nums[:n], "zero....")
		for _, wrong := range []int64{-1, api.MaxNumber + 1, math.MinInt64, math.MaxInt64} {
			other := slices.Clone(nums)
			other[n] = wrong
			add(30, other, "zero....")
		}
	}
	add(30, append(slices.Clone(nums), 0), "zero....")
	add(30, append(slices.Clone(nums), nums...), "zero....")
	add(30, nums)
	add(30, nums, "")
	add(30, nums, "zero...")
	add(30, nums, "zero.....")
	add(30, nums, "zero....", "")
	add(30, nums, "", "zero....")
	add(30, nums, "zero....", "zero....")
	return l
}

// P13.1: what is no such record is meant as a block that was never stored, and changes nothing else; the block can be stored.
func TestOpenOfNoBlock(t *testing.T) {
	for _, text := range noBlocks(t) {
		for i := range 2 {
			what := fmt.Sprintf("block %d, %q", i, text)
			is := some()
			is.blocks[i] = fresh().blocks[i]
			d := laid(t, 2, is)
			lay(t, d, at, i, 8, text)
			s := opened(t, d, 2)
			says(t, what, s, 2, is)
			takes(t, what, s, load(6, i), api.OK, zeros, is.table(2))
			takes(t, what, s, store(6, 1, i, "now...."), api.ErrSize, "", none)
			takes(t, what, s, store(6, 1, i, "now....."), api.OK, "", none)
			is.blocks[i] = saved{api.Version{Epoch: 6, Seq: 1}, "now.....", is.table(2), 9}
			says(t, what, s, 2, is)
			holds(t, what, d, 2, is)
		}
	}
}

// P13.1: the table's number of each client is the greatest one of all blocks' cells, whichever block it is of, and of no cell behind them.
func TestTable(t *testing.T) {
	for n := 1; n <= 32; n++ {
		for _, greatest := range [][4]int{{0, 0, 0, 0}, {n - 1, 0, n / 2, n - 1}, {n / 3, n - 1, 0, n / 2}} {
			is := fresh()
			for i := range n {
				is.blocks[i] = saved{api.Version{Epoch: 1, Seq: 1}, "12345678", [4]int64{1, 2, 3, 4}, 1}
				for client, block := range greatest {
					if block == i {
						is.blocks[i].t[client] = int64(100 + client)
					}
				}
			}
			d := sector.New(sectorsOf(n) + 2)
			for i := range n {
				lay(t, d, at, i, 1, bytesOf(t, blockRec(is.blocks[i])))
			}
			lay(t, d, at, n, 1, bytesOf(t, blockRec(saved{data: "12345678", t: [4]int64{999, 999, 999, 999}})))
			if got := opened(t, d, n).Table(); got != [4]int64{100, 101, 102, 103} {
				t.Errorf("%d blocks, %v: %v", n, greatest, got)
			}
		}
	}
}

// P13.1: of no such block there is neither a version nor bytes.
func TestGetOfNoBlock(t *testing.T) {
	for _, n := range []int{1, 2, 31, 32} {
		s := opened(t, sector.New(sectorsOf(n)), n)
		for _, block := range []int{-1, -2, -n, n, n + 1, 32, 33, 255, 256, 1 << 32, -1 << 32, 1<<32 + 1, math.MaxInt, math.MinInt} {
			if v, data := s.Get(block); v != (api.Version{}) || data != "" {
				t.Errorf("%d blocks: Get(%d): %v, %q", n, block, v, data)
			}
		}
		if _, data := s.Get(n - 1); data != zeros {
			t.Errorf("Get of the last one: %q", data)
		}
	}
}

// P13.1: to open and to ask does no act, and writes nothing.
func TestAskingWritesNothing(t *testing.T) {
	for _, is := range []state{fresh(), some()} {
		d := laid(t, 2, is)
		d.Fuse(0)
		s := opened(t, d, 2)
		for range 2 {
			says(t, "asked", s, 2, is)
			takes(t, "load", s, load(is.token, 1), api.OK, is.blocks[1].data, is.table(2))
			takes(t, "load", s, load(is.token, -1), api.OK, "", is.table(2))
		}
		if d.Dead() || len(d.Pending()) != 0 {
			t.Errorf("dead %v, pending %v", d.Dead(), d.Pending())
		}
		holds(t, "asked", d, 2, is)
	}
}

// P13.2: other messages aren't answered, and change nothing.
func TestTakeOfOtherKinds(t *testing.T) {
	is := some()
	d := laid(t, 2, is)
	s := opened(t, d, 2)
	for _, kind := range []int{math.MinInt, -12, -10, -1, 0, 1, 2, 3, 4, 5, 6, 7, 8, 9, 11, 13, 14, 15, 16, 30, 31, 255, 256 + 10, 256 + 12, 1<<32 + 10, 1<<32 + 12, math.MaxInt} {
		m := store(9, 9, 0, "12345678")
		m.Kind = kind
		refuses(t, "kind", s, m)
	}
	says(t, "kind", s, 2, is)
	holds(t, "kind", d, 2, is)
}

// P13.2: nor are those that may not be, whatever is wrong with them.
func TestTakeOfWhatMayNotBe(t *testing.T) {
	is := some()
	d := laid(t, 2, is)
	s := opened(t, d, 2)
	for _, change := range []func(m *api.Msg){
		func(m *api.Msg) { m.Epoch = -1 }, func(m *api.Msg) { m.Epoch = api.MaxNumber + 1 }, func(m *api.Msg) { m.Epoch = math.MinInt64 },
		func(m *api.Msg) { m.Seq = -1 }, func(m *api.Msg) { m.Seq = api.MaxNumber + 1 },
		func(m *api.Msg) { m.N = -api.MaxNumber - 1 }, func(m *api.Msg) { m.N = api.MaxNumber + 1 },
		func(m *api.Msg) { m.Block = -2 }, func(m *api.Msg) { m.Block = 32 }, func(m *api.Msg) { m.Block = 1 << 32 },
		func(m *api.Msg) { m.Client = -2 }, func(m *api.Msg) { m.Client = 4 }, func(m *api.Msg) { m.Client = math.MaxInt },
		func(m *api.Msg) { m.E = -1 }, func(m *api.Msg) { m.E = 32 },
		func(m *api.Msg) { m.T[0] = -1 }, func(m *api.Msg) { m.T[3] = api.MaxNumber + 1 },
		func(m *api.Msg) { m.Data = strings.Repeat("x", 41) }, func(m *api.Msg) { m.Row = strings.Repeat("x", 11) },
	} {
		for _, kind := range []int{api.MsgStore, api.MsgLoad} {
			for _, epoch := range []int64{5, 6, 9} {
				m := store(epoch, 9, 0, "12345678")
				m.Kind = kind
				change(&m)
				refuses(t, "may not be", s, m)
			}
		}
	}
	says(t, "may not be", s, 2, is)
	holds(t, "may not be", d, 2, is)
}

// P13.2: an answer has those parts of the message, whatever they are, and no others.
func TestAnswersParts(t *testing.T) {
	for _, n := range []int64{-api.MaxNumber, -1, 0, 1, 7, api.MaxNumber} {
		for block := -1; block < 32; block++ {
			for client := -1; client < 4; client++ {
				m := api.Msg{Kind: api.MsgLoad, Epoch: 6, Seq: max(n, 0), N: n, Block: block, Client: client, E: 31, T: [4]int64{7, 8, 9, 10}, Data: strings.Repeat("x", 40), Row: "row......."}
				is := some()
				s := opened(t, laid(t, 2, is), 2)
				switch {
				case block >= 2:
					takes(t, "load", s, m, api.ErrRange, "", none)
				case block < 0:
					takes(t, "load", s, m, api.OK, "", is.table(2))
				default:
					takes(t, "load", s, m, api.OK, is.blocks[block].data, is.table(2))
				}
				says(t, "load", s, 2, is)
				m.Kind = api.MsgStore
				if block < 0 || block >= 2 {
					takes(t, "store", s, m, api.ErrRange, "", none)
				} else {
					takes(t, "store", s, m, api.ErrSize, "", none)
				}
				says(t, "store", s, 2, is)
			}
		}
	}
}

// P13.2: an epoch below the token is refused, whatever else is wrong, and whatever could be told; nothing is changed, nor does the device do an act.
func TestElderToken(t *testing.T) {
	is := some()
	d := laid(t, 2, is)
	d.Fuse(0)
	s := opened(t, d, 2)
	for _, epoch := range []int64{0, 1, 4, 5} {
		for _, block := range []int{-1, 0, 1, 2, 31} {
			for _, data := range []string{"", "12345678", "123456789"} {
				m := store(epoch, api.MaxNumber, block, data)
				m.Client, m.N, m.T = 1, 99, [4]int64{99, 99, 99, 99}
				takes(t, "elder", s, m, api.ErrToken, "", none)
				m.Kind = api.MsgLoad
				takes(t, "elder", s, m, api.ErrToken, "", none)
			}
		}
	}
	says(t, "elder", s, 2, is)
	if d.Dead() {
		t.Error("elder: dead")
	}
	holds(t, "elder", d, 2, is)
}

// P13.2: an epoch above the token is the token from then on, in its cell first, even where an error comes behind that.
func TestGreaterToken(t *testing.T) {
	for _, epoch := range []int64{7, 8, 1000, api.MaxNumber} {
		for _, x := range []struct {
			m     api.Msg
			e     api.Errno
			data  string
			table bool
		}{
			{load(epoch, -1), api.OK, "", true},
			{load(epoch, 1), api.OK, "one.....", true},
			{load(epoch, 2), api.ErrRange, "", false},
			{store(epoch, 0, 2, "12345678"), api.ErrRange, "", false},
			{store(epoch, 0, -1, "12345678"), api.ErrRange, "", false},
			{store(epoch, 0, 0, "1234567"), api.ErrSize, "", false},
		} {
			is := some()
			d := laid(t, 2, is)
			d.Fuse(2)
			s := opened(t, d, 2)
			var table [4]int64
			if x.table {
				table = is.table(2)
			}
			for range 2 { // the second time it is the token, so that no act is needed
				takes(t, "greater", s, x.m, x.e, x.data, table)
			}
			is.token, is.gen = epoch, 5
			says(t, "greater", s, 2, is)
			holds(t, "greater", d, 2, is)
			takes(t, "greater", s, load(epoch-1, 0), api.ErrToken, "", none)
			d.Crash(nil)
			says(t, "crash", opened(t, d, 2), 2, is)
		}
	}
}

// P13.2: the token's cell lies ahead of the block's: a device that dies at one of the four acts has put none of both, or the token alone.
func TestDying(t *testing.T) {
	for fuse := range 5 {
		for _, keep := range [][]sector.Keep{nil, {{How: 1}}, {{How: 2, N: 6}}} {
			what := fmt.Sprint("fuse ", fuse, ", ", keep)
			is := some()
			d := laid(t, 2, is)
			s := opened(t, d, 2)
			d.Fuse(fuse)
			m := store(8, 3, 1, "newer...")
			m.Client, m.N, m.T = 0, 11, [4]int64{0, 0, 0, 12}
			token, both := is, is
			token.token, token.gen = 8, 5
			both = token
			both.blocks[1] = saved{api.Version{Epoch: 8, Seq: 3}, "newer...", [4]int64{11, 20, 3, 12}, 3}
			behind := is // what is there behind the crash
			if fuse >= 2 {
				is, behind = token, token
			}
			if fuse == 4 {
				is, behind = both, both
				takes(t, what, s, m, api.OK, "", none)
			} else {
				refuses(t, what, s, m)
				refuses(t, what, s, m)
			}
			says(t, what, s, 2, is)
			if keep != nil && keep[0].How == 1 && fuse == 1 {
				behind = token
			}
			if keep != nil && keep[0].How == 1 && fuse == 3 {
				behind = both
			}
			d.Crash(keep)
			s = opened(t, d, 2)
			says(t, what, s, 2, behind)
			holds(t, what, d, 2, behind)
			takes(t, what, s, m, api.OK, "", none)
			says(t, what, s, 2, both)
			holds(t, what, d, 2, both)
		}
	}
}

// P13.2: where the device is dead, what needs no act of it is answered as ever.
func TestDead(t *testing.T) {
	is := some()
	d := laid(t, 2, is)
	s := opened(t, d, 2)
	d.Fuse(0)
	refuses(t, "store", s, store(6, 3, 1, "newer..."))
	if !d.Dead() {
		t.Error("not dead")
	}
	takes(t, "load", s, load(6, 1), api.OK, "one.....", is.table(2))
	takes(t, "load", s, load(6, 2), api.ErrRange, "", none)
	takes(t, "load", s, load(5, 1), api.ErrToken, "", none)
	takes(t, "store", s, store(6, 2, 1, "newer..."), api.OK, "", none)
	refuses(t, "load", s, load(7, 1))
	refuses(t, "load", s, load(7, -1))
	refuses(t, "load", s, load(7, 2))
	refuses(t, "store", s, store(7, 0, 2, "newer..."))
	says(t, "dead", s, 2, is)
}

// P13.2: where the token's cell has no more generations, that is told of who would be let in by it, whatever else is wrong; the others are answered as ever.
func TestNoMoreTokens(t *testing.T) {
	is := some()
	is.gen = api.MaxNumber
	d := laid(t, 2, is)
	s := opened(t, d, 2)
	for _, m := range []api.Msg{load(7, -1), load(7, 0), load(7, 2), store(7, 1, 0, "12345678"), store(8, 1, 2, "12345678"), store(9, 1, 0, "1")} {
		takes(t, "above", s, m, api.ErrSeq, "", none)
	}
	says(t, "above", s, 2, is)
	takes(t, "below", s, load(5, 0), api.ErrToken, "", none)
	takes(t, "the same", s, load(6, 0), api.OK, "zero....", is.table(2))
	takes(t, "the same", s, store(6, 3, 1, "newer..."), api.OK, "", none)
	is.blocks[1] = saved{api.Version{Epoch: 6, Seq: 3}, "newer...", is.table(2), 3}
	says(t, "the same", s, 2, is)
	holds(t, "the same", d, 2, is)
}

// P13.2: where a block's cell has no more generations, that is told of what would be stored there, and the block stays; the token doesn't, and other blocks are stored.
func TestNoMoreStores(t *testing.T) {
	is := some()
	is.blocks[1].gen = api.MaxNumber
	d := laid(t, 2, is)
	s := opened(t, d, 2)
	takes(t, "not above", s, store(6, 2, 1, "newer..."), api.OK, "", none)
	takes(t, "wrong size", s, store(6, 3, 1, "newer"), api.ErrSize, "", none)
	m := store(7, 3, 1, "newer...")
	m.Client, m.N, m.T = 0, 99, [4]int64{99, 99, 99, 99}
	takes(t, "above", s, m, api.ErrSeq, "", none)
	takes(t, "again", s, m, api.ErrSeq, "", none)
	is.token, is.gen = 7, 5
	says(t, "above", s, 2, is)
	holds(t, "above", d, 2, is)
	takes(t, "the other one", s, store(7, 1, 0, "newer..."), api.OK, "", none)
	is.blocks[0] = saved{api.Version{Epoch: 7, Seq: 1}, "newer...", is.table(2), 8}
	says(t, "the other one", s, 2, is)
	holds(t, "the other one", d, 2, is)
}

// P13.2: only bytes as many as a block has are stored.
func TestStoreOfWrongSize(t *testing.T) {
	is := some()
	d := laid(t, 2, is)
	s := opened(t, d, 2)
	for n := range 41 {
		for _, seq := range []int64{0, 2, 3} {
			if n != 8 {
				takes(t, fmt.Sprint(n, " bytes"), s, store(6, seq, 1, strings.Repeat("x", n)), api.ErrSize, "", none)
			}
			for _, block := range []int{-1, 2, 31} {
				takes(t, fmt.Sprint(n, " bytes"), s, store(6, seq, block, strings.Repeat("x", n)), api.ErrRange, "", none)
			}
		}
	}
	says(t, "sizes", s, 2, is)
	holds(t, "sizes", d, 2, is)
}

// P13.2: of two versions the later one is kept: by the epoch first, then by the number.
func TestVersions(t *testing.T) {
	edges := []int64{0, 1, 2, 9, 10, api.MaxNumber - 1, api.MaxNumber}
	for _, epoch := range edges {
		for _, seq := range edges {
			is := fresh()
			is.token, is.gen = epoch, 1
			is.blocks[1] = saved{api.Version{Epoch: 9, Seq: 9}, "before..", [4]int64{1, 1, 1, 1}, 5}
			d := laid(t, 2, is)
			s := opened(t, d, 2)
			m := store(epoch, seq, 1, "behind..")
			m.Client, m.N, m.T = 2, 8, [4]int64{7, 0, 0, 0}
			for range 2 {
				takes(t, "version", s, m, api.OK, "", none)
			}
			if epoch > 9 || epoch == 9 && seq > 9 {
				is.blocks[1] = saved{api.Version{Epoch: epoch, Seq: seq}, "behind..", [4]int64{7, 1, 8, 1}, 6}
			}
			says(t, fmt.Sprint(epoch, " ", seq), s, 2, is)
			holds(t, fmt.Sprint(epoch, " ", seq), d, 2, is)
		}
	}
}

// P13.2: a block that was never stored has the version 0, 0.
func TestFirstStore(t *testing.T) {
	d, is := sector.New(sectorsOf(3)), fresh()
	s := opened(t, d, 3)
	m := store(0, 0, 2, "12345678")
	m.Client, m.N, m.T = 1, 5, [4]int64{1, 1, 1, 1}
	takes(t, "version 0, 0", s, m, api.OK, "", none)
	says(t, "version 0, 0", s, 3, is)
	holds(t, "version 0, 0", d, 3, is)
	m.Seq = 1
	takes(t, "version 0, 1", s, m, api.OK, "", none)
	is.blocks[2] = saved{api.Version{Epoch: 0, Seq: 1}, "12345678", [4]int64{1, 5, 1, 1}, 1}
	says(t, "version 0, 1", s, 3, is)
	holds(t, "version 0, 1", d, 3, is)
}

// P13.2: each client's number is the greatest one of what it was, of the message's, and of the call's; of what isn't stored nothing is taken.
func TestTableOfStore(t *testing.T) {
	edges := []int64{0, 4, 5, 6, api.MaxNumber}
	for client := range 4 {
		for _, was := range edges {
			for _, told := range edges {
				for _, n := range append([]int64{-1, -6, -api.MaxNumber}, edges...) {
					for _, of := range []int{-1, 0, 1, 2, 3} {
						is := fresh()
						is.blocks[0] = saved{api.Version{Epoch: 0, Seq: 1}, "12345678", none, 1}
						is.blocks[0].t[client] = was
						s := opened(t, laid(t, 2, is), 2)
						m := store(0, 1, 1, "abcdefgh")
						m.N, m.Client = n, of
						m.T[client] = told
						takes(t, "table", s, m, api.OK, "", none)
						w := none
						w[client] = max(was, told)
						if of >= 0 {
							w[of] = max(w[of], n)
						}
						if got := s.Table(); got != w {
							t.Errorf("client %d: %d, %d; call %d of %d: %v, not %v", client, was, told, n, of, got, w)
						}
						m.Block = 0
						m.T = [4]int64{api.MaxNumber, api.MaxNumber, api.MaxNumber, api.MaxNumber}
						takes(t, "not above", s, m, api.OK, "", none)
						if got := s.Table(); got != w {
							t.Errorf("not above: %v, not %v", got, w)
						}
					}
				}
			}
		}
	}
}

// P13.2: a cell that alone told a client's number is put with it, so that the table never goes down.
func TestTableStays(t *testing.T) {
	d := sector.New(sectorsOf(2))
	s := opened(t, d, 2)
	m := store(1, 1, 0, "first...")
	m.Client, m.N = 3, 40
	takes(t, "first", s, m, api.OK, "", none)
	takes(t, "second", s, store(1, 2, 0, "second.."), api.OK, "", none)
	d.Crash(nil)
	s = opened(t, d, 2)
	takes(t, "third", s, store(1, 3, 0, "third..."), api.OK, "", none)
	takes(t, "table", s, load(1, -1), api.OK, "", [4]int64{0, 0, 0, 40})
	d.Crash(nil)
	if got := opened(t, d, 2).Table(); got != [4]int64{0, 0, 0, 40} {
		t.Errorf("%v", got)
	}
}

// P13.2: the bytes that cells have, and the sectors that they lie in.
func TestSectors(t *testing.T) {
	d := sector.New(9)
	s, e := Open(d, 2, 2)
	want(t, "Open", e, api.OK)
	m := store(2, 300, 1, "abcdefgh")
	m.Client, m.N, m.T = 1, 5, [4]int64{1, 2, 3, 4}
	takes(t, "store", s, m, api.OK, "", none)
	for i, text := range map[int]string{2: "\x1f\x01\x04", 6: "\x1e\x16\x04\xd8\x04\x02\x0a\x06\x08\x08abcdefgh"} {
		b, e := d.Read(i)
		want(t, "Read", e, api.OK)
		if slot := cell.Slot(1, text); string(b[:len(slot)]) != string(slot) {
			t.Errorf("sector %d: %q, not %q", i, b, slot)
		}
	}
	m.Seq, m.Data = 301, "ABCDEFGH"
	takes(t, "store", s, m, api.OK, "", none)
	takes(t, "load", s, load(3, -1), api.OK, "", [4]int64{1, 5, 3, 4})
	for i := range 9 {
		b, e := d.Read(i)
		want(t, "Read", e, api.OK)
		if is := b[4] != 0; is != slices.Contains([]int{2, 3, 6, 7}, i) {
			t.Errorf("sector %d: %q", i, b)
		}
	}
}

// P13.3: what was stored with OK stays, behind any crash, till a later version comes; the token doesn't go down.
func TestStays(t *testing.T) {
	for _, keep := range []sector.Keep{{}, {How: 1}, {How: 2, N: 9}} {
		d := sector.New(sectorsOf(2))
		s := opened(t, d, 2)
		takes(t, "store", s, store(4, 4, 0, "stays..."), api.OK, "", none)
		for fuse := range 4 {
			d.Fuse(fuse)
			refuses(t, "dying", s, store(5+int64(fuse), 1, 1, "else...."))
			d.Crash([]sector.Keep{keep})
			token := s.Token()
			s = opened(t, d, 2)
			if v, data := s.Get(0); v != (api.Version{Epoch: 4, Seq: 4}) || data != "stays..." {
				t.Errorf("%v, %q", v, data)
			}
			if s.Token() < token || s.Token() < 4 {
				t.Errorf("token %d behind %d", s.Token(), token)
			}
		}
		takes(t, "elder", s, store(4, 9, 0, "elder..."), api.ErrToken, "", none)
		takes(t, "load", s, load(99, 0), api.OK, "stays...", s.Table())
		takes(t, "store", s, store(99, 0, 0, "later..."), api.OK, "", none)
		d.Crash([]sector.Keep{keep})
		if v, data := opened(t, d, 2).Get(0); v != (api.Version{Epoch: 99}) || data != "later..." {
			t.Errorf("%v, %q", v, data)
		}
	}
}

// P13.3: what is torn of a store that was under way leaves the block as it was, or has it whole.
func TestTornAnywhere(t *testing.T) {
	for n := range api.SectorSize + 1 {
		is := some()
		d := laid(t, 2, is)
		s := opened(t, d, 2)
		d.Fuse(1)
		refuses(t, "torn", s, store(6, 3, 1, "newer..."))
		d.Crash([]sector.Keep{{How: 2, N: n}})
		b := is.blocks[1]
		b.v.Seq, b.data, b.t, b.gen = 3, "newer...", is.table(2), 3
		if n >= len(cell.Slot(3, bytesOf(t, blockRec(b)))) {
			is.blocks[1] = b
		}
		says(t, fmt.Sprint(n, " bytes"), opened(t, d, 2), 2, is)
		holds(t, fmt.Sprint(n, " bytes"), d, 2, is)
	}
}

// R5: stores know nothing of each other but by the device.
func TestManyStores(t *testing.T) {
	d := sector.New(14)
	a, e := Open(d, 0, 1)
	want(t, "a", e, api.OK)
	b, e := Open(d, 4, 4)
	want(t, "b", e, api.OK)
	other, e := Open(sector.New(14), 0, 1)
	want(t, "other", e, api.OK)
	takes(t, "a", a, store(9, 1, 0, "of a...."), api.OK, "", none)
	takes(t, "b", b, store(2, 1, 0, "of b...."), api.OK, "", none)
	takes(t, "b", b, store(2, 1, 3, "last...."), api.OK, "", none)
	d.Crash(nil)
	a, e = Open(d, 0, 1)
	want(t, "a", e, api.OK)
	b, e = Open(d, 4, 4)
	want(t, "b", e, api.OK)
	takes(t, "a", a, load(9, 0), api.OK, "of a....", none)
	takes(t, "b", b, load(2, 0), api.OK, "of b....", none)
	takes(t, "b", b, load(2, 3), api.OK, "last....", none)
	takes(t, "other", other, load(0, 0), api.OK, zeros, none)
	if a.Token() != 9 || b.Token() != 2 || other.Token() != 0 {
		t.Errorf("%d, %d, %d", a.Token(), b.Token(), other.Token())
	}
}

// R3: what is told is the caller's, and what was handed in stays.
func TestAnswersAreNew(t *testing.T) {
	is := some()
	s := opened(t, laid(t, 2, is), 2)
	table := s.Table()
	table[0] = 999
	m := store(6, 3, 1, "newer...")
	m.T = [4]int64{1, 1, 1, 99}
	was := m
	a, _ := s.Take(m)
	a.T[2] = 999
	m.T[3] = 999
	if got := s.Table(); got != [4]int64{10, 20, 3, 99} {
		t.Errorf("%v", got)
	}
	m.T[3] = 99
	if m != was {
		t.Errorf("%v, not %v", m, was)
	}
}
