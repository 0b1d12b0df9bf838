package mirror

import (
	"fmt"
	"math"
	"math/big"
	"runtime"
	"slices"
	"strings"
	"testing"

	"seisin/api"
)

// P15.2: what is done with an item is a constant of no type.
const (
	_ uint8   = Nothing
	_ int64   = Take
	_ float32 = Had
)

// item tells an item of a block, in which nothing is 0.
func item(block int) api.Item {
	return api.Item{Seq: 99, Block: block, Data: fmt.Sprint("data ", block), Client: block % 4, N: int64(block) + 1000}
}

// numbered tells an item as it is when it has a number.
func numbered(x api.Item, seq int64) api.Item {
	x.Seq = seq
	return x
}

// checks checks a sender by all that it tells.
func checks(t testing.TB, what string, s *Sender, acked int64, left ...api.Item) {
	t.Helper()
	for range 2 {
		if s.Acked() != acked || s.Last() != acked+int64(len(left)) {
			t.Errorf("%s: Acked %d, Last %d, not %d, and %d more", what, s.Acked(), s.Last(), acked, len(left))
		}
		if l := s.Left(); !slices.Equal(l, left) {
			t.Errorf("%s: %d left, not %d: %.300s", what, len(l), len(left), fmt.Sprint(l))
		}
	}
}

// wantAdd checks that an item is laid behind the others.
func wantAdd(t testing.TB, s *Sender, x api.Item, w int64) {
	t.Helper()
	if n, e := s.Add(x); n != w || e != api.OK {
		t.Errorf("Add(%v): %d, %d, not %d", x, n, e, w)
	}
}

// wantNoAdd checks that no item is.
func wantNoAdd(t testing.TB, s *Sender, x api.Item) {
	t.Helper()
	if n, e := s.Add(x); n != 0 || e != api.ErrSeq {
		t.Errorf("Add(%v): %d, %d, not ErrSeq", x, n, e)
	}
}

// wantAck checks whether a number tells that items were taken.
func wantAck(t testing.TB, s *Sender, seq int64, is bool) {
	t.Helper()
	if ok := s.Ack(seq); ok != is {
		t.Errorf("Ack(%d): %v (Acked %d, Last %d)", seq, ok, s.Acked(), s.Last())
	}
}

// made makes a sender of so many items, and tells them.
func made(t testing.TB, base int64, n int) (*Sender, []api.Item) {
	t.Helper()
	s := New(base)
	var l []api.Item
	for i := range n {
		seq := base + 1 + int64(i)
		wantAdd(t, s, item(i), seq)
		l = append(l, numbered(item(i), seq))
	}
	return s, l
}

// someBases tells bases, from the least to the greatest one.
func someBases() []int64 {
	return []int64{0, 1, 2, 4, 255, 1 << 31, 1 << 32, 1<<32 + 1, api.MaxNumber - 12, api.MaxNumber - 11}
}

// farOff tells numbers that are far from those of any item in these tests.
func farOff() []int64 {
	return []int64{math.MinInt64, math.MinInt64 + 1, -api.MaxNumber - 1, -api.MaxNumber, -1 << 32, -1, 0, api.MaxNumber + 1, api.MaxNumber + 2, math.MaxInt64 - 1, math.MaxInt64}
}

// P15.1: a new sender has no items, and stands where its base is, as far as that is a number.
func TestNew(t *testing.T) {
	for _, x := range []struct{ base, is int64 }{
		{0, 0}, {1, 1}, {2, 2}, {7, 7}, {1 << 32, 1 << 32}, {1<<32 + 3, 1<<32 + 3},
		{api.MaxNumber - 1, api.MaxNumber - 1}, {api.MaxNumber, api.MaxNumber},
		{api.MaxNumber + 1, api.MaxNumber}, {api.MaxNumber + 2, api.MaxNumber}, {math.MaxInt64, api.MaxNumber}, {math.MaxInt64 - 1, api.MaxNumber},
		{-1, 0}, {-2, 0}, {-3, 0}, {-1 << 32, 0}, {-api.MaxNumber, 0}, {math.MinInt64, 0}, {math.MinInt64 + 1, 0},
	} {
		s := New(x.base)
		checks(t, fmt.Sprint("New ", x.base), s, x.is)
		for _, seq := range append(farOff(), x.is-1, x.is, x.is+1, x.base) {
			wantAck(t, s, seq, false)
		}
		checks(t, fmt.Sprint("New, behind Ack ", x.base), s, x.is)
	}
}

// P15.1: below 0 a sender goes on from 0, above the greatest number not at all.
func TestNewGoesOn(t *testing.T) {
	for _, base := range []int64{-1, -3, math.MinInt64} {
		s := New(base)
		wantAdd(t, s, item(5), 1)
		checks(t, fmt.Sprint(base), s, 0, numbered(item(5), 1))
	}
	for _, base := range []int64{api.MaxNumber, api.MaxNumber + 1, math.MaxInt64} {
		s := New(base)
		wantNoAdd(t, s, item(5))
		checks(t, fmt.Sprint(base), s, api.MaxNumber)
	}
}

// P15.1: items are numbered one behind the other from the base on, whatever Seq they come with.
func TestAdd(t *testing.T) {
	for _, base := range someBases() {
		s, l := made(t, base, 5)
		checks(t, fmt.Sprint("from ", base), s, base, l...)
		for _, seq := range append(farOff(), base, base+1, base+6) {
			w := s.Last() + 1
			x := numbered(item(7), seq)
			if w > api.MaxNumber {
				break
			}
			wantAdd(t, s, x, w)
			l = append(l, numbered(x, w))
		}
		checks(t, fmt.Sprint("with any Seq, from ", base), s, base, l...)
	}
}

// P15.1: an item is carried as it is, whatever it says.
func TestAddAny(t *testing.T) {
	var l []api.Item
	s := New(3)
	for i, x := range []api.Item{
		{}, {Block: -1, Client: -1}, {Block: -5, Data: "12345678", Client: -7, N: -9}, {Block: api.MaxBlocks, Client: api.MaxClients},
		{Block: math.MaxInt, Client: math.MinInt, N: math.MinInt64}, {Block: math.MinInt, Client: math.MaxInt, N: math.MaxInt64},
		{Data: "\x00\xff\x80 any"}, {Data: strings.Repeat("long", 1<<16)}, {}, {N: api.MaxNumber + 1},
	} {
		wantAdd(t, s, x, 4+int64(i))
		l = append(l, numbered(x, 4+int64(i)))
	}
	checks(t, "any items", s, 3, l...)
}

// P15.1: the last number is MaxNumber; behind it there is none, and the sender stays as it was, also when all were taken.
func TestAddFull(t *testing.T) {
	for room := range 4 {
		base := int64(api.MaxNumber) - int64(room)
		s, l := made(t, base, room)
		for k := range room + 1 {
			for range 3 {
				wantNoAdd(t, s, item(9))
				wantNoAdd(t, s, api.Item{})
			}
			checks(t, fmt.Sprint("room ", room, ", taken ", k), s, base+int64(k), l[k:]...)
			for _, seq := range append(farOff(), base, base+int64(k)) {
				wantAck(t, s, seq, false)
			}
			wantAck(t, s, base+int64(k)+1, k < room)
		}
	}
}

// P15.1: a number above Acked and at most Last is taken as it is, no other one.
func TestAck(t *testing.T) {
	const n = 6
	for _, base := range someBases() {
		for from := range int64(n + 1) {
			for seq := base - 3; seq <= base+n+3; seq++ {
				s, l := made(t, base, n)
				if from > 0 {
					wantAck(t, s, base+from, true)
				}
				is := seq > base+from && seq <= base+n
				acked := base + from
				if is {
					acked = seq
				}
				for range 2 {
					wantAck(t, s, seq, is)
					checks(t, fmt.Sprintf("from %d, at %d, Ack(%d)", base, from, seq), s, acked, l[acked-base:]...)
					is = false // a number that was told once is told no more
				}
				wantAdd(t, s, item(8), base+n+1)
				l = append(l, numbered(item(8), base+n+1))
				checks(t, fmt.Sprintf("from %d, at %d, behind Ack(%d)", base, from, seq), s, acked, l[acked-base:]...)
			}
		}
		s, l := made(t, base, n)
		for _, seq := range append(farOff(), base+1<<32, base-1<<32, base+1<<32+1) {
			wantAck(t, s, seq, false)
		}
		checks(t, "numbers that are far off", s, base, l...)
	}
}

// P15.1: items go one by one, while others come.
func TestAckGoesOn(t *testing.T) {
	s, l := made(t, 10, 3)
	for k := range int64(40) {
		wantAck(t, s, 11+k, true)
		wantAck(t, s, 11+k, false)
		wantAck(t, s, 14+k, false)
		wantAdd(t, s, item(int(k)), 14+k)
		l = append(l[1:], numbered(item(int(k)), 14+k))
		checks(t, fmt.Sprint("number ", k), s, 11+k, l...)
	}
	wantAck(t, s, 53, true)
	checks(t, "all were taken", s, 53)
	wantAdd(t, s, item(1), 54)
	checks(t, "one more", s, 53, numbered(item(1), 54))
}

// R3: what Left tells is a list of its own, for whoever asks.
func TestLeftIsACopy(t *testing.T) {
	s, l := made(t, 4, 5)
	first, second := s.Left(), s.Left()
	for i := range first {
		first[i] = api.Item{Seq: -1, Data: "written over"}
	}
	if !slices.Equal(second, l) {
		t.Errorf("the second list is %v", second)
	}
	checks(t, "a list was written over", s, 4, l...)
	_ = append(second[:2], api.Item{Seq: -2})
	_ = append(s.Left(), api.Item{Seq: -3})
	checks(t, "a list was written behind", s, 4, l...)

	was := s.Left()
	wantAdd(t, s, item(5), 10)
	wantAck(t, s, 7, true)
	wantAdd(t, s, item(6), 11)
	if !slices.Equal(was, l) {
		t.Errorf("a list that was told ahead of it is %v", was)
	}
	rest := s.Left()
	wantAck(t, s, 11, true)
	wantAdd(t, s, item(7), 12)
	if w := append(l[3:], numbered(item(5), 10), numbered(item(6), 11)); !slices.Equal(rest, w) {
		t.Errorf("a list that was told ahead of the second Ack is %v, not %v", rest, w)
	}
	checks(t, "afterwards", s, 11, numbered(item(7), 12))
}

// R4, R5: a sender is its own.
func TestSenders(t *testing.T) {
	a, l := made(t, 0, 4)
	b, m := made(t, 2, 3)
	wantAck(t, a, 3, true)
	checks(t, "the first one", a, 3, l[3:]...)
	checks(t, "the second one", b, 2, m...)
	wantAck(t, b, 5, true)
	wantAdd(t, a, item(9), 5)
	checks(t, "the first one", a, 3, l[3], numbered(item(9), 5))
	checks(t, "the second one", b, 5)
	checks(t, "a new one", New(0), 0)
}

// R1: many items, which are taken one by one, or all at once.
func TestMany(t *testing.T) {
	const n = 1 << 20
	for _, step := range []int64{1, 7, n} {
		s := New(0)
		for i := range int64(n) {
			if seq, e := s.Add(api.Item{Block: int(i)}); seq != i+1 || e != api.OK {
				t.Fatalf("Add: %d, %d, not %d", seq, e, i+1)
			}
		}
		for seq := step; seq <= n; seq += step {
			if !s.Ack(seq) || s.Acked() != seq || s.Last() != n {
				t.Fatalf("Ack(%d): Acked %d, Last %d", seq, s.Acked(), s.Last())
			}
		}
		if l := s.Left(); int64(len(l)) != n%step || len(l) > 0 && l[0] != (api.Item{Seq: n - n%step + 1, Block: int(n - n%step)}) {
			t.Errorf("by %d: %d left", step, len(l))
		}
	}
}

// held tells how many bytes are in use.
func held() int64 {
	var m runtime.MemStats
	runtime.GC()
	runtime.ReadMemStats(&m)
	return int64(m.HeapAlloc)
}

// R5: of what was taken nothing is kept, though others wait behind it.
func TestTakenIsLetGo(t *testing.T) {
	const n, size = 64, 1 << 20
	s := New(0)
	was := held()
	for i := range n {
		s.Add(api.Item{Data: strings.Repeat("x", size+i)})
	}
	if more := held() - was; more < n*size {
		t.Errorf("%d bytes are held for %d items that wait", more, n)
	}
	wantAck(t, s, n-1, true)
	if more := held() - was; more > size*3/2 {
		t.Errorf("%d bytes are held for one item that waits", more)
	}
	if l := s.Left(); len(l) != 1 || len(l[0].Data) != size+n-1 {
		t.Errorf("%d left", len(l))
	}
}

// P15.2: what is done with an item has these numbers.
func TestNumbers(t *testing.T) {
	if got := [...]int{Nothing, Take, Had}; got != [...]int{0, 1, 2} {
		t.Errorf("Nothing, Take, Had are %v", got)
	}
}

// wantNext checks what is done with an item.
func wantNext(t testing.TB, last api.Version, epoch, seq int64, w int) {
	t.Helper()
	if got := Next(last, epoch, seq); got != w {
		t.Errorf("Next(%v, %d, %d): %d, not %d", last, epoch, seq, got, w)
	}
}

// P15.2: the chapter's examples, and the edges.
func TestNext(t *testing.T) {
	v := api.Version{Epoch: 2, Seq: 5}
	most := api.Version{Epoch: api.MaxNumber, Seq: api.MaxNumber}
	for _, x := range []struct {
		last       api.Version
		epoch, seq int64
		w          int
	}{
		{v, 2, 5, Had}, {v, 2, 6, Take}, {v, 2, 7, Nothing}, {v, 3, 1, Take}, {v, 3, 2, Nothing}, {v, 1, 6, Nothing},
		{v, 2, 1, Had}, {v, 2, 4, Had}, {v, 2, 0, Had}, {v, 2, -1, Had}, {v, 2, 8, Nothing}, {v, 2, api.MaxNumber, Nothing},
		{v, 1, 0, Nothing}, {v, 1, 1, Nothing}, {v, 1, 4, Nothing}, {v, 1, 5, Nothing}, {v, 0, 1, Nothing}, {v, -1, 1, Nothing},
		{v, 3, 0, Nothing}, {v, 3, -1, Nothing}, {v, 3, 5, Nothing}, {v, 3, 6, Nothing}, {v, 4, 1, Take}, {v, 4, 2, Nothing}, {v, api.MaxNumber, 1, Take},
		{api.Version{}, 0, 0, Had}, {api.Version{}, 0, 1, Take}, {api.Version{}, 0, 2, Nothing}, {api.Version{}, 1, 1, Take}, {api.Version{}, 1, 0, Nothing}, {api.Version{}, 1, 2, Nothing},
		{most, api.MaxNumber, api.MaxNumber, Had}, {most, api.MaxNumber, 1, Had}, {most, api.MaxNumber, api.MaxNumber + 1, Take}, {most, api.MaxNumber - 1, 1, Nothing}, {most, api.MaxNumber + 1, 1, Take},
		{api.Version{Epoch: 2, Seq: math.MaxInt64}, 2, math.MinInt64, Had}, {api.Version{Epoch: 2, Seq: math.MaxInt64}, 2, math.MaxInt64, Had},
		{api.Version{Epoch: 2, Seq: math.MinInt64}, 2, math.MaxInt64, Nothing}, {api.Version{Epoch: 2, Seq: math.MinInt64}, 2, math.MinInt64 + 1, Take},
		{api.Version{Epoch: math.MinInt64, Seq: 5}, math.MaxInt64, 1, Take}, {api.Version{Epoch: math.MaxInt64, Seq: 5}, math.MinInt64, 1, Nothing}, {api.Version{Epoch: math.MaxInt64, Seq: 5}, math.MinInt64, 6, Nothing},
	} {
		wantNext(t, x.last, x.epoch, x.seq, x.w)
	}
}

// nextOf tells, by the chapter's words and by numbers of any size, what is done with an item.
func nextOf(last api.Version, epoch, seq int64) int {
	oneMore := new(big.Int).Add(big.NewInt(last.Seq), big.NewInt(1))
	switch big.NewInt(epoch).Cmp(big.NewInt(last.Epoch)) {
	case -1:
		return 0
	case 0:
		switch {
		case big.NewInt(seq).Cmp(big.NewInt(last.Seq)) <= 0:
			return 2
		case big.NewInt(seq).Cmp(oneMore) == 0:
			return 1
		}
		return 0
	}
	if seq == 1 {
		return 1
	}
	return 0
}

// P15.2, R1: all small numbers, and those at the edges, held against the words.
func TestNextAll(t *testing.T) {
	some := []int64{math.MinInt64, math.MinInt64 + 1, -api.MaxNumber, -1 << 32, -2, -1, 0, 1, 2, 3, 4, 1<<32 - 1, 1 << 32, 1<<32 + 1, 1<<32 + 2, api.MaxNumber - 1, api.MaxNumber, api.MaxNumber + 1, math.MaxInt64 - 1, math.MaxInt64}
	for _, lastEpoch := range some {
		for _, lastSeq := range some {
			for _, epoch := range some {
				for _, seq := range some {
					last := api.Version{Epoch: lastEpoch, Seq: lastSeq}
					wantNext(t, last, epoch, seq, nextOf(last, epoch, seq))
				}
			}
		}
	}
}
