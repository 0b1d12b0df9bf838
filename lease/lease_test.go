package lease

import (
	"fmt"
	"math"
	"math/big"
	"math/rand"
	"slices"
	"strings"
	"testing"

	"seisin/api"
)

// never stands for a drift by which no clocks go.
const never = 1000

// rowOf tells ticks, of which each a is one of the first clock's.
func rowOf(s string) []bool {
	var l []bool
	for _, c := range s {
		l = append(l, c == 'a')
	}
	return l
}

// textOf tells ticks as a text.
func textOf(l []bool) string {
	s := ""
	for _, t := range l {
		s += map[bool]string{true: "a", false: "b"}[t]
	}
	return s
}

// otherWay tells ticks as if the first clock's were the second one's.
func otherWay(l []bool) []bool {
	var o []bool
	for _, t := range l {
		o = append(o, !t)
	}
	return o
}

// allRows tells all rows of so many ticks.
func allRows(n int) [][]bool {
	var rows [][]bool
	for x := range 1 << n {
		var l []bool
		for i := range n {
			l = append(l, x>>i&1 == 1)
		}
		rows = append(rows, l)
	}
	return rows
}

// keepUp tells, by the chapter's words, whether a ticks of one clock may come while another one ticks b times.
func keepUp(a, b, d int64) bool {
	return a*(1000-d) <= (b+1)*(1000+d)
}

// together tells what Together should tell, from each time to each later one.
func together(ticks []bool, d int64) bool {
	for i := range ticks {
		var count [2]int64
		for _, t := range ticks[i:] {
			if t {
				count[0]++
			} else {
				count[1]++
			}
			if !keepUp(count[0], count[1], d) || !keepUp(count[1], count[0], d) {
				return false
			}
		}
	}
	return d >= 0 && d <= 999
}

// leastDrift tells the least drift by which ticks go together; never, if there is none.
func leastDrift(ticks []bool) int64 {
	for d := range int64(never) {
		if together(ticks, d) {
			return d
		}
	}
	return never
}

// driftRow tells ticks of two clocks that go together by d, and of which the first one, or the second one, goes as far ahead as it may.
func driftRow(n int, first bool, d int64) []bool {
	var l []bool
	for range n {
		if l = append(l, first); !together(l, d) {
			l[len(l)-1] = !first
		}
	}
	return l
}

// randomRow tells ticks of two clocks that go together by d.
func randomRow(r *rand.Rand, n int, d int64) []bool {
	var l []bool
	bias := r.Float64()
	for range n {
		t := r.Float64() < bias
		if l = append(l, t); !together(l, d) {
			l[len(l)-1] = !t
		}
	}
	return l
}

// someDrifts tells drifts, the least and the greatest among them.
func someDrifts() []int64 {
	return []int64{0, 1, 2, 10, 99, 100, 101, 250, 333, 334, 499, 500, 501, 666, 667, 750, 900, 990, 997, 998, 999}
}

// noDrifts tells numbers that are no drift.
func noDrifts() []int64 {
	return []int64{-1, -2, -999, -1000, -1001, 1000, 1001, 1999, 2000, 1 << 16, 1 << 31, 1 << 32, 1<<32 + 1, -1 << 32, 1<<62 + 500, math.MaxInt64, math.MaxInt64 - 1, math.MinInt64, math.MinInt64 + 1}
}

// noCounts tells numbers for which one may not wait.
func noCounts() []int64 {
	return []int64{-1, -2, -10, -1 << 31, -1 << 32, -1 << 40, 1<<40 + 1, 1<<40 + 2, 1 << 41, 1 << 62, math.MaxInt64, math.MaxInt64 - 1, math.MinInt64, math.MinInt64 + 1}
}

// wantWait checks how long to wait.
func wantWait(t testing.TB, n, d, w int64) {
	t.Helper()
	if got, e := Wait(n, d); got != w || e != api.OK {
		t.Errorf("Wait(%d, %d) = %d, %d, not %d", n, d, got, e, w)
	}
}

// wantNoWait checks that one may not wait.
func wantNoWait(t testing.TB, n, d int64) {
	t.Helper()
	if got, e := Wait(n, d); got != 0 || e != api.ErrArg {
		t.Errorf("Wait(%d, %d) = %d, %d, not ErrArg", n, d, got, e)
	}
}

// wantTogether checks whether ticks go together, either way round.
func wantTogether(t testing.TB, ticks []bool, d int64, is bool) {
	t.Helper()
	for _, l := range [][]bool{ticks, otherWay(ticks)} {
		if got := Together(l, d); got != is {
			t.Errorf("Together(%.80s of %d, %d) = %v", textOf(l[:min(len(l), 80)]), len(l), d, got)
		}
	}
}

// waitOf tells how long to wait, by numbers of any size.
func waitOf(n, d int64) int64 {
	x := new(big.Int).Mul(big.NewInt(n), big.NewInt(1000+d))
	x.Quo(x, big.NewInt(1000-d))
	return x.Int64() + 1
}

// P12.1: the chapter's examples, and the edges.
func TestWait(t *testing.T) {
	for _, c := range []struct{ n, d, w int64 }{
		{10, 0, 11}, {10, 100, 13}, {0, 500, 1}, {10, 999, 19991},
		{0, 0, 1}, {0, 999, 1}, {1, 0, 2}, {1, 1, 2}, {1, 333, 2}, {1, 334, 3}, {1, 500, 4}, {1, 999, 2000},
		{9, 100, 12}, {18, 100, 23}, {499, 1, 500}, {500, 1, 502}, {999, 1, 1001 + 1},
		{1 << 40, 0, 1<<40 + 1}, {1 << 40, 500, 3<<40 + 1}, {1 << 40, 999, 1999<<40 + 1}, {1<<40 - 1, 999, 1999<<40 - 1998},
	} {
		wantWait(t, c.n, c.d, c.w)
	}
}

// P12.1: all drifts, with small and great numbers, held against numbers of any size.
func TestWaitAll(t *testing.T) {
	r := rand.New(rand.NewSource(1))
	for d := range int64(1000) {
		for n := range int64(120) {
			wantWait(t, n, d, waitOf(n, d))
		}
		for shift := range 41 {
			for _, n := range []int64{1 << shift, 1<<shift - 1, r.Int63n(1<<shift) + 1} {
				wantWait(t, n, d, waitOf(n, d))
			}
		}
	}
}

// P12.1: for what there is no waiting.
func TestWaitWrong(t *testing.T) {
	for _, n := range noCounts() {
		for _, d := range append(noDrifts(), 0, 1, 500, 998, 999) {
			wantNoWait(t, n, d)
		}
	}
	for _, d := range noDrifts() {
		for _, n := range []int64{0, 1, 2, 10, 1 << 20, 1<<40 - 1, 1 << 40} {
			wantNoWait(t, n, d)
		}
	}
}

// P12.2: the words' example, and ordinary rows.
func TestTogether(t *testing.T) {
	for _, c := range []struct {
		s  string
		d  int64
		is bool
	}{
		{"aa", 334, true}, {"aa", 333, false},
		{"a", 0, true}, {"ab", 0, true}, {"ba", 0, true}, {"aa", 0, false},
		{"abab", 0, true}, {"abba", 0, false}, {"abbab", 0, false}, {"ababb", 0, false}, {"aabab", 0, false},
		{"aaa", 499, false}, {"aaa", 500, true}, {"aaaa", 599, false}, {"aaaa", 600, true},
		{"aab", 333, false}, {"aab", 334, true}, {"baab", 334, true}, {"abaab", 333, false},
		{"aaba", 333, false}, {"aaba", 334, true},
		{"aabaa", 333, false}, {"aabaa", 334, true}, {"aabaabaa", 333, false}, {"aabaabaa", 334, true}, {"aabaaaba", 500, true}, {"aabaaaba", 499, false},
		{"aaabbb", 500, true}, {"aaabbb", 499, false}, {"aabbb", 499, false}, {"aaabb", 499, false},
		{strings.Repeat("a", 1999), 999, true}, {strings.Repeat("a", 1999), 998, false}, {strings.Repeat("a", 2000), 999, false},
		{strings.Repeat("ab", 50) + "b" + strings.Repeat("ab", 50), 333, false}, {strings.Repeat("ab", 50) + "b" + strings.Repeat("ab", 50), 334, true},
	} {
		wantTogether(t, rowOf(c.s), c.d, c.is)
	}
}

// P12.2: no ticks at all, an empty list and none, go together by any drift.
func TestTogetherEmpty(t *testing.T) {
	for d := range int64(1000) {
		for _, l := range [][]bool{nil, {}, {true}, {false}} {
			wantTogether(t, l, d, true)
		}
	}
}

// P12.2: by what is no drift, nothing goes together.
func TestTogetherWrong(t *testing.T) {
	for _, d := range noDrifts() {
		for _, s := range []string{"", "a", "ab", "abab", "aa", strings.Repeat("ab", 500), strings.Repeat("a", 3000)} {
			wantTogether(t, rowOf(s), d, false)
		}
	}
	wantTogether(t, []bool{}, -1, false)
}

// P12.2: all short rows, by the drifts about the least by which they go together, and by some.
func TestTogetherAll(t *testing.T) {
	for n := range 11 {
		for _, l := range allRows(n) {
			least := leastDrift(l)
			for d := max(least-2, 0); d < min(least+3, never); d++ {
				wantTogether(t, l, d, d >= least)
			}
			for _, d := range someDrifts() {
				wantTogether(t, l, d, d >= least)
			}
		}
	}
}

// P12.2: rows that go together by one drift, but, most of them, not by a lesser one; and with one tick turned round.
func TestTogetherRandom(t *testing.T) {
	r := rand.New(rand.NewSource(2))
	for range 400 {
		d := r.Int63n(1000)
		l := randomRow(r, 60, d)
		wantTogether(t, l, d, true)
		wantTogether(t, l, d/2, together(l, d/2))
		wantTogether(t, l, max(d-1, 0), together(l, max(d-1, 0)))
		i := r.Intn(len(l))
		l[i] = !l[i]
		wantTogether(t, l, d, together(l, d))
	}
}

// P12.2: a clock that goes as far ahead as it may, and one tick further, at the end or anywhere.
func TestTogetherFar(t *testing.T) {
	for _, d := range someDrifts() {
		l := driftRow(150, true, d)
		wantTogether(t, l, d, true)
		if d < 900 {
			wantTogether(t, append(slices.Clone(l), true, true), d, together(append(slices.Clone(l), true, true), d))
			i := slices.Index(l, false)
			wantTogether(t, slices.Delete(slices.Clone(l), i, i+1), d, false)
		}
		// A long calm ahead of it doesn't make room.
		calm := append(rowOf(strings.Repeat("ab", 100)), l...)
		wantTogether(t, calm, d, together(calm, d))
		wantTogether(t, append(rowOf(strings.Repeat("b", 2)), rowOf("aaaa")...), d, d >= 600)
	}
}

// R1: long rows end.
func TestTogetherLong(t *testing.T) {
	const n = 1 << 24
	l := make([]bool, n)
	wantLong(t, l, 999, false)
	for i := range l {
		l[i] = i%2 == 0
	}
	wantLong(t, l, 0, true)
	l[n-1] = true
	wantLong(t, l, 333, false)
	wantLong(t, l, 334, true)
	l[0] = false
	wantLong(t, l, 333, false)
	wantLong(t, l, 334, true)
	// Ticks in threes, of which two are one clock's: twice as fast for ever.
	for i := range l {
		l[i] = i%3 != 2
	}
	wantLong(t, l, 333, false)
	wantLong(t, l, 334, true)
}

// wantLong checks whether many ticks go together.
func wantLong(t *testing.T, l []bool, d int64, is bool) {
	t.Helper()
	if got := Together(l, d); got != is {
		t.Errorf("Together(%d ticks, %d) = %v", len(l), d, got)
	}
}

// R3, R4: ticks stay as they were, what lies behind them isn't looked at, and the same call answers the same.
func TestTogetherKeepsNothing(t *testing.T) {
	room := rowOf("abaabaabaaaaaaaa")
	was := slices.Clone(room)
	for _, d := range []int64{333, 334, 333, -1, 334, 1000, 334} {
		if got := Together(room[2:9:16], d); got != (d == 334) {
			t.Errorf("Together by %d: %v", d, got)
		}
		wantWait(t, 10, 100, 13)
	}
	if !slices.Equal(room, was) {
		t.Errorf("the ticks are %s", textOf(room))
	}
	room[4] = false
	if !Together(room[2:9], 334) || Together(room[:], 334) {
		t.Error("the ticks' change isn't seen")
	}
}

// wantTimer checks a timer by all that it tells.
func wantTimer(t testing.TB, what string, x *Timer, left int64) {
	t.Helper()
	for range 2 {
		if x.Left() != left || x.On() != (left > 0) {
			t.Errorf("%s: %d left, on: %v, not %d", what, x.Left(), x.On(), left)
		}
	}
}

// P12.3: a timer from its zero value on.
func TestTimer(t *testing.T) {
	var x Timer
	wantTimer(t, "the zero value", &x, 0)
	x.Tick()
	wantTimer(t, "none was left", &x, 0)
	x.Set(3)
	for _, left := range []int64{3, 2, 1, 0, 0, 0} {
		wantTimer(t, "counting", &x, left)
		x.Tick()
	}
	x.Set(1)
	x.Set(5)
	wantTimer(t, "set twice", &x, 5)
	x.Tick()
	x.Set(2)
	wantTimer(t, "set to less", &x, 2)
	x.Set(0)
	wantTimer(t, "set to 0", &x, 0)
	x.Tick()
	wantTimer(t, "set to 0, and a tick", &x, 0)
	wantTimer(t, "one that new makes", new(Timer), 0)
}

// P12.3: below 0 none are left, of whatever was; far above it, all are.
func TestTimerEdges(t *testing.T) {
	for _, n := range []int64{-1, -2, -5, -1 << 31, -1 << 32, -1<<32 + 1, math.MinInt64, math.MinInt64 + 1} {
		var x Timer
		x.Set(n)
		wantTimer(t, fmt.Sprint(n), &x, 0)
		x.Tick()
		wantTimer(t, fmt.Sprint(n, " and a tick"), &x, 0)
		x.Set(7)
		x.Set(n)
		wantTimer(t, fmt.Sprint("7, then ", n), &x, 0)
		x.Set(1)
		wantTimer(t, fmt.Sprint(n, ", then 1"), &x, 1)
	}
	for _, n := range []int64{1, 2, 255, 256, 1 << 16, 1 << 31, 1 << 32, 1<<32 + 1, 1 << 40, 1<<51 + 1, 1 << 62, math.MaxInt64} {
		var x Timer
		x.Set(n)
		wantTimer(t, fmt.Sprint(n), &x, n)
		x.Tick()
		wantTimer(t, fmt.Sprint(n, " and a tick"), &x, n-1)
	}
}

// P12.3: a timer is its own: neither another one, nor a copy of it, is touched by what it is told.
func TestTimers(t *testing.T) {
	var x, y Timer
	x.Set(4)
	wantTimer(t, "the other one", &y, 0)
	z := x
	x.Tick()
	y.Set(9)
	y.Tick()
	wantTimer(t, "the first one", &x, 3)
	wantTimer(t, "the second one", &y, 8)
	wantTimer(t, "the copy", &z, 4)
	z.Set(0)
	wantTimer(t, "the first one", &x, 3)
}

// P12.3: random rows of calls against a number.
func TestTimerRandom(t *testing.T) {
	r := rand.New(rand.NewSource(3))
	var x Timer
	left := int64(0)
	for range 20000 {
		if n := r.Int63n(40) - 12; r.Intn(12) == 0 {
			x.Set(n)
			left = max(n, 0)
		} else {
			x.Tick()
			left = max(left-1, 0)
		}
		wantTimer(t, "random calls", &x, left)
	}
}

// hasTicked tells how often the second clock has ticked, from a time on, when a timer of the first clock's that was set to n then has run out; and whether it has.
func hasTicked(ticks []bool, n int64) (int64, bool) {
	var x Timer
	x.Set(n)
	count := int64(0)
	for _, first := range ticks {
		if first {
			x.Tick()
		} else {
			count++
		}
		if !x.On() {
			return count, true
		}
	}
	return count, false
}

// wantWaited checks, for clocks that go together by d, that from any time on the second one has ticked often enough when the first one has waited.
func wantWaited(t testing.TB, ticks []bool, d int64) {
	t.Helper()
	for i := range ticks {
		for n := range int64(len(ticks)) {
			w, _ := Wait(n, d)
			count, done := hasTicked(ticks[i:], w)
			if !done {
				break
			}
			if count < n {
				t.Errorf("%s by %d, from %d on: the first one waited %d, and the second one has %d, not %d", textOf(ticks), d, i, w, count, n)
			}
		}
	}
}

// P12.4: all short rows.
func TestWaitedAll(t *testing.T) {
	for n := range 11 {
		for _, l := range allRows(n) {
			for _, d := range someDrifts() {
				if Together(l, d) {
					wantWaited(t, l, d)
				}
			}
		}
	}
}

// P12.4: random rows, and those of a clock that goes as far ahead as it may.
func TestWaitedLong(t *testing.T) {
	r := rand.New(rand.NewSource(4))
	for range 200 {
		d := r.Int63n(1000)
		wantWaited(t, randomRow(r, 60, d), d)
	}
	for _, d := range someDrifts() {
		wantWaited(t, driftRow(90, true, d), d)
		wantWaited(t, driftRow(90, false, d), d)
	}
}

// P12.1, P12.4: of a drift by which one clock may be a whole number of times as fast, no lesser number of ticks would do: clocks go together of which the second one has then one less.
func TestWaitIsLeast(t *testing.T) {
	for _, d := range []int64{0, 500, 600, 750, 800, 900} {
		for n := int64(1); n < 6; n++ {
			w, _ := Wait(n, d)
			l := driftRow(int(w-1+n-1), true, d)
			if count, done := hasTicked(l, w-1); !done || count >= n {
				t.Errorf("%s by %d: waiting for %d, the second one has %d, %v", textOf(l), d, n, count, done)
			}
		}
	}
}

// P12.1, P12.2, P12.4: any ticks and numbers.
func FuzzLease(f *testing.F) {
	f.Add([]byte("\x01\x01"), int64(10), int64(334))
	f.Add([]byte(nil), int64(1<<40), int64(999))
	f.Add([]byte("\x01\x00\x01\x01\x00"), int64(-1), int64(1000))
	f.Fuzz(func(t *testing.T, b []byte, n, d int64) {
		var l []bool
		for _, c := range b[:min(len(b), 100)] {
			l = append(l, c&1 == 1)
		}
		for _, d := range []int64{d, d & 1023} {
			wantTogether(t, l, d, d >= 0 && d < 1000 && together(l, d))
			if Together(l, d) {
				wantWaited(t, l, d)
			}
			for _, n := range []int64{n, n & (1<<41 - 1), n & 1023} {
				if n < 0 || n > 1<<40 || d < 0 || d > 999 {
					wantNoWait(t, n, d)
				} else {
					wantWait(t, n, d, waitOf(n, d))
				}
			}
		}
	})
}
