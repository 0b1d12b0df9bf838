package sector

import (
	"bytes"
	"fmt"
	"maps"
	"math"
	"math/rand"
	"slices"
	"strings"
	"testing"

	"seisin/api"
)

// want checks an error.
func want(t *testing.T, what string, e, w api.Errno) {
	t.Helper()
	if e != w {
		t.Errorf("%s: %d, not %d", what, e, w)
	}
}

// full tells a sector's bytes: a text's, and 0 behind them.
func full(s string) string {
	return s + strings.Repeat("\x00", api.SectorSize-len(s))
}

// holds checks what is read of the first sectors, and which ones have something pending.
func holds(t *testing.T, what string, d *Dev, texts []string, pending ...int) {
	t.Helper()
	for i, s := range texts {
		b, e := d.Read(i)
		if e != api.OK || string(b) != full(s) {
			t.Errorf("%s: sector %d: %q, %d, not %q", what, i, b, e, s)
		}
	}
	if l := d.Pending(); !slices.Equal(l, pending) {
		t.Errorf("%s: pending %v, not %v", what, l, pending)
	}
}

// made tells a device whose sectors have the texts for sure, and pending those of the second list that aren't empty.
func made(t *testing.T, sure, pending []string) *Dev {
	t.Helper()
	d := New(len(sure))
	for i, s := range sure {
		want(t, "Write", d.Write(i, []byte(s)), api.OK)
	}
	want(t, "Barrier", d.Barrier(), api.OK)
	for i, s := range pending {
		if s != "" {
			want(t, "Write", d.Write(i, []byte(s)), api.OK)
		}
	}
	return d
}

// P4.1: New is there for each number of sectors from 0 to the greatest one, for no other.
func TestNew(t *testing.T) {
	for _, n := range []int{math.MinInt, -2, -1, 513, 514, math.MaxInt} {
		if New(n) != nil {
			t.Errorf("New(%d) is a device", n)
		}
	}
	for n := range 513 {
		d := New(n)
		if d == nil {
			t.Fatalf("New(%d) is none", n)
		}
		if d.Sectors() != n || d.Dead() || len(d.Pending()) != 0 {
			t.Errorf("New(%d): %d sectors, dead %v, pending %v", n, d.Sectors(), d.Dead(), d.Pending())
		}
	}
}

// P4.1: a new device's sectors are 0, and it has no fuse.
func TestNewIsEmpty(t *testing.T) {
	d := New(api.MaxSectors)
	holds(t, "New", d, make([]string, api.MaxSectors))
	for range 1000 {
		want(t, "Barrier", d.Barrier(), api.OK)
	}
}

// P4.1: what is pending is told by number, rising, each sector once, whatever the order of the writes; the answer is nobody else's.
func TestPending(t *testing.T) {
	d := New(200)
	for _, i := range []int{150, 3, 199, 0, 64, 3, 150, 7} {
		want(t, "Write", d.Write(i, nil), api.OK)
	}
	sorted := []int{0, 3, 7, 64, 150, 199}
	for range 50 {
		l := d.Pending()
		if !slices.Equal(l, sorted) {
			t.Fatalf("pending %v, not %v", l, sorted)
		}
		clear(l)
	}
	d.Fuse(0)
	want(t, "Barrier", d.Barrier(), api.ErrDown)
	if l := d.Pending(); !slices.Equal(l, sorted) {
		t.Errorf("dead: pending %v, not %v", l, sorted)
	}
}

// P4.1, P4.2: a fuse of n lets n acts be done, and no more; what the device was asked beside them doesn't count.
func TestFuse(t *testing.T) {
	for n := range 5 {
		d := New(2)
		d.Fuse(n)
		for k := range n {
			want(t, "Write of no sector", d.Write(2, nil), api.ErrRange)
			want(t, "Write of too much", d.Write(0, make([]byte, api.SectorSize+1)), api.ErrSize)
			if k%2 == 0 {
				want(t, "Write", d.Write(0, []byte{byte(k)}), api.OK)
			} else {
				want(t, "Barrier", d.Barrier(), api.OK)
			}
			_, e := d.Read(0)
			want(t, "Read", e, api.OK)
			_, e = d.Read(-1)
			want(t, "Read of no sector", e, api.ErrRange)
		}
		want(t, "Write of no sector", d.Write(-1, nil), api.ErrRange)
		want(t, "Write of too much", d.Write(0, make([]byte, api.SectorSize+1)), api.ErrSize)
		if _, e := d.Read(1); e != api.OK || d.Dead() {
			t.Errorf("fuse of %d burnt: it is dead ahead of the next act: %d", n, e)
		}
		want(t, fmt.Sprintf("act %d", n), d.Write(1, nil), api.ErrDown)
		if !d.Dead() {
			t.Errorf("fuse of %d: not dead", n)
		}
	}
}

// P4.1: the last fuse holds; below 0 there is none.
func TestFuseAgain(t *testing.T) {
	for _, n := range []int{-1, -2, -5, math.MinInt, math.MaxInt} {
		d := New(1)
		d.Fuse(0)
		d.Fuse(n)
		for range 100 {
			want(t, "Write", d.Write(0, nil), api.OK)
			want(t, "Barrier", d.Barrier(), api.OK)
		}
		if d.Dead() {
			t.Errorf("Fuse(%d): dead", n)
		}
	}
	d := New(1)
	d.Fuse(1)
	want(t, "Barrier", d.Barrier(), api.OK)
	d.Fuse(2)
	want(t, "Barrier", d.Barrier(), api.OK)
	want(t, "Barrier", d.Barrier(), api.OK)
	want(t, "Barrier", d.Barrier(), api.ErrDown)
}

// P4.2: what ended a fuse did nothing else, whether it was a Write or a Barrier.
func TestNothingElse(t *testing.T) {
	for _, act := range []func(*Dev) api.Errno{
		func(d *Dev) api.Errno { return d.Write(0, []byte("late")) },
		func(d *Dev) api.Errno { return d.Write(1, []byte("late")) },
		(*Dev).Barrier,
	} {
		d := made(t, []string{"a", "b"}, []string{"", "new"})
		d.Fuse(0)
		want(t, "act", act(d), api.ErrDown)
		if l := d.Pending(); !slices.Equal(l, []int{1}) {
			t.Errorf("pending %v", l)
		}
		d.Crash([]Keep{{How: 1}})
		holds(t, "kept", d, []string{"a", "new"})

		d = made(t, []string{"a", "b"}, []string{"", "new"})
		d.Fuse(0)
		want(t, "act", act(d), api.ErrDown)
		d.Crash(nil)
		holds(t, "not kept", d, []string{"a", "b"})
	}
}

// P4.2: a dead device tells ErrDown, ahead of any other error, and a fuse doesn't wake it.
func TestDead(t *testing.T) {
	d := New(1)
	d.Fuse(0)
	want(t, "Barrier", d.Barrier(), api.ErrDown)
	d.Fuse(-1)
	for range 3 {
		want(t, "Write", d.Write(0, nil), api.ErrDown)
		want(t, "Write of no sector", d.Write(1, nil), api.ErrDown)
		want(t, "Write of too much", d.Write(0, make([]byte, 1000)), api.ErrDown)
		want(t, "Barrier", d.Barrier(), api.ErrDown)
		for _, i := range []int{0, 1} {
			if b, e := d.Read(i); e != api.ErrDown || len(b) != 0 {
				t.Errorf("Read(%d): %q, %d", i, b, e)
			}
		}
		if !d.Dead() || d.Sectors() != 1 {
			t.Errorf("dead %v, %d sectors", d.Dead(), d.Sectors())
		}
		d.Fuse(7)
	}
}

// P4.2: what isn't there, or is too long, changes nothing; of two errors the first one is told.
func TestWrong(t *testing.T) {
	long := bytes.Repeat([]byte("x"), api.SectorSize+1)
	d := made(t, []string{"a", "b", "c"}, []string{"", "pending"})
	for _, i := range []int{-1, 3, 4, api.MaxSectors, math.MinInt, math.MaxInt} {
		want(t, fmt.Sprintf("Write(%d)", i), d.Write(i, []byte("x")), api.ErrRange)
		want(t, fmt.Sprintf("Write(%d) of too much", i), d.Write(i, long), api.ErrRange)
		if b, e := d.Read(i); e != api.ErrRange || len(b) != 0 {
			t.Errorf("Read(%d): %q, %d", i, b, e)
		}
	}
	for i := range 3 {
		want(t, fmt.Sprintf("Write(%d) of too much", i), d.Write(i, long), api.ErrSize)
		want(t, fmt.Sprintf("Write(%d) of far too much", i), d.Write(i, make([]byte, 100000)), api.ErrSize)
	}
	holds(t, "wrong", d, []string{"a", "pending", "c"}, 1)

	d = New(0)
	want(t, "no sectors: Write", d.Write(0, nil), api.ErrRange)
	want(t, "no sectors: Barrier", d.Barrier(), api.OK)
	_, e := d.Read(0)
	want(t, "no sectors: Read", e, api.ErrRange)
	d.Crash([]Keep{{How: 1}})
	d.Lose()
	holds(t, "no sectors", d, nil)
}

// P4.2: a write of any length is read with 0 behind it, in the place of what was pending, and of what was there.
func TestWrite(t *testing.T) {
	long := strings.Repeat("0123456789abcdef", 9)
	for n := range api.SectorSize + 1 {
		d := made(t, []string{long, long}, []string{long, ""})
		want(t, "Write", d.Write(0, []byte(long[:n])), api.OK)
		want(t, "Write", d.Write(1, []byte(long[:n])), api.OK)
		holds(t, "pending", d, []string{long[:n], long[:n]}, 0, 1)
		want(t, "Barrier", d.Barrier(), api.OK)
		holds(t, "sure", d, []string{long[:n], long[:n]})
	}
	d := made(t, []string{"text"}, nil)
	want(t, "Write of nil", d.Write(0, nil), api.OK)
	holds(t, "nil", d, []string{""}, 0)
	want(t, "Write of none", d.Write(0, []byte{}), api.OK)
	d.Crash([]Keep{{How: 1}})
	holds(t, "none", d, []string{""})
}

// P4.2: what was written is the device's own, and what is read the caller's.
func TestOwn(t *testing.T) {
	d := New(1)
	b := []byte("mine, with room behind it")[:4]
	want(t, "Write", d.Write(0, b), api.OK)
	if string(b[:cap(b)]) != "mine, with room behind it"[:cap(b)] {
		t.Errorf("the argument is %q", b[:cap(b)])
	}
	copy(b, "else")
	holds(t, "argument", d, []string{"mine"}, 0)
	for range 2 {
		got, _ := d.Read(0)
		copy(got, "changed")
		again, _ := d.Read(0)
		copy(again, "again")
		if !strings.HasPrefix(string(got), "changed") {
			t.Errorf("two answers share bytes: %q", got)
		}
		want(t, "Barrier", d.Barrier(), api.OK)
		holds(t, "answer", d, []string{"mine"})
	}
}

// P4.2: a barrier makes all sure that was pending, and is no error where nothing is.
func TestBarrier(t *testing.T) {
	d := New(4)
	want(t, "Barrier", d.Barrier(), api.OK)
	for i, s := range []string{"a", "b", "", "d"} {
		want(t, "Write", d.Write(i, []byte(s)), api.OK)
	}
	holds(t, "ahead", d, []string{"a", "b", "", "d"}, 0, 1, 2, 3)
	want(t, "Barrier", d.Barrier(), api.OK)
	holds(t, "behind", d, []string{"a", "b", "", "d"})
	d.Crash(nil)
	holds(t, "crash", d, []string{"a", "b", "", "d"})
}

// P4.3: each of what a crash may keep of one sector.
func TestKeep(t *testing.T) {
	old, pending := strings.Repeat("o", api.SectorSize), "new"
	for _, c := range []struct {
		k    Keep
		want string
	}{
		{Keep{1, 0}, pending},
		{Keep{1, -1}, pending},
		{Keep{1, 1}, pending},
		{Keep{0, 2}, old},
		{Keep{3, 2}, old},
		{Keep{-1, 2}, old},
		{Keep{-2, 2}, old},
		{Keep{math.MaxInt, 2}, old},
		{Keep{math.MinInt, 2}, old},
		{Keep{2, math.MinInt}, old},
		{Keep{2, -1}, old},
		{Keep{2, 0}, old},
		{Keep{2, 1}, "n" + old[1:]},
		{Keep{2, 2}, "ne" + old[2:]},
		{Keep{2, 4}, "new\x00" + old[4:]},
		{Keep{2, 143}, full("new")[:143] + "o"},
		{Keep{2, 144}, pending},
		{Keep{2, 145}, pending},
		{Keep{2, math.MaxInt}, pending},
	} {
		d := made(t, []string{old}, []string{pending})
		d.Crash([]Keep{c.k})
		holds(t, fmt.Sprint(c.k), d, []string{c.want})
		d.Crash([]Keep{{How: 1}})
		holds(t, fmt.Sprint(c.k, " and again"), d, []string{c.want})
	}
}

// P4.3: a crash's list goes by what is pending, not by the sectors' numbers; behind its end nothing is kept, and what it has too much is nobody's.
func TestCrashByNumber(t *testing.T) {
	for _, c := range []struct {
		l    []Keep
		want []string
	}{
		{nil, []string{"old", "old", "old", "old", "old", "old"}},
		{[]Keep{}, []string{"old", "old", "old", "old", "old", "old"}},
		{[]Keep{{How: 1}}, []string{"old", "new", "old", "old", "old", "old"}},
		{[]Keep{{}, {How: 1}}, []string{"old", "old", "old", "three", "old", "old"}},
		{[]Keep{{How: 2, N: 1}, {}, {How: 1}}, []string{"old", "nld", "old", "old", "four", "old"}},
		{[]Keep{{}, {How: 2, N: 2}, {How: 1}, {How: 1}, {How: 1}}, []string{"old", "old", "old", "thd", "four", "old"}},
		{[]Keep{{How: 1}, {How: 1}, {How: 2, N: 1}, {How: 1}, {How: 1}, {How: 1}}, []string{"old", "new", "old", "three", "fld", "old"}},
	} {
		d := made(t, []string{"old", "old", "old", "old", "old", "old"}, nil)
		for _, w := range []wrote{{4, "four"}, {3, "first three"}, {1, "new"}, {3, "three"}} {
			want(t, "Write", d.Write(w.i, []byte(w.text)), api.OK)
		}
		l := slices.Clone(c.l)
		d.Crash(l)
		if !slices.Equal(l, c.l) {
			t.Errorf("the list is %v, not %v", l, c.l)
		}
		holds(t, fmt.Sprint(c.l), d, c.want)
	}
}

// P4.3: behind a crash, or a loss, the device isn't dead and has no fuse, whether it was dead or was to be.
func TestAlive(t *testing.T) {
	for what, again := range map[string]func(*Dev){
		"crash": func(d *Dev) { d.Crash([]Keep{{How: 1}}) },
		"loss":  (*Dev).Lose,
	} {
		for n := range 3 {
			d := made(t, []string{"sure"}, []string{"pending"})
			d.Fuse(n)
			if n == 0 {
				want(t, what, d.Write(0, []byte("x")), api.ErrDown)
			}
			again(d)
			if d.Dead() {
				t.Errorf("%s: dead", what)
			}
			for range 10 {
				want(t, what, d.Barrier(), api.OK)
				want(t, what, d.Write(0, []byte("y")), api.OK)
			}
			holds(t, what, d, []string{"y"}, 0)
		}
	}
}

// P4.3: a loss leaves nothing, neither of what was sure nor of what was pending; and the sectors are there as before.
func TestLose(t *testing.T) {
	d := made(t, []string{"a", "b", "c"}, []string{"", "p"})
	d.Lose()
	if d.Sectors() != 3 {
		t.Errorf("%d sectors", d.Sectors())
	}
	holds(t, "loss", d, []string{"", "", ""})
	d.Crash([]Keep{{How: 1}, {How: 1}})
	holds(t, "loss, crash", d, []string{"", "", ""})
	want(t, "Write", d.Write(2, []byte("z")), api.OK)
	holds(t, "loss, Write", d, []string{"", "", "z"}, 2)
}

// P4.4: devices know nothing of each other.
func TestTwoDevices(t *testing.T) {
	a, b := made(t, []string{"a0", "a1"}, []string{"ap"}), made(t, []string{"b0", "b1"}, []string{"", "bp"})
	a.Fuse(0)
	want(t, "Barrier of a", a.Barrier(), api.ErrDown)
	holds(t, "b, a dead", b, []string{"b0", "bp"}, 1)
	a.Lose()
	holds(t, "b, a lost", b, []string{"b0", "bp"}, 1)
	holds(t, "a", a, []string{"", ""})
	want(t, "Write of a", a.Write(1, []byte("x")), api.OK)
	want(t, "Barrier of b", b.Barrier(), api.OK)
	holds(t, "a", a, []string{"", "x"}, 1)
	holds(t, "b", b, []string{"b0", "bp"})
}

// TestExamples: the chapter's examples.
func TestExamples(t *testing.T) {
	d := New(2)
	want(t, "Write", d.Write(1, []byte("ab")), api.OK)
	d.Crash(nil)
	holds(t, "first", d, []string{"", ""})

	d = New(2)
	want(t, "Write", d.Write(1, []byte("ab")), api.OK)
	want(t, "Barrier", d.Barrier(), api.OK)
	want(t, "Write", d.Write(1, []byte("xyz")), api.OK)
	d.Crash([]Keep{{How: 2, N: 1}})
	holds(t, "second", d, []string{"", "xb"})

	d = New(2)
	d.Fuse(1)
	want(t, "Write", d.Write(0, []byte("a")), api.OK)
	want(t, "Barrier", d.Barrier(), api.ErrDown)
	_, e := d.Read(0)
	want(t, "Read", e, api.ErrDown)
}

// model is a device in another way: what is sure, as texts, and a list of what was written since.
type model struct {
	sure  []string
	since []wrote
	left  int // acts; below 0: any number
	dead  bool
}

type wrote struct {
	i    int
	text string
}

func (m *model) may() api.Errno {
	if m.left == 0 {
		m.dead = true
	}
	if m.dead {
		return api.ErrDown
	}
	m.left--
	return api.OK
}

func (m *model) write(i int, s string) api.Errno {
	if m.dead {
		return api.ErrDown
	}
	if i < 0 || i >= len(m.sure) {
		return api.ErrRange
	}
	if len(s) > api.SectorSize {
		return api.ErrSize
	}
	e := m.may()
	if e == api.OK {
		m.since = append(m.since, wrote{i, full(s)})
	}
	return e
}

func (m *model) barrier() api.Errno {
	e := m.may()
	if e == api.OK {
		for _, w := range m.since {
			m.sure[w.i] = w.text
		}
		m.since = nil
	}
	return e
}

// last tells what was written to a sector last since the barrier.
func (m *model) last(i int) (string, bool) {
	for _, w := range slices.Backward(m.since) {
		if w.i == i {
			return w.text, true
		}
	}
	return "", false
}

func (m *model) read(i int) (string, api.Errno) {
	switch {
	case m.dead:
		return "", api.ErrDown
	case i < 0 || i >= len(m.sure):
		return "", api.ErrRange
	}
	if s, ok := m.last(i); ok {
		return s, api.OK
	}
	return m.sure[i], api.OK
}

func (m *model) pending() []int {
	var l []int
	for i := range m.sure {
		if _, ok := m.last(i); ok {
			l = append(l, i)
		}
	}
	return l
}

func (m *model) crash(l []Keep) {
	for i := range m.sure {
		s, ok := m.last(i)
		if !ok {
			continue
		}
		if len(l) == 0 {
			break
		}
		n := 0
		if l[0].How == 1 || l[0].How == 2 && l[0].N > api.SectorSize {
			n = api.SectorSize
		} else if l[0].How == 2 && l[0].N > 0 {
			n = l[0].N
		}
		m.sure[i] = s[:n] + m.sure[i][n:]
		l = l[1:]
	}
	m.since, m.left, m.dead = nil, -1, false
}

func (m *model) lose() {
	for i := range m.sure {
		m.sure[i] = full("")
	}
	m.since, m.left, m.dead = nil, -1, false
}

// same checks all that a device tells against a model.
func same(t *testing.T, d *Dev, m *model) {
	t.Helper()
	if d.Dead() != m.dead || d.Sectors() != len(m.sure) || !slices.Equal(d.Pending(), m.pending()) {
		t.Fatalf("dead %v, %d sectors, pending %v; not %v, %d, %v", d.Dead(), d.Sectors(), d.Pending(), m.dead, len(m.sure), m.pending())
	}
	for i := -1; i <= len(m.sure); i++ {
		b, e := d.Read(i)
		s, w := m.read(i)
		if e != w || string(b) != s {
			t.Fatalf("Read(%d): %q, %d, not %q, %d", i, b, e, s, w)
		}
	}
}

// someBytes tells some bytes, now and then more than a sector has.
func someBytes(r *rand.Rand) []byte {
	b := make([]byte, r.Intn(api.SectorSize+3))
	if r.Intn(2) == 0 {
		b = b[:r.Intn(min(len(b), 4)+1)]
	}
	r.Read(b)
	return b
}

// someKeeps tells what a crash keeps.
func someKeeps(r *rand.Rand) []Keep {
	l := make([]Keep, r.Intn(7))
	for at := range l {
		l[at] = Keep{r.Intn(5) - 1, r.Intn(api.SectorSize+10) - 5}
	}
	return l
}

// step lets something be done to a device and a model alike.
func step(t *testing.T, r *rand.Rand, d *Dev, m *model) {
	t.Helper()
	switch r.Intn(16) {
	default:
		i, b := r.Intn(len(m.sure)+2)-1, someBytes(r)
		want(t, "Write", d.Write(i, b), m.write(i, string(b)))
	case 0, 1, 2:
		want(t, "Barrier", d.Barrier(), m.barrier())
	case 3:
		l := someKeeps(r)
		d.Crash(l)
		m.crash(l)
	case 4:
		n := r.Intn(9) - 2
		d.Fuse(n)
		m.left = n
	case 5:
		if r.Intn(6) == 0 {
			d.Lose()
			m.lose()
		}
	}
}

// P4.1 to P4.4: long rows of calls, against a model.
func TestAgainstModel(t *testing.T) {
	for seed := range int64(60) {
		r := rand.New(rand.NewSource(seed))
		n := r.Intn(7)
		d, m := New(n), &model{left: -1}
		for range n {
			m.sure = append(m.sure, full(""))
		}
		for range 300 {
			step(t, r, d, m)
			same(t, d, m)
		}
	}
}

// P4.4: what was there at a barrier is there behind any crashes, where nothing was written since; and the same calls answer the same.
func TestSureStays(t *testing.T) {
	for seed := range int64(200) {
		r := rand.New(rand.NewSource(seed))
		d, twin := New(20), New(20)
		both := func(do func(d *Dev) api.Errno) {
			t.Helper()
			if a, b := do(d), do(twin); a != b {
				t.Fatalf("%d, and then %d", a, b)
			}
		}
		at := map[int]string{}
		for range 30 {
			i, b := r.Intn(20), someBytes(r)
			both(func(d *Dev) api.Errno { return d.Write(i, b) })
		}
		both((*Dev).Barrier)
		for i := range 20 {
			b, _ := d.Read(i)
			at[i] = string(b)
		}
		for range 5 {
			for range r.Intn(8) {
				i, b := r.Intn(20), someBytes(r)
				both(func(d *Dev) api.Errno { return d.Write(i, b) })
				if len(b) <= api.SectorSize {
					delete(at, i)
				}
			}
			l := someKeeps(r)
			both(func(d *Dev) api.Errno { d.Crash(l); return api.OK })
		}
		for _, i := range slices.Sorted(maps.Keys(at)) {
			if b, e := d.Read(i); e != api.OK || string(b) != at[i] {
				t.Errorf("sector %d: %q, %d, not %q", i, b, e, at[i])
			}
		}
		for i := range 20 {
			a, _ := d.Read(i)
			b, _ := twin.Read(i)
			if !bytes.Equal(a, b) {
				t.Errorf("sector %d: %q, and %q", i, a, b)
			}
		}
	}
}
