package witness

import (
	"fmt"
	"math"
	"strings"
	"testing"

	"seisin/api"
	"seisin/cell"
	"seisin/code"
	"seisin/sector"
)

// at is the first sector of a witness' cell in these tests, where nothing else is said.
const at = 1

// edges are numbers from 0 to the greatest one.
var edges = []int64{0, 1, 2, 7, api.MaxNumber - 1, api.MaxNumber}

// told is all that a witness tells.
type told struct {
	epoch        int64
	holder, mask int
	left         int64
}

// says tells what a witness tells.
func says(s *Server) told {
	return told{s.Epoch(), s.Holder(), s.Mask(), s.Left()}
}

// said tells what a witness of these facts tells.
func (is facts) said(left int64) told {
	return told{is.epoch, is.holder, is.mask, left}
}

// text tells the text that a cell of these facts has.
func (is facts) text(t *testing.T) string {
	t.Helper()
	return bytesOf(t, api.Rec{Kind: 40, Nums: []int64{is.epoch, int64(is.holder), int64(is.mask), is.change}})
}

// bytesOf tells a record as a cell's text.
func bytesOf(t *testing.T, r api.Rec) string {
	t.Helper()
	b, e := code.Encode(r)
	want(t, fmt.Sprint(r), e, api.OK)
	return string(b)
}

// want checks an error.
func want(t *testing.T, what string, e, w api.Errno) {
	t.Helper()
	if e != w {
		t.Errorf("%s: %d, not %d", what, e, w)
	}
}

// opened opens a witness that must be there.
func opened(t *testing.T, d *sector.Dev, wait int64) *Server {
	t.Helper()
	s, e := Open(d, at, at+1, wait)
	if e != api.OK || s == nil {
		t.Fatalf("Open: %v, %d", s, e)
	}
	return s
}

// gen tells how often the cell was put.
func gen(t *testing.T, d *sector.Dev) int64 {
	t.Helper()
	c, e := cell.Open(d, at, at+1)
	want(t, "cell", e, api.OK)
	return c.Gen()
}

// checks checks a witness by all that it tells, and its device, as far as that isn't dead, by the cell and by the other sectors, which are as they were.
func checks(t *testing.T, what string, s *Server, d *sector.Dev, is facts, left int64) {
	t.Helper()
	if got := says(s); got != is.said(left) {
		t.Errorf("%s: %+v, not %+v", what, got, is.said(left))
	}
	if d.Dead() {
		return
	}
	c, e := cell.Open(d, at, at+1)
	want(t, what, e, api.OK)
	text := ""
	if is.gen > 0 {
		text = is.text(t)
	}
	if c.Gen() != is.gen || c.Get() != text {
		t.Errorf("%s: cell %d, %q, not %d, %q", what, c.Gen(), c.Get(), is.gen, text)
	}
	for i := range d.Sectors() {
		if b, _ := d.Read(i); i != at && i != at+1 && string(b) != string(make([]byte, api.SectorSize)) {
			t.Errorf("%s: sector %d: %q", what, i, b)
		}
	}
}

// lay lets a cell have a text for sure.
func lay(t *testing.T, d *sector.Dev, gen int64, text string) {
	t.Helper()
	want(t, "Write", d.Write(at+int(gen%2), cell.Slot(gen, text)), api.OK)
	want(t, "Barrier", d.Barrier(), api.OK)
}

// laid tells a device that has these facts.
func laid(t *testing.T, is facts) *sector.Dev {
	t.Helper()
	d := sector.New(at + 3)
	if is.gen > 0 {
		lay(t, d, is.gen, is.text(t))
	}
	return d
}

// ticks lets some ticks go.
func ticks(s *Server, n int64) {
	for range n {
		s.Tick()
	}
}

// takes checks an answer by what the witness tells then.
func takes(t *testing.T, what string, s *Server, from int, m api.Msg, e api.Errno) {
	t.Helper()
	kind := map[int]int{1: 2, 3: 3, 4: 4}[m.Kind]
	a, ok := s.Take(from, m)
	w := api.Msg{Kind: kind, Epoch: s.Epoch(), Seq: int64(s.Mask()), N: m.N, Block: -1, Client: s.Holder(), E: e}
	if !ok || a != w {
		t.Errorf("%s: from %d: %+v: %+v, %v, not %+v", what, from, m, a, ok, w)
	}
}

// refuses checks that nothing is answered.
func refuses(t *testing.T, what string, s *Server, from int, m api.Msg) {
	t.Helper()
	if a, ok := s.Take(from, m); ok || a != (api.Msg{}) {
		t.Errorf("%s: from %d: %+v: %+v, %v", what, from, m, a, ok)
	}
}

// ask tells a message that asks for what is held, or (seq above 0) for something new.
func ask(epoch, seq int64) api.Msg {
	return api.Msg{Kind: api.MsgAsk, Epoch: epoch, Seq: seq, N: 77, Block: -1, Client: -1}
}

// change tells a message that changes the mask.
func change(epoch, mask, n int64) api.Msg {
	return api.Msg{Kind: api.MsgChange, Epoch: epoch, Seq: mask, N: n, Block: -1, Client: -1}
}

// lost tells a message that a device has lost all.
func lost() api.Msg {
	return api.Msg{Kind: api.MsgLost, N: 5, Block: -1, Client: -1}
}

// some tells facts in the midst of a run.
func some() facts {
	return facts{epoch: 7, holder: 0, mask: 3, change: 4, gen: 12}
}

// TestExamples: the chapter's examples.
func TestExamples(t *testing.T) {
	d := sector.New(at + 3)
	s := opened(t, d, 2)
	ticks(s, 2)
	takes(t, "1", s, 0, ask(0, 0), api.OK)
	checks(t, "1", s, d, facts{1, 0, 3, 0, 1}, 2)
	takes(t, "2", s, 1, ask(0, 0), api.ErrBusy)
	ticks(s, 2)
	takes(t, "3", s, 1, ask(0, 0), api.OK)
	checks(t, "3", s, d, facts{2, 1, 3, 0, 2}, 2)
	takes(t, "4", s, 0, ask(1, 0), api.ErrBusy)
	takes(t, "5", s, 1, change(2, 2, 1), api.OK)
	checks(t, "5", s, d, facts{2, 1, 2, 1, 3}, 2)
	ticks(s, 2)
	takes(t, "6", s, 0, ask(1, 0), api.ErrPrimary)
	checks(t, "6", s, d, facts{2, 1, 2, 1, 3}, 0)
}

// P14.1: a wait that can't be is told first, whatever else is wrong.
func TestOpenOfWrongWait(t *testing.T) {
	dead := sector.New(4)
	dead.Fuse(0)
	want(t, "Barrier", dead.Barrier(), api.ErrDown)
	for _, wait := range []int64{0, -1, -2, math.MinInt64, 1<<40 + 1, 1 << 41, 1 << 62, math.MaxInt64, -1 << 40, 1<<32 - 1<<40} {
		for _, d := range []*sector.Dev{sector.New(4), dead, nil} {
			s, e := Open(d, 0, 1, wait)
			want(t, fmt.Sprint("wait ", wait), e, api.ErrArg)
			if s != nil {
				t.Errorf("wait %d: %v", wait, s)
			}
		}
	}
}

// P14.1: the timer is on from the start, for as long as is waited.
func TestOpenOfWait(t *testing.T) {
	for _, wait := range []int64{1, 2, 3, 1000, 1 << 32, 1<<40 - 1, 1 << 40} {
		for _, is := range []facts{fresh(), some()} {
			d := laid(t, is)
			s := opened(t, d, wait)
			checks(t, fmt.Sprint("wait ", wait), s, d, is, wait)
			s.Tick()
			checks(t, fmt.Sprint("wait ", wait), s, d, is, wait-1)
		}
	}
}

// P14.1: what cell.Open tells of sectors that there aren't, and of a dead device.
func TestOpenOfWrongCell(t *testing.T) {
	dead := sector.New(4)
	dead.Fuse(0)
	want(t, "Barrier", dead.Barrier(), api.ErrDown)
	for i, d := range []*sector.Dev{sector.New(4), dead, sector.New(2), sector.New(1), sector.New(0), nil} {
		for _, a := range []int{0, 1, 2, 3, 4, -1, math.MaxInt, math.MinInt} {
			for _, b := range []int{0, 1, 2, 3, 4, -1, math.MaxInt, math.MinInt} {
				c, w := cell.Open(d, a, b)
				s, e := Open(d, a, b, 2)
				want(t, fmt.Sprint("device ", i, ", ", a, ", ", b), e, w)
				if (s == nil) != (c == nil) {
					t.Errorf("device %d, %d, %d: %v", i, a, b, s)
				}
			}
		}
	}
	s, e := Open(dead, 0, 1, 2)
	want(t, "dead", e, api.ErrDown)
	if s != nil {
		t.Errorf("dead: %v", s)
	}
}

// P14.1: the cell lies in the two sectors that are told, in any order.
func TestOpenWhere(t *testing.T) {
	for _, x := range [][2]int{{0, 1}, {1, 0}, {3, 0}, {511, 0}, {2, 510}} {
		d := sector.New(512)
		want(t, "Write", d.Write(x[1], cell.Slot(12, some().text(t))), api.OK)
		s, e := Open(d, x[0], x[1], 3)
		want(t, fmt.Sprint(x), e, api.OK)
		if got := says(s); got != some().said(3) {
			t.Errorf("%v: %+v", x, got)
		}
		takes(t, "lost", s, 1, lost(), api.OK)
		b, e := d.Read(x[0])
		want(t, "Read", e, api.OK)
		if slot := cell.Slot(13, facts{epoch: 7, holder: -1, mask: 1, change: 4}.text(t)); string(b[:len(slot)]) != string(slot) {
			t.Errorf("%v: %q, not %q", x, b, slot)
		}
	}
}

// P14.1: what lies there is told, whatever it is.
func TestOpenOfLaid(t *testing.T) {
	for _, epoch := range edges {
		for holder := -1; holder <= 1; holder++ {
			for mask := 1; mask <= 3; mask++ {
				for _, change := range edges {
					is := facts{epoch, holder, mask, change, 3}
					d := laid(t, is)
					checks(t, "laid", opened(t, d, 9), d, is, 9)
				}
			}
		}
	}
}

// P14.1: of the cell's two slots the present one is meant, also where it tells less.
func TestOpenOfPresentSlot(t *testing.T) {
	d := laid(t, facts{9, 1, 3, 8, 3})
	is := facts{8, 0, 1, 2, 4}
	lay(t, d, is.gen, is.text(t))
	checks(t, "present", opened(t, d, 2), d, is, 2)
	d = laid(t, is)
	lay(t, d, 5, "no record")
	if got := says(opened(t, d, 2)); got != fresh().said(2) {
		t.Errorf("no record: %+v", got)
	}
}

// P14.1: what is no such record is meant as at first, whole; what is changed then comes of that.
func TestOpenOfNoSuchRecord(t *testing.T) {
	whole := some().text(t)
	texts := []string{"", "x", whole + "x", whole + "\x00", whole[:len(whole)-1], whole[1:], strings.Repeat("\x00", api.MaxCell), strings.Repeat("(", api.MaxCell)}
	for _, kind := range []int{0, 1, 30, 31, 39, 41, 50, 255} {
		texts = append(texts, bytesOf(t, api.Rec{Kind: kind, Nums: []int64{7, 0, 3, 4}}))
	}
	for n := range 17 {
		if n != 4 {
			texts = append(texts, bytesOf(t, api.Rec{Kind: 40, Nums: []int64{1, 1, 1, 1, 1, 1, 1, 1, 1, 1, 1, 1, 1, 1, 1, 1}[:n]}))
		}
	}
	for _, l := range [][]string{{""}, {"x"}, {"", ""}, {"a", "b", "c", "d"}} {
		texts = append(texts, bytesOf(t, api.Rec{Kind: 40, Nums: []int64{7, 0, 3, 4}, Texts: l}))
	}
	for _, nums := range [][]int64{
		{-1, 0, 3, 4}, {math.MinInt64, 0, 3, 4}, {api.MaxNumber + 1, 0, 3, 4}, {math.MaxInt64, 0, 3, 4},
		{7, -2, 3, 4}, {7, 2, 3, 4}, {7, 1 << 32, 3, 4}, {7, -1 << 32, 3, 4}, {7, math.MaxInt64, 3, 4}, {7, math.MinInt64, 3, 4},
		{7, 0, 0, 4}, {7, 0, 4, 4}, {7, 0, -1, 4}, {7, 0, 1<<32 + 1, 4}, {7, 0, math.MaxInt64, 4}, {7, 0, math.MinInt64, 4},
		{7, 0, 3, -1}, {7, 0, 3, math.MinInt64}, {7, 0, 3, api.MaxNumber + 1}, {7, 0, 3, math.MaxInt64},
	} {
		texts = append(texts, bytesOf(t, api.Rec{Kind: 40, Nums: nums}))
	}
	for _, text := range texts {
		d := sector.New(at + 3)
		lay(t, d, 4, text)
		s := opened(t, d, 2)
		if got := says(s); got != fresh().said(2) {
			t.Errorf("%q: %+v", text, got)
		}
		takes(t, text, s, 0, ask(0, 0), api.ErrBusy)
		ticks(s, 2)
		takes(t, text, s, 0, ask(0, 0), api.OK)
		checks(t, text, s, d, facts{1, 0, 3, 0, 5}, 2)
	}
}

// P14.1: to open, to tick, and to ask does no act, and writes nothing.
func TestAskingWritesNothing(t *testing.T) {
	for _, is := range []facts{fresh(), some()} {
		d := laid(t, is)
		d.Fuse(0)
		s := opened(t, d, 2)
		for left := int64(2); left >= 0; left-- {
			checks(t, "asked", s, d, is, left)
			s.Tick()
		}
		if d.Dead() || len(d.Pending()) != 0 {
			t.Errorf("dead %v, pending %v", d.Dead(), d.Pending())
		}
	}
}

// P14.1: ticks are counted down to 0, and not below that.
func TestTicks(t *testing.T) {
	s := opened(t, laid(t, some()), 3)
	for _, left := range []int64{2, 1, 0, 0, 0} {
		s.Tick()
		if got := says(s); got != some().said(left) {
			t.Errorf("%+v, not %d left", got, left)
		}
	}
}

// P14.2: who is no node is answered nothing.
func TestTakeOfNoNode(t *testing.T) {
	for _, left := range []int64{2, 0} {
		d := laid(t, some())
		s := opened(t, d, 2)
		ticks(s, 2-left)
		for _, from := range []int{-1, -2, 2, 3, 4, 7, 8, 31, 32, 63, 64, 65, 256, 1 << 32, 1<<32 + 1, -1 << 32, math.MaxInt, math.MinInt} {
			for _, m := range []api.Msg{ask(7, 0), ask(0, 1), change(7, 3, 9), change(7, 1, 9), lost()} {
				refuses(t, "no node", s, from, m)
			}
		}
		checks(t, "no node", s, d, some(), left)
	}
}

// P14.2: other messages aren't answered, and change nothing.
func TestTakeOfOtherKinds(t *testing.T) {
	d := laid(t, some())
	s := opened(t, d, 2)
	ticks(s, 2)
	for _, kind := range []int{math.MinInt, -4, -3, -1, 0, 2, 5, 6, 7, 8, 9, 10, 11, 12, 13, 14, 15, 16, 40, 255, 256 + 1, 256 + 3, 1<<32 + 1, 1<<32 + 4, math.MaxInt} {
		for from := range 2 {
			m := change(7, 1, 9)
			m.Kind = kind
			refuses(t, "kind", s, from, m)
		}
	}
	checks(t, "kind", s, d, some(), 0)
}

// P14.2: nor are those that may not be, whatever is wrong with them.
func TestTakeOfWhatMayNotBe(t *testing.T) {
	d := laid(t, some())
	s := opened(t, d, 2)
	ticks(s, 2)
	for i, wrong := range []func(m *api.Msg){
		func(m *api.Msg) { m.Epoch = -1 }, func(m *api.Msg) { m.Epoch = api.MaxNumber + 1 }, func(m *api.Msg) { m.Epoch = math.MinInt64 },
		func(m *api.Msg) { m.Seq = -1 }, func(m *api.Msg) { m.Seq = api.MaxNumber + 1 },
		func(m *api.Msg) { m.N = -api.MaxNumber - 1 }, func(m *api.Msg) { m.N = api.MaxNumber + 1 },
		func(m *api.Msg) { m.Block = -2 }, func(m *api.Msg) { m.Block = 32 },
		func(m *api.Msg) { m.Client = -2 }, func(m *api.Msg) { m.Client = 4 },
		func(m *api.Msg) { m.E = -1 }, func(m *api.Msg) { m.E = 32 },
		func(m *api.Msg) { m.T[0] = -1 }, func(m *api.Msg) { m.T[3] = api.MaxNumber + 1 },
		func(m *api.Msg) { m.Data = strings.Repeat("x", 41) }, func(m *api.Msg) { m.Row = strings.Repeat("x", 11) },
	} {
		for from := range 2 {
			for _, m := range []api.Msg{ask(7, 0), ask(7, 1), change(7, 1, 9), lost()} {
				wrong(&m)
				refuses(t, fmt.Sprint("case ", i), s, from, m)
			}
		}
	}
	checks(t, "may not be", s, d, some(), 0)
}

// P14.2: an answer has of the message the N alone; the parts that a kind makes no use of change nothing.
func TestAnswersParts(t *testing.T) {
	for _, n := range []int64{-api.MaxNumber, -1, 0, 4, api.MaxNumber} {
		for block := -1; block < 32; block++ {
			for client := -1; client < 4; client++ {
				rest := api.Msg{N: n, Block: block, Client: client, E: api.Errno(block & 31), T: [4]int64{7, 8, 9, 10}, Data: strings.Repeat("x", 40), Row: "row......."}
				d := laid(t, some())
				s := opened(t, d, 2)
				m := rest
				m.Kind, m.Epoch = api.MsgAsk, 7
				takes(t, "ask", s, 0, m, api.OK)
				takes(t, "ask", s, 1, m, api.ErrBusy)
				is := some()
				checks(t, "ask", s, d, is, 2)
				m.Kind, m.Seq = api.MsgChange, 1
				takes(t, "change", s, 1, m, api.ErrPrimary)
				takes(t, "change", s, 0, m, api.OK)
				if n > 4 {
					is.mask, is.change, is.gen = 1, n, 13
				}
				checks(t, "change", s, d, is, 2)
				m.Kind, m.Seq, m.Epoch = api.MsgLost, api.MaxNumber, 3
				takes(t, "lost", s, 1, m, api.OK)
				is.mask, is.holder, is.gen = 1, -1, is.gen+1
				checks(t, "lost", s, d, is, 2)
			}
		}
	}
}

// P14.3: each of the five cases, in the midst of the others.
func TestAsk(t *testing.T) {
	last := facts{api.MaxNumber, 0, 3, 4, 12}
	for i, x := range []struct {
		is    facts
		left  int64
		from  int
		m     api.Msg
		e     api.Errno
		next  facts
		again int64 // left behind it
	}{
		// Who isn't in sync.
		{facts{7, 0, 2, 4, 12}, 1, 0, ask(7, 0), api.ErrPrimary, facts{7, 0, 2, 4, 12}, 1},
		{facts{7, 1, 2, 4, 12}, 1, 0, ask(7, 0), api.ErrPrimary, facts{7, 1, 2, 4, 12}, 1},
		{facts{7, 0, 1, 4, 12}, 0, 1, ask(7, 1), api.ErrPrimary, facts{7, 0, 1, 4, 12}, 0},
		{facts{api.MaxNumber, -1, 1, 4, 12}, 0, 1, ask(7, 1), api.ErrPrimary, facts{api.MaxNumber, -1, 1, 4, 12}, 0},
		// Who holds it, and goes on.
		{some(), 1, 0, ask(7, 0), api.OK, some(), 5},
		{some(), 0, 0, ask(7, 0), api.OK, some(), 5},
		{facts{7, 1, 2, 4, 12}, 0, 1, ask(7, 0), api.OK, facts{7, 1, 2, 4, 12}, 5},
		{last, 1, 0, ask(api.MaxNumber, 0), api.OK, last, 5},
		{facts{0, 1, 3, 0, 1}, 1, 1, ask(0, 0), api.OK, facts{0, 1, 3, 0, 1}, 5},
		// Who holds it, and wants a new one, or knows of another one.
		{some(), 5, 0, ask(7, 1), api.OK, facts{8, 0, 3, 0, 13}, 5},
		{some(), 1, 0, ask(7, api.MaxNumber), api.OK, facts{8, 0, 3, 0, 13}, 5},
		{some(), 1, 0, ask(6, 0), api.OK, facts{8, 0, 3, 0, 13}, 5},
		{some(), 0, 0, ask(8, 0), api.OK, facts{8, 0, 3, 0, 13}, 5},
		{facts{7, 1, 2, 4, 12}, 3, 1, ask(0, 0), api.OK, facts{8, 1, 2, 0, 13}, 5},
		{last, 1, 0, ask(api.MaxNumber, 1), api.ErrEpoch, last, 1},
		{last, 0, 0, ask(7, 0), api.ErrEpoch, last, 0},
		// Somebody else.
		{some(), 5, 1, ask(7, 0), api.ErrBusy, some(), 5},
		{some(), 1, 1, ask(7, 1), api.ErrBusy, some(), 1},
		{last, 1, 1, ask(0, 0), api.ErrBusy, last, 1},
		{some(), 0, 1, ask(7, 0), api.OK, facts{8, 1, 3, 0, 13}, 5},
		{some(), 0, 1, ask(0, 1), api.OK, facts{8, 1, 3, 0, 13}, 5},
		{last, 0, 1, ask(api.MaxNumber, 0), api.ErrEpoch, last, 0},
		// Nobody.
		{fresh(), 1, 0, ask(0, 0), api.ErrBusy, fresh(), 1},
		{fresh(), 0, 0, ask(0, 0), api.OK, facts{1, 0, 3, 0, 1}, 5},
		{fresh(), 0, 1, ask(9, 1), api.OK, facts{1, 1, 3, 0, 1}, 5},
		{facts{7, -1, 2, 4, 12}, 1, 1, ask(7, 0), api.ErrBusy, facts{7, -1, 2, 4, 12}, 1},
		{facts{7, -1, 2, 4, 12}, 0, 1, ask(7, 0), api.OK, facts{8, 1, 2, 0, 13}, 5},
		{facts{api.MaxNumber, -1, 2, 4, 12}, 0, 1, ask(7, 0), api.ErrEpoch, facts{api.MaxNumber, -1, 2, 4, 12}, 0},
		{facts{api.MaxNumber - 1, -1, 1, 4, 12}, 0, 0, ask(7, 0), api.OK, facts{api.MaxNumber, 0, 1, 0, 13}, 5},
	} {
		d := laid(t, x.is)
		s := opened(t, d, 5)
		ticks(s, 5-x.left)
		takes(t, fmt.Sprint("case ", i), s, x.from, x.m, x.e)
		checks(t, fmt.Sprint("case ", i), s, d, x.next, x.again)
	}
}

// P14.2 to P14.4: whatever is known, and whatever comes, against the model.
func TestAll(t *testing.T) {
	var messages []api.Msg
	for _, epoch := range []int64{0, 6, 7, 8, api.MaxNumber - 1, api.MaxNumber} {
		for _, seq := range []int64{0, 1, 2, 3, 4, 5, 7, 1 << 32, 1<<32 + 3, api.MaxNumber} {
			for _, n := range []int64{-api.MaxNumber, -1, 0, 3, 4, 5, api.MaxNumber} {
				messages = append(messages, change(epoch, seq, n))
			}
			messages = append(messages, ask(epoch, seq))
		}
	}
	messages = append(messages, lost())
	for _, epoch := range []int64{0, 7, api.MaxNumber} {
		for i := range 3 * 3 * 3 * 2 * 2 {
			is := facts{epoch, i%3 - 1, 1 + i/3%3, []int64{0, 4, api.MaxNumber}[i/9%3], 3}
			left, from := int64(i/27%2), i/54
			for _, q := range messages {
				m := &model{is: is, wait: 3, left: left, fuse: -1}
				s := opened(t, laid(t, is), 3)
				ticks(s, 3-left)
				a, ok := s.Take(from, q)
				wa, wok := m.take(from, q)
				if a != wa || ok != wok || says(s) != m.is.said(m.left) || s.state().change != m.is.change {
					t.Fatalf("%+v: from %d: %+v: %+v, %v, not %+v, %v", is, from, q, a, ok, wa, wok)
				}
			}
		}
	}
}

// P14.4: the holder changes the mask, in order, and nobody else does.
func TestChange(t *testing.T) {
	for i, x := range []struct {
		is   facts
		from int
		m    api.Msg
		e    api.Errno
		next facts
	}{
		// Who doesn't hold it, or not this one.
		{some(), 1, change(7, 3, 5), api.ErrPrimary, some()},
		{some(), 1, change(7, 0, 5), api.ErrPrimary, some()},
		{some(), 0, change(6, 3, 5), api.ErrPrimary, some()},
		{some(), 0, change(8, 1, 5), api.ErrPrimary, some()},
		{some(), 0, change(8, 2, 1), api.ErrPrimary, some()},
		{facts{7, -1, 3, 4, 12}, 0, change(7, 1, 5), api.ErrPrimary, facts{7, -1, 3, 4, 12}},
		{facts{7, -1, 3, 4, 12}, 1, change(7, 2, 5), api.ErrPrimary, facts{7, -1, 3, 4, 12}},
		{fresh(), 0, change(0, 1, 1), api.ErrPrimary, fresh()},
		// No such mask.
		{some(), 0, change(7, 0, 5), api.ErrArg, some()},
		{some(), 0, change(7, 2, 5), api.ErrArg, some()},
		{some(), 0, change(7, 4, 5), api.ErrArg, some()},
		{some(), 0, change(7, 5, 5), api.ErrArg, some()},
		{some(), 0, change(7, 1<<32+1, 5), api.ErrArg, some()},
		{some(), 0, change(7, 2, 1), api.ErrArg, some()},
		{facts{7, 1, 3, 4, 12}, 1, change(7, 1, 5), api.ErrArg, facts{7, 1, 3, 4, 12}},
		{facts{7, 1, 3, 4, 12}, 1, change(7, api.MaxNumber, 5), api.ErrArg, facts{7, 1, 3, 4, 12}},
		// What was changed since.
		{some(), 0, change(7, 1, 4), api.OK, some()},
		{some(), 0, change(7, 1, 3), api.OK, some()},
		{some(), 0, change(7, 1, -api.MaxNumber), api.OK, some()},
		{facts{7, 1, 3, 0, 1}, 1, change(7, 2, 0), api.OK, facts{7, 1, 3, 0, 1}},
		{facts{7, 1, 3, api.MaxNumber, 1}, 1, change(7, 2, api.MaxNumber), api.OK, facts{7, 1, 3, api.MaxNumber, 1}},
		// What is changed.
		{some(), 0, change(7, 1, 5), api.OK, facts{7, 0, 1, 5, 13}},
		{some(), 0, change(7, 3, 5), api.OK, facts{7, 0, 3, 5, 13}},
		{facts{7, 0, 1, 4, 12}, 0, change(7, 3, api.MaxNumber), api.OK, facts{7, 0, 3, api.MaxNumber, 13}},
		{facts{7, 1, 3, 4, 12}, 1, change(7, 2, 9), api.OK, facts{7, 1, 2, 9, 13}},
		{facts{7, 0, 2, 4, 12}, 0, change(7, 1, 9), api.OK, facts{7, 0, 1, 9, 13}},
		{facts{0, 1, 3, 0, 12}, 1, change(0, 2, 1), api.OK, facts{0, 1, 2, 1, 13}},
	} {
		for _, left := range []int64{0, 2} {
			d := laid(t, x.is)
			s := opened(t, d, 2)
			ticks(s, 2-left)
			for range 2 { // the second time it was changed already
				takes(t, fmt.Sprint("case ", i), s, x.from, x.m, x.e)
				checks(t, fmt.Sprint("case ", i), s, d, x.next, left)
			}
			d.Crash(nil)
			checks(t, fmt.Sprint("case ", i, " behind a crash"), opened(t, d, 9), d, x.next, 9)
		}
	}
}

// P14.4: who has lost all isn't in sync, unless nobody else is, and nobody holds it; that is put each time.
func TestLost(t *testing.T) {
	for _, left := range []int64{0, 2} {
		for holder := -1; holder <= 1; holder++ {
			for i, x := range [][3]int{{0, 3, 2}, {1, 3, 1}, {0, 1, 1}, {1, 1, 1}, {0, 2, 2}, {1, 2, 2}} {
				is := facts{7, holder, x[1], 4, 12}
				d := laid(t, is)
				s := opened(t, d, 2)
				ticks(s, 2-left)
				for n := range int64(2) {
					takes(t, "lost", s, x[0], lost(), api.OK)
					is.holder, is.mask, is.gen = -1, x[2], 13+n
					checks(t, fmt.Sprint("case ", i), s, d, is, left)
				}
				d.Crash(nil)
				checks(t, fmt.Sprint("case ", i, " behind a crash"), opened(t, d, 9), d, is, 9)
			}
		}
	}
}

// P14.2: where the device dies on it nothing is answered, and nothing is changed; behind the crash there is what was, or what was under way.
func TestDying(t *testing.T) {
	for i, x := range []struct {
		from int
		m    api.Msg
		next facts
		left int64
	}{
		{0, ask(7, 1), facts{8, 0, 3, 0, 13}, 5},
		{1, ask(0, 0), facts{8, 1, 3, 0, 13}, 5},
		{0, change(7, 1, 5), facts{7, 0, 1, 5, 13}, 0},
		{0, lost(), facts{7, -1, 2, 4, 13}, 0},
		{1, lost(), facts{7, -1, 1, 4, 13}, 0},
	} {
		for fuse := range 3 {
			for _, keep := range [][]sector.Keep{nil, {{How: 1}}, {{How: 2, N: 6}}} {
				what := fmt.Sprint("case ", i, ", fuse ", fuse, ", ", keep)
				d := laid(t, some())
				s := opened(t, d, 5)
				ticks(s, 5)
				d.Fuse(fuse)
				behind := some()
				if fuse == 2 {
					takes(t, what, s, x.from, x.m, api.OK)
					checks(t, what, s, d, x.next, x.left)
				} else {
					refuses(t, what, s, x.from, x.m)
					refuses(t, what, s, x.from, x.m)
					checks(t, what, s, d, some(), 0)
				}
				if fuse == 2 || fuse == 1 && keep != nil && keep[0].How == 1 {
					behind = x.next
				}
				d.Crash(keep)
				checks(t, what, opened(t, d, 5), d, behind, 5)
			}
		}
	}
}

// P14.2: on a dead device, what needs no act of it is answered as ever.
func TestDead(t *testing.T) {
	for i, m := range []api.Msg{lost(), ask(7, 1), change(7, 1, 5)} {
		what := fmt.Sprint("case ", i)
		d := laid(t, some())
		s := opened(t, d, 2)
		d.Fuse(0)
		takes(t, what, s, 0, ask(7, 0), api.OK)
		refuses(t, what, s, 0, m)
		if !d.Dead() {
			t.Error("not dead")
		}
		takes(t, what, s, 1, ask(7, 0), api.ErrBusy)
		refuses(t, what, s, 0, ask(7, 1))
		refuses(t, what, s, 0, change(7, 1, 5))
		takes(t, what, s, 0, change(7, 1, 4), api.OK)
		takes(t, what, s, 0, change(7, 2, 5), api.ErrArg)
		takes(t, what, s, 1, change(7, 2, 5), api.ErrPrimary)
		ticks(s, 1)
		checks(t, what, s, d, some(), 1)
		takes(t, what, s, 0, ask(7, 0), api.OK)
		checks(t, what, s, d, some(), 2)
	}
}

// P14.3, case 2: who holds the epoch and asks for longer is told so on a device, too, that died when another node was to be granted one: nothing is put for that.
func TestLongerDead(t *testing.T) {
	for _, wait := range []int64{1, 2, 5} {
		for fuse := range 2 {
			for _, keep := range [][]sector.Keep{nil, {{How: 1}}, {{How: 2, N: 6}}} {
				what := fmt.Sprint("wait ", wait, ", fuse ", fuse, ", ", keep)
				d := laid(t, some())
				s := opened(t, d, wait)
				ticks(s, wait)
				d.Fuse(fuse)
				refuses(t, what, s, 1, ask(7, 1))
				checks(t, what, s, d, some(), 0)
				for range 2 {
					takes(t, what, s, 0, ask(7, 0), api.OK)
					checks(t, what, s, d, some(), wait)
					takes(t, what, s, 1, ask(7, 1), api.ErrBusy)
					refuses(t, what, s, 0, ask(7, 1))
					refuses(t, what, s, 0, ask(6, 0))
					refuses(t, what, s, 0, change(7, 1, 5))
					ticks(s, 1)
					checks(t, what, s, d, some(), wait-1)
				}
				ticks(s, wait-1)
				refuses(t, what, s, 1, ask(7, 0))
				takes(t, what, s, 0, ask(7, 0), api.OK)
				checks(t, what, s, d, some(), wait)
				d.Crash(keep)
				behind := some()
				if fuse == 1 && keep != nil && keep[0].How == 1 {
					behind = facts{8, 1, 3, 0, 13}
				}
				checks(t, what, opened(t, d, wait), d, behind, wait)
			}
		}
	}
}

// P14.3, case 2: nothing is written for it where such a device lives again and the witness wasn't opened anew, and what needs a Put is put then, as ever.
func TestLongerAlive(t *testing.T) {
	for i, x := range []struct {
		from int
		m    api.Msg
		next facts
		left int64
	}{
		{0, change(7, 3, 9), facts{7, 0, 3, 9, 13}, 0},
		{0, ask(7, 1), facts{8, 0, 3, 0, 13}, 2},
		{1, ask(7, 1), facts{8, 1, 3, 0, 13}, 2},
		{1, lost(), facts{7, -1, 1, 4, 13}, 0},
	} {
		for _, keep := range [][]sector.Keep{nil, {{How: 1}}} {
			what := fmt.Sprint("case ", i, ", ", keep)
			d := laid(t, some())
			s := opened(t, d, 2)
			ticks(s, 2)
			d.Fuse(1)
			refuses(t, what, s, 1, ask(7, 1))
			d.Crash(keep)
			was := bytesAll(t, d)
			takes(t, what, s, 0, ask(7, 0), api.OK)
			if is := bytesAll(t, d); is != was || len(d.Pending()) != 0 || says(s) != some().said(2) {
				t.Errorf("%s: %q, not %q; pending %v; %+v", what, is, was, d.Pending(), says(s))
			}
			ticks(s, 2)
			takes(t, what, s, x.from, x.m, api.OK)
			checks(t, what, s, d, x.next, x.left)
		}
	}
}

// bytesAll tells all that a device has.
func bytesAll(t *testing.T, d *sector.Dev) string {
	t.Helper()
	all := ""
	for i := range d.Sectors() {
		b, e := d.Read(i)
		want(t, "Read", e, api.OK)
		all += string(b)
	}
	return all
}

// P14.2: where the cell has no more generations, that is told of what would be put, and nothing is changed; the others are answered as ever.
func TestNoMoreGenerations(t *testing.T) {
	is := some()
	is.gen = api.MaxNumber
	d := laid(t, is)
	s := opened(t, d, 5)
	ticks(s, 4)
	takes(t, "ask", s, 0, ask(7, 1), api.ErrSeq)
	takes(t, "change", s, 0, change(7, 1, 5), api.ErrSeq)
	takes(t, "lost", s, 0, lost(), api.ErrSeq)
	takes(t, "lost", s, 1, lost(), api.ErrSeq)
	takes(t, "busy", s, 1, ask(7, 1), api.ErrBusy)
	checks(t, "on", s, d, is, 1)
	ticks(s, 1)
	takes(t, "ask", s, 1, ask(7, 0), api.ErrSeq)
	takes(t, "ask", s, 0, ask(0, 0), api.ErrSeq)
	checks(t, "off", s, d, is, 0)
	takes(t, "change", s, 0, change(7, 1, 4), api.OK)
	takes(t, "ask", s, 0, ask(7, 0), api.OK)
	checks(t, "others", s, d, is, 5)
}

// P14.2: the last generation but one may still be put.
func TestLastGeneration(t *testing.T) {
	is := some()
	is.gen = api.MaxNumber - 1
	d := laid(t, is)
	s := opened(t, d, 5)
	takes(t, "change", s, 0, change(7, 1, 5), api.OK)
	takes(t, "lost", s, 0, lost(), api.ErrSeq)
	checks(t, "last", s, d, facts{7, 0, 1, 5, api.MaxNumber}, 5)
}

// P14.4: the bytes that the cell has, and the sectors that it lies in.
func TestSectors(t *testing.T) {
	d := sector.New(5)
	s, e := Open(d, 3, 1, 1)
	want(t, "Open", e, api.OK)
	ticks(s, 1)
	takes(t, "lost", s, 1, lost(), api.OK)
	takes(t, "ask", s, 0, ask(0, 0), api.OK)
	for i, slot := range map[int][]byte{3: cell.Slot(1, "\x28\x04\x00\x01\x02\x00"), 1: cell.Slot(2, "\x28\x04\x02\x00\x02\x00")} {
		if b, e := d.Read(i); e != api.OK || string(b[:len(slot)]) != string(slot) {
			t.Errorf("sector %d: %q, %d, not %q", i, b, e, slot)
		}
	}
	takes(t, "change", s, 0, change(1, 3, 100), api.OK)
	slot := cell.Slot(3, "\x28\x04\x02\x00\x06\xc8\x01")
	for i := range 5 {
		b, e := d.Read(i)
		want(t, "Read", e, api.OK)
		if i == 3 && string(b[:len(slot)]) != string(slot) {
			t.Errorf("sector 3: %q, not %q", b, slot)
		}
		if is := string(b) != string(make([]byte, api.SectorSize)); is != (i == 1 || i == 3) {
			t.Errorf("sector %d: %q", i, b)
		}
	}
}

// P14.5: an epoch that a crash took back was granted to nobody; one that was granted isn't granted again.
func TestEpochsBehindCrashes(t *testing.T) {
	for _, keep := range []sector.Keep{{}, {How: 1}, {How: 2, N: 6}} {
		d := sector.New(at + 3)
		to := map[int64]int{}
		for round := range 40 {
			s := opened(t, d, 1)
			from := round % 2
			if s.Holder() != from {
				takes(t, "at once", s, from, ask(0, 1), api.ErrBusy)
			}
			ticks(s, 1)
			d.Fuse(round % 3)
			if a, ok := s.Take(from, ask(0, 1)); ok {
				if who, is := to[a.Epoch]; is {
					t.Errorf("round %d: epoch %d was granted to %d already", round, a.Epoch, who)
				}
				to[a.Epoch] = from
			}
			d.Crash([]sector.Keep{keep})
		}
		if len(to) < 10 {
			t.Errorf("%d epochs", len(to))
		}
	}
}

// P14.5: another node is granted an epoch only when the timer has run out, which each grant sets, and an opening does.
func TestAnotherWaits(t *testing.T) {
	for _, wait := range []int64{1, 2, 9} {
		d := sector.New(at + 3)
		s := opened(t, d, wait)
		ticks(s, wait-1)
		takes(t, "nobody's", s, 0, ask(0, 0), api.ErrBusy)
		ticks(s, 1)
		takes(t, "first", s, 0, ask(0, 0), api.OK)
		for range 3 {
			ticks(s, wait-1)
			takes(t, "other", s, 1, ask(0, 0), api.ErrBusy)
			takes(t, "longer", s, 0, ask(s.Epoch(), 0), api.OK)
			ticks(s, wait-1)
			takes(t, "other", s, 1, ask(0, 0), api.ErrBusy)
			takes(t, "new", s, 0, ask(s.Epoch(), 1), api.OK)
		}
		ticks(s, wait-1)
		takes(t, "lost", s, 0, lost(), api.OK)
		takes(t, "other", s, 1, ask(0, 0), api.ErrBusy)
		d.Crash(nil)
		s = opened(t, d, wait)
		ticks(s, wait-1)
		takes(t, "other", s, 1, ask(0, 0), api.ErrBusy)
		ticks(s, 1)
		takes(t, "other", s, 1, ask(0, 0), api.OK)
		checks(t, "other", s, d, facts{5, 1, 2, 0, 6}, wait)
	}
}

// R5: witnesses know nothing of each other but by the device.
func TestManyWitnesses(t *testing.T) {
	d := sector.New(4)
	a, e := Open(d, 0, 1, 1)
	want(t, "a", e, api.OK)
	b, e := Open(d, 2, 3, 4)
	want(t, "b", e, api.OK)
	other, e := Open(sector.New(4), 0, 1, 3)
	want(t, "other", e, api.OK)
	ticks(a, 1)
	takes(t, "a", a, 1, ask(0, 0), api.OK)
	takes(t, "b", b, 0, lost(), api.OK)
	takes(t, "a", a, 1, change(1, 2, 1), api.OK)
	d.Crash(nil)
	c, e := Open(d, 0, 1, 7)
	want(t, "c", e, api.OK)
	for i, x := range []struct {
		s *Server
		w told
	}{{a, told{1, 1, 2, 1}}, {b, told{0, -1, 2, 4}}, {other, told{0, -1, 3, 3}}, {c, told{1, 1, 2, 7}}} {
		if got := says(x.s); got != x.w {
			t.Errorf("witness %d: %+v, not %+v", i, got, x.w)
		}
	}
}

// R3: what was handed in stays.
func TestArgumentsStay(t *testing.T) {
	s := opened(t, laid(t, some()), 2)
	m := change(7, 1, 5)
	m.T, m.Data, m.Row = [4]int64{1, 2, 3, 4}, "data", "row"
	was := m
	a, _ := s.Take(0, m)
	a.T[2], a.Epoch = 999, 999
	if m != was || says(s) != (told{7, 0, 1, 2}) {
		t.Errorf("%+v; %+v", m, says(s))
	}
}
