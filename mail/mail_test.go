package mail

import (
	"encoding/binary"
	"fmt"
	"math"
	"math/rand"
	"slices"
	"strings"
	"testing"

	"seisin/api"
)

// longest is how many bytes the longest message has: its kind and counts, three numbers of any size, three small ones, the table, both texts.
const longest = 2 + 3*10 + 3 + 4*10 + 41 + 11

// exampleBytes is what the chapter's example has as its bytes.
const exampleBytes = "\x01\x2a\x04\x00\x00\x01\x00\x00\x00\x00\x00\x00\x00\x00"

// example is the chapter's example.
func example() api.Msg {
	return api.Msg{Kind: api.MsgAsk, Epoch: 2, Block: -1}
}

// least is a message of which each part is the least or the shortest that it may be.
func least() api.Msg {
	return api.Msg{Kind: 1, N: -1 << 62, Block: -1, Client: -1}
}

// greatest is a message of which each part is the greatest or the longest that it may be.
func greatest() api.Msg {
	return api.Msg{
		Kind: 15, Epoch: 1 << 62, Seq: 1 << 62, N: 1 << 62, Block: 31, Client: 3, E: 31,
		T:    [api.MaxClients]int64{1 << 62, 1 << 62, 1 << 62, 1 << 62},
		Data: strings.Repeat("\xff", 40), Row: strings.Repeat("\x00", 10),
	}
}

// middle is a message of which each part differs from each other one.
func middle() api.Msg {
	return api.Msg{
		Kind: api.MsgStore, Epoch: 11, Seq: 12, N: 13, Block: 14, Client: 2, E: 24,
		T:    [api.MaxClients]int64{15, 16, 17, 18},
		Data: "8 bytes.", Row: "row",
	}
}

// mayBe tells whether a message may be, by the chapter's words.
func mayBe(m api.Msg) bool {
	for _, n := range append(m.T[:], m.Epoch, m.Seq, max(m.N, -m.N)) {
		if n < 0 || n > 1<<62 {
			return false
		}
	}
	return m.Kind > 0 && m.Kind < 16 && m.Block > -2 && m.Block < 32 && m.Client > -2 && m.Client < 4 && m.E > -1 && m.E < 32 && len(m.Data) < 41 && len(m.Row) < 11
}

// bytesOf tells the bytes of a record of a kind, numbers and texts, by the library; a record may have up to 15 numbers here.
func bytesOf(kind int, nums []int64, texts ...string) string {
	b := []byte{byte(kind), byte(len(nums) + 16*len(texts))}
	for _, n := range nums {
		b = binary.AppendVarint(b, n)
	}
	for _, s := range texts {
		b = append(b, byte(len(s)))
		b = append(b, s...)
	}
	return string(b)
}

// numbersOf tells a message's numbers in their order.
func numbersOf(m api.Msg) []int64 {
	return []int64{m.Epoch, m.Seq, m.N, int64(m.Block), int64(m.Client), int64(m.E), m.T[0], m.T[1], m.T[2], m.T[3]}
}

// messageBytes tells a message's bytes, whether or not it may be.
func messageBytes(m api.Msg) string {
	return bytesOf(m.Kind, numbersOf(m), m.Data, m.Row)
}

// wantMessage checks that a message may be, and has these bytes, which are that message.
func wantMessage(t testing.TB, what string, m api.Msg, s string) {
	t.Helper()
	if !May(m) {
		t.Errorf("%s: May(%+v) = false", what, m)
	}
	if got, e := Encode(m); got != s || e != api.OK {
		t.Errorf("%s: Encode(%+v) = %x, %d, not %x", what, m, got, e, s)
	}
	if got, e := Decode(s); got != m || e != api.OK {
		t.Errorf("%s: Decode(%x) = %+v, %d, not %+v", what, s, got, e, m)
	}
	if len(s) > api.MaxBody {
		t.Errorf("%s: %d bytes", what, len(s))
	}
}

// wantNot checks that a message may not be, and has no bytes.
func wantNot(t testing.TB, what string, m api.Msg) {
	t.Helper()
	if May(m) {
		t.Errorf("%s: May(%+v) = true", what, m)
	}
	if s, e := Encode(m); s != "" || e != api.ErrForm {
		t.Errorf("%s: Encode(%+v) = %x, %d", what, m, s, e)
	}
}

// wantNone checks that bytes are no message.
func wantNone(t testing.TB, what, s string) {
	t.Helper()
	if m, e := Decode(s); m != (api.Msg{}) || e != api.ErrForm {
		t.Errorf("%s: Decode(%.300x) = %+v, %d", what, s, m, e)
	}
}

// P11.1: the chapter's example.
func TestExample(t *testing.T) {
	wantMessage(t, "the example", example(), exampleBytes)
}

// P11.1: the numbers and texts stand in their order, each where it belongs.
func TestOrder(t *testing.T) {
	wantMessage(t, "all parts unlike", middle(), "\x0a\x2a\x16\x18\x1a\x1c\x04\x30\x1e\x20\x22\x24\x088 bytes.\x03row")
	base := api.Msg{Kind: 7}
	for i, c := range []struct {
		m api.Msg
		s string
	}{
		{api.Msg{Kind: 7, Epoch: 1}, "\x02\x00\x00\x00\x00\x00\x00\x00\x00\x00\x00\x00"},
		{api.Msg{Kind: 7, Seq: 1}, "\x00\x02\x00\x00\x00\x00\x00\x00\x00\x00\x00\x00"},
		{api.Msg{Kind: 7, N: 1}, "\x00\x00\x02\x00\x00\x00\x00\x00\x00\x00\x00\x00"},
		{api.Msg{Kind: 7, N: -1}, "\x00\x00\x01\x00\x00\x00\x00\x00\x00\x00\x00\x00"},
		{api.Msg{Kind: 7, Block: 1}, "\x00\x00\x00\x02\x00\x00\x00\x00\x00\x00\x00\x00"},
		{api.Msg{Kind: 7, Block: -1}, "\x00\x00\x00\x01\x00\x00\x00\x00\x00\x00\x00\x00"},
		{api.Msg{Kind: 7, Client: 1}, "\x00\x00\x00\x00\x02\x00\x00\x00\x00\x00\x00\x00"},
		{api.Msg{Kind: 7, Client: -1}, "\x00\x00\x00\x00\x01\x00\x00\x00\x00\x00\x00\x00"},
		{api.Msg{Kind: 7, E: 1}, "\x00\x00\x00\x00\x00\x02\x00\x00\x00\x00\x00\x00"},
		{api.Msg{Kind: 7, T: [4]int64{0: 1}}, "\x00\x00\x00\x00\x00\x00\x02\x00\x00\x00\x00\x00"},
		{api.Msg{Kind: 7, T: [4]int64{1: 1}}, "\x00\x00\x00\x00\x00\x00\x00\x02\x00\x00\x00\x00"},
		{api.Msg{Kind: 7, T: [4]int64{2: 1}}, "\x00\x00\x00\x00\x00\x00\x00\x00\x02\x00\x00\x00"},
		{api.Msg{Kind: 7, T: [4]int64{3: 1}}, "\x00\x00\x00\x00\x00\x00\x00\x00\x00\x02\x00\x00"},
		{api.Msg{Kind: 7, Data: "a"}, "\x00\x00\x00\x00\x00\x00\x00\x00\x00\x00\x01a\x00"},
		{api.Msg{Kind: 7, Row: "a"}, "\x00\x00\x00\x00\x00\x00\x00\x00\x00\x00\x00\x01a"},
		{base, "\x00\x00\x00\x00\x00\x00\x00\x00\x00\x00\x00\x00"},
	} {
		wantMessage(t, fmt.Sprintf("case %d", i), c.m, "\x07\x2a"+c.s)
	}
}

// P11.1: each kind that there is, and no other.
func TestKinds(t *testing.T) {
	for _, base := range []api.Msg{least(), middle(), greatest()} {
		for kind := -300; kind < 600; kind++ {
			m := base
			m.Kind = kind
			what := fmt.Sprintf("kind %d", kind)
			if kind >= api.MsgAsk && kind <= api.MsgAnswer {
				wantMessage(t, what, m, messageBytes(m))
				continue
			}
			wantNot(t, what, m)
			if kind >= 0 && kind < 256 {
				wantNone(t, what, messageBytes(m))
			}
		}
		for _, kind := range []int{1 << 8, 1<<8 + 1, 1<<16 + 1, 1<<31 + 1, 1<<32 + 1, -1<<32 + 1, 1<<62 + 1, math.MaxInt, math.MinInt, math.MinInt + 1} {
			m := base
			m.Kind = kind
			wantNot(t, fmt.Sprintf("kind %d", kind), m)
		}
	}
}

// part is one of a message's numbers, from where to where it may be, and how it is set.
type part struct {
	name     string
	from, to int64
	set      func(m *api.Msg, n int64)
	small    bool // is each number from there to there looked at?
	place    int  // as which of the record's numbers it stands
}

// parts tells a message's numbers but its kind.
func parts() []part {
	const most = 1 << 62
	l := []part{
		{"Epoch", 0, most, func(m *api.Msg, n int64) { m.Epoch = n }, false, 0},
		{"Seq", 0, most, func(m *api.Msg, n int64) { m.Seq = n }, false, 1},
		{"N", -most, most, func(m *api.Msg, n int64) { m.N = n }, false, 2},
		{"Block", -1, 31, func(m *api.Msg, n int64) { m.Block = int(n) }, true, 3},
		{"Client", -1, 3, func(m *api.Msg, n int64) { m.Client = int(n) }, true, 4},
		{"E", 0, 31, func(m *api.Msg, n int64) { m.E = api.Errno(n) }, true, 5},
	}
	for i := range api.MaxClients {
		l = append(l, part{fmt.Sprintf("T[%d]", i), 0, most, func(m *api.Msg, n int64) { m.T[i] = n }, false, 6 + i})
	}
	return l
}

// good tells numbers that a part may have: its edges, and what lies by them and by powers of two.
func (p part) good() []int64 {
	if p.small {
		var l []int64
		for n := p.from; n <= p.to; n++ {
			l = append(l, n)
		}
		return l
	}
	l := []int64{p.from, p.from + 1, p.to - 1, p.to, 0}
	for i := range 62 {
		n := int64(1) << i
		l = append(l, n-1, n, n+1)
		if p.from < 0 {
			l = append(l, -n-1, -n, -n+1)
		}
	}
	return l
}

// bad tells numbers that a part may not have: behind its edges, far off, and such of which the lowest bits alone are fine.
func (p part) bad() []int64 {
	l := []int64{p.from - 1, p.from - 2, p.to + 1, p.to + 2, math.MaxInt64, math.MaxInt64 - 1, math.MinInt64, math.MinInt64 + 1, math.MinInt64 + 5}
	for _, n := range []int64{1 << 8, 1 << 16, 1 << 31, 1 << 32, 1 << 33, 1 << 62} {
		for d := int64(-1); d <= 2; d++ {
			l = append(l, n+d, -n+d, p.from-n-d, p.to+n-d)
		}
	}
	return slices.DeleteFunc(l, func(n int64) bool { return n >= p.from && n <= p.to })
}

// P11.1: each number is from its least to its greatest, whatever the others are; what may not be is told neither way.
func TestNumbers(t *testing.T) {
	for _, base := range []api.Msg{least(), middle(), greatest()} {
		for _, p := range parts() {
			for _, n := range p.good() {
				m := base
				p.set(&m, n)
				wantMessage(t, fmt.Sprintf("%s %d", p.name, n), m, messageBytes(m))
			}
			for _, n := range p.bad() {
				m := base
				p.set(&m, n)
				what := fmt.Sprintf("%s %d", p.name, n)
				wantNot(t, what, m)
				nums := numbersOf(base)
				nums[p.place] = n
				wantNone(t, what, bytesOf(base.Kind, nums, base.Data, base.Row))
			}
		}
	}
}

// P11.1: two numbers that may not be don't make up for each other.
func TestTwoWrongNumbers(t *testing.T) {
	for _, p := range parts() {
		for _, q := range parts() {
			m := middle()
			p.set(&m, p.from-1)
			q.set(&m, q.to+1)
			wantNot(t, p.name+", "+q.name, m)
			wantNone(t, p.name+", "+q.name, messageBytes(m))
		}
	}
}

// P11.1: the texts have any bytes, up to so many; bytes are counted, not signs.
func TestTexts(t *testing.T) {
	for _, base := range []api.Msg{least(), middle(), greatest()} {
		for _, sign := range []string{"a", "\x00", "\xff", "é", "€"} {
			for n := range 260 {
				text := strings.Repeat(sign, n)
				if len(text) > 200 {
					break // no record has longer ones
				}
				what := fmt.Sprintf("%d times %q", n, sign)
				data, row := base, base
				data.Data, row.Row = text, text
				for _, c := range []struct {
					m  api.Msg
					ok bool
				}{{data, len(text) <= 40}, {row, len(text) <= 10}} {
					if c.ok {
						wantMessage(t, what, c.m, messageBytes(c.m))
						continue
					}
					wantNot(t, what, c.m)
					wantNone(t, what, messageBytes(c.m))
				}
			}
		}
		for _, n := range []int{201, 255, 256, 256 + 5, 1 << 16, 1 << 20} {
			data, row := base, base
			data.Data, row.Row = strings.Repeat("a", n), strings.Repeat("a", n)
			wantNot(t, fmt.Sprintf("Data of %d bytes", n), data)
			wantNot(t, fmt.Sprintf("Row of %d bytes", n), row)
		}
	}
}

// P11.1: a record of other counts of numbers or texts is no message's, however harmless they are.
func TestCounts(t *testing.T) {
	for nums := range 16 {
		for texts := range 5 {
			s := bytesOf(3, make([]int64, nums), make([]string, texts)...)
			what := fmt.Sprintf("%d numbers, %d texts", nums, texts)
			if nums == 10 && texts == 2 {
				wantMessage(t, what, api.Msg{Kind: 3}, s)
			} else {
				wantNone(t, what, s)
			}
		}
	}
	for texts := range 5 {
		wantNone(t, fmt.Sprintf("16 numbers, %d texts", texts), "\x03"+string([]byte{byte(240 + texts)})+strings.Repeat("\x00", 16+texts))
	}
}

// P11.1: what is no record's bytes is no message's.
func TestBytesOfNoRecord(t *testing.T) {
	for _, s := range []string{
		"", "\x01", "\x2a", "x", "\x01\x2a", "a letter", strings.Repeat("\x00", 14), strings.Repeat("\xff", 14),
		"\x01\x2a\x84\x00\x00\x00\x01\x00\x00\x00\x00\x00\x00\x00\x00", // a number of more bytes than needed
		"\x01\x2a\x04\x00\x00\x01\x00\x00\x00\x00\x00\x00\x01\x00",     // a text that isn't all there
		"\x01\x2a\x04\x00\x00\x01\x00\x00\x00\x00\x00\x00\x00\xff",
		strings.Repeat("\x01", 1<<20), strings.Repeat(exampleBytes, 2),
	} {
		wantNone(t, "no record", s)
	}
}

// P11.1, P11.2: no beginning of a message's bytes is a message, and nothing longer.
func TestCutAndLonger(t *testing.T) {
	for _, m := range []api.Msg{example(), least(), middle(), greatest()} {
		s := messageBytes(m)
		for i := range s {
			wantNone(t, fmt.Sprintf("the first %d bytes", i), s[:i])
			wantNone(t, fmt.Sprintf("without the first %d bytes", i+1), s[i+1:])
		}
		for c := range 256 {
			wantNone(t, "longer", s+string([]byte{byte(c)}))
		}
		wantNone(t, "twice", s+s)
		wantNone(t, "much longer", s+strings.Repeat("\x00", 1<<20))
	}
}

// P11.2: the longest message, in which no part can be longer, still goes into a letter.
func TestLongest(t *testing.T) {
	s, e := Encode(greatest())
	if len(s) != longest || e != api.OK || longest > api.MaxBody {
		t.Errorf("%d bytes, %d", len(s), e)
	}
	m := greatest()
	m.N = -1 << 62
	if s, e := Encode(m); len(s) != longest-1 || e != api.OK { // -2 n - 1 has a bit less than 2 n
		t.Errorf("%d bytes, %d", len(s), e)
	}
	if s, e := Encode(api.Msg{Kind: 1}); len(s) != 2+10+2 || e != api.OK {
		t.Errorf("the shortest one: %d bytes, %d", len(s), e)
	}
}

// someNumber tells a number of any length, as likely short as long, which now and then is an edge.
func someNumber(r *rand.Rand) int64 {
	if r.Intn(8) == 0 {
		return []int64{-1 << 62, -1<<62 - 1, 1 << 62, 1<<62 + 1, 0, -1, math.MinInt64, math.MaxInt64}[r.Intn(8)]
	}
	return int64(r.Uint64()>>1) >> r.Intn(63)
}

// someText tells a text of up to n bytes, seldom of one more.
func someText(r *rand.Rand, n int) string {
	b := make([]byte, r.Intn(n+1))
	if r.Intn(20) == 0 {
		b = make([]byte, n+1)
	}
	r.Read(b)
	return string(b)
}

// someMessage tells a message, which now and then may not be.
func someMessage(r *rand.Rand) api.Msg {
	m := api.Msg{
		Kind: 1 + r.Intn(15), Epoch: someNumber(r), Seq: someNumber(r), N: someNumber(r),
		Block: r.Intn(33) - 1, Client: r.Intn(5) - 1, E: api.Errno(r.Intn(32)),
		Data: someText(r, 40), Row: someText(r, 10),
	}
	for i := range m.T {
		m.T[i] = someNumber(r)
	}
	if r.Intn(2) == 0 {
		m.N = -m.N
	}
	switch r.Intn(40) {
	case 0:
		m.Kind = r.Intn(300)
	case 1:
		m.Block += r.Intn(100) - 50
	case 2:
		m.Client += r.Intn(20) - 10
	case 3:
		m.E += api.Errno(r.Intn(100) - 50)
	}
	return m
}

// P11.1, P11.2: any messages, of many parts that are at an edge at once, are told as the chapter's words say; those that may be come back.
func TestSomeMessages(t *testing.T) {
	r := rand.New(rand.NewSource(1))
	may := 0
	for i := range 40000 {
		m := someMessage(r)
		what := fmt.Sprintf("message %d", i)
		if mayBe(m) {
			may++
			wantMessage(t, what, m, messageBytes(m))
			continue
		}
		wantNot(t, what, m)
		if m.Kind >= 0 && m.Kind < 256 {
			wantNone(t, what, messageBytes(m))
		}
	}
	if may < 4000 || may > 36000 {
		t.Errorf("%d may be", may)
	}
}

// read tells the message that bytes are, by the library; false, if they are none.
func read(s string) (api.Msg, bool) {
	if len(s) < 2 || s[1] != 10+16*2 {
		return api.Msg{}, false
	}
	nums, rest := make([]int64, 10), []byte(s[2:])
	for i := range nums {
		n, size := binary.Varint(rest)
		if size <= 0 {
			return api.Msg{}, false
		}
		nums[i], rest = n, rest[size:]
	}
	var texts [2]string
	for i := range texts {
		if len(rest) == 0 || len(rest) <= int(rest[0]) {
			return api.Msg{}, false
		}
		size := int(rest[0])
		texts[i], rest = string(rest[1:1+size]), rest[1+size:]
	}
	m := api.Msg{
		Kind: int(s[0]), Epoch: nums[0], Seq: nums[1], N: nums[2], Block: int(nums[3]), Client: int(nums[4]), E: api.Errno(nums[5]),
		T: [4]int64(nums[6:]), Data: texts[0], Row: texts[1],
	}
	return m, mayBe(m) && messageBytes(m) == s // the library reads numbers of more bytes than needed, and passes over what stands behind
}

// wantRead checks any bytes against what the library reads.
func wantRead(t testing.TB, s string) {
	t.Helper()
	if m, ok := read(s); ok {
		wantMessage(t, "read by the library", m, s)
	} else {
		wantNone(t, "not read by the library", s)
	}
}

// P11.1: where one byte is any other one, what they are is none, or just the message that has these bytes.
func TestOneByteChanged(t *testing.T) {
	for _, m := range []api.Msg{example(), least(), middle(), greatest()} {
		s := messageBytes(m)
		for i := range s {
			for c := range 256 {
				b := []byte(s)
				b[i] = byte(c)
				wantRead(t, string(b))
			}
		}
	}
}

// P11.1: likewise where some bytes are changed, put in or left out.
func TestSomeBytesChanged(t *testing.T) {
	r := rand.New(rand.NewSource(2))
	for range 40000 {
		b := []byte(messageBytes(someMessage(r)))
		for range 1 + r.Intn(3) {
			at := r.Intn(len(b))
			switch r.Intn(3) {
			case 0:
				b[at] ^= 1 << r.Intn(8)
			case 1:
				b = slices.Insert(b, at, byte(r.Intn(256)))
			case 2:
				b = slices.Delete(b, at, at+1)
			}
		}
		wantRead(t, string(b))
	}
}

// R1, R2: the zero message, and one of which nothing is right, may not be.
func TestAllWrong(t *testing.T) {
	wantNot(t, "the zero message", api.Msg{})
	wantNone(t, "the zero message", messageBytes(api.Msg{}))
	long := strings.Repeat("x", 1<<24)
	wantNot(t, "all wrong", api.Msg{
		Kind: math.MinInt, Epoch: math.MinInt64, Seq: math.MinInt64, N: math.MinInt64, Block: math.MinInt, Client: math.MaxInt, E: math.MinInt,
		T: [4]int64{math.MaxInt64, math.MinInt64, math.MaxInt64, math.MinInt64}, Data: long, Row: long,
	})
	wantNone(t, "very many bytes", long)
}

// R4, R5: the same calls answer the same, whatever was asked in between; a message that was told is the caller's.
func TestAgain(t *testing.T) {
	m, _ := Decode(messageBytes(middle()))
	m.T[0], m.T[3] = -1, -1
	wantNot(t, "changed by the caller", m)
	for range 3 {
		wantMessage(t, "again", middle(), messageBytes(middle()))
		wantNone(t, "again", messageBytes(m))
		wantMessage(t, "again", greatest(), messageBytes(greatest()))
	}
}

func FuzzDecode(f *testing.F) {
	for _, m := range []api.Msg{example(), least(), middle(), greatest(), {}} {
		f.Add(messageBytes(m))
	}
	f.Fuzz(func(t *testing.T, s string) {
		wantRead(t, s)
	})
}
