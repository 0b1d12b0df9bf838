package code

import (
	"bytes"
	"encoding/binary"
	"math"
	"math/rand"
	"slices"
	"strings"
	"testing"

	"seisin/api"
)

// longest is how many bytes the longest record has.
const longest = 2 + api.MaxNums*10 + api.MaxTexts*(1+api.MaxText)

// known is records and their bytes, as the chapter has them, and at the edges that it names.
func known() []struct {
	r api.Rec
	b string
} {
	sixteen := make([]int64, 16)
	full := strings.Repeat("t", 200)
	return []struct {
		r api.Rec
		b string
	}{
		{api.Rec{Kind: 3, Nums: []int64{0, -1, 300}}, "\x03\x03\x00\x01\xd8\x04"},
		{api.Rec{Kind: 9, Texts: []string{"ab"}}, "\x09\x10\x02ab"},
		{api.Rec{}, "\x00\x00"},
		{api.Rec{Kind: 255}, "\xff\x00"},
		{api.Rec{Kind: 128, Nums: []int64{1}}, "\x80\x01\x02"},
		{api.Rec{Kind: 1, Texts: []string{""}}, "\x01\x10\x00"},
		{api.Rec{Kind: 1, Texts: []string{"", "", "", ""}}, "\x01\x40\x00\x00\x00\x00"},
		{api.Rec{Kind: 1, Texts: []string{"\x00\xff", "é"}}, "\x01\x20\x02\x00\xff\x02\xc3\xa9"},
		{api.Rec{Kind: 1, Texts: []string{full}}, "\x01\x10\xc8" + full},
		{api.Rec{Kind: 7, Nums: []int64{2, -2}, Texts: []string{"x", "yz"}}, "\x07\x22\x04\x03\x01x\x02yz"},
		{api.Rec{Kind: 7, Nums: sixteen[:15]}, "\x07\x0f" + strings.Repeat("\x00", 15)},
		{api.Rec{Kind: 7, Nums: sixteen[:15], Texts: []string{"a", "b", "c", "d"}}, "\x07\x4f" + strings.Repeat("\x00", 15) + "\x01a\x01b\x01c\x01d"},
		{api.Rec{Kind: 7, Nums: sixteen}, "\x07\xf0" + strings.Repeat("\x00", 16)},
		{api.Rec{Kind: 7, Nums: sixteen, Texts: []string{"a"}}, "\x07\xf1" + strings.Repeat("\x00", 16) + "\x01a"},
		{api.Rec{Kind: 7, Nums: sixteen, Texts: []string{"", "", "", ""}}, "\x07\xf4" + strings.Repeat("\x00", 20)},
	}
}

// longestRecord tells a record of which no part can be longer.
func longestRecord() api.Rec {
	text := strings.Repeat("\xff", api.MaxText)
	return api.Rec{
		Kind:  255,
		Nums:  slices.Repeat([]int64{math.MinInt64}, api.MaxNums),
		Texts: slices.Repeat([]string{text}, api.MaxTexts),
	}
}

// someNumber tells a number of any length, as likely short as long.
func someNumber(r *rand.Rand) int64 {
	return int64(r.Uint64()) >> r.Intn(64)
}

// someRecord tells a record that may be, always the same ones for one source.
func someRecord(r *rand.Rand) api.Rec {
	rec := api.Rec{Kind: r.Intn(256)}
	for range r.Intn(api.MaxNums + 1) {
		rec.Nums = append(rec.Nums, someNumber(r))
	}
	for range r.Intn(api.MaxTexts + 1) {
		text := make([]byte, r.Intn(api.MaxText+1)>>r.Intn(8))
		r.Read(text)
		rec.Texts = append(rec.Texts, string(text))
	}
	return rec
}

func same(a, b api.Rec) bool {
	return a.Kind == b.Kind && slices.Equal(a.Nums, b.Nums) && slices.Equal(a.Texts, b.Texts)
}

// wantRecord holds Decode's answer against a record.
func wantRecord(t *testing.T, b []byte, want api.Rec) {
	t.Helper()
	if got, e := Decode(b); e != api.OK || !same(got, want) {
		t.Errorf("Decode(%x) = %#v, %d, want %#v", b, got, e, want)
	}
}

// wantNone holds Decode's answer against none.
func wantNone(t *testing.T, b []byte) {
	t.Helper()
	if got, e := Decode(b); e != api.ErrForm || !same(got, api.Rec{}) {
		t.Errorf("Decode(%x) = %#v, %d, want ErrForm", b, got, e)
	}
}

// P2.1, P2.2: known records, there and back.
func TestKnownRecords(t *testing.T) {
	for _, c := range known() {
		b, e := Encode(c.r)
		if e != api.OK || string(b) != c.b {
			t.Errorf("Encode(%#v) = %x, %d, want %x", c.r, b, e, c.b)
		}
		if !May(c.r) {
			t.Errorf("May(%#v) = false", c.r)
		}
		if got := Size(c.r); got != len(c.b) {
			t.Errorf("Size(%#v) = %d, want %d", c.r, got, len(c.b))
		}
		wantRecord(t, []byte(c.b), c.r)
	}
}

// P2.1: what is one beyond an edge, or far beyond, may not be, whatever the rest is.
func TestRecordsThatMayNotBe(t *testing.T) {
	long := strings.Repeat("x", api.MaxText+1)
	wrong := []api.Rec{
		{Kind: -1}, {Kind: 256}, {Kind: 256 + 3}, {Kind: -256}, {Kind: math.MinInt}, {Kind: math.MaxInt}, {Kind: 1 << 32},
		{Nums: make([]int64, 17)}, {Nums: make([]int64, 32)}, {Nums: make([]int64, 1<<20)},
		{Texts: make([]string, 5)}, {Texts: make([]string, 16)}, {Texts: make([]string, 1<<20)},
		{Texts: []string{long}}, {Texts: []string{strings.Repeat("x", 256)}}, {Texts: []string{strings.Repeat("x", 1<<20)}},
		{Kind: 1, Nums: []int64{1}, Texts: []string{"a", "b", "c", long}},
		{Kind: 1, Texts: []string{long, "a"}},
		{Kind: 256, Nums: make([]int64, 17), Texts: []string{long}},
	}
	for i, r := range wrong {
		if May(r) {
			t.Errorf("case %d: May", i)
		}
		if b, e := Encode(r); e != api.ErrForm || len(b) != 0 {
			t.Errorf("case %d: Encode = %x, %d", i, b, e)
		}
		if n := Size(r); n != 0 {
			t.Errorf("case %d: Size = %d", i, n)
		}
	}
}

// P2.1, P2.2: each kind there is.
func TestEveryKind(t *testing.T) {
	for k := range 256 {
		r := api.Rec{Kind: k, Nums: []int64{5}}
		b, e := Encode(r)
		if e != api.OK || !bytes.Equal(b, []byte{byte(k), 1, 10}) {
			t.Errorf("Encode(%#v) = %x, %d", r, b, e)
		}
		wantRecord(t, b, r)
	}
}

// P2.1, P2.2: each count of numbers, with each count of texts.
func TestEveryCount(t *testing.T) {
	for nums := range api.MaxNums + 1 {
		for texts := range api.MaxTexts + 1 {
			r := api.Rec{Kind: 1, Nums: make([]int64, nums), Texts: make([]string, texts)}
			want := nums + 16*texts
			if nums == 16 {
				want = 240 + texts
			}
			b, e := Encode(r)
			if e != api.OK || len(b) != 2+nums+texts || int(b[1]) != want {
				t.Errorf("%d numbers, %d texts: %x, %d", nums, texts, b, e)
			}
			wantRecord(t, b, r)
		}
	}
}

// P2.1: how a number's bytes go, at each length's ends.
func TestNumberOfKnownNumbers(t *testing.T) {
	for _, c := range []struct {
		n int64
		b string
	}{
		{0, "\x00"}, {-1, "\x01"}, {1, "\x02"}, {-2, "\x03"}, {300, "\xd8\x04"},
		{63, "\x7e"}, {-64, "\x7f"}, {64, "\x80\x01"}, {-65, "\x81\x01"},
		{8191, "\xfe\x7f"}, {-8192, "\xff\x7f"}, {8192, "\x80\x80\x01"}, {-8193, "\x81\x80\x01"},
		{api.MaxNumber, "\x80\x80\x80\x80\x80\x80\x80\x80\x80\x01"},
		{-api.MaxNumber, "\xff\xff\xff\xff\xff\xff\xff\xff\x7f"},
		{math.MaxInt64, "\xfe\xff\xff\xff\xff\xff\xff\xff\xff\x01"},
		{math.MinInt64, "\xff\xff\xff\xff\xff\xff\xff\xff\xff\x01"},
	} {
		if got := Number(c.n); string(got) != c.b {
			t.Errorf("Number(%d) = %x, want %x", c.n, got, c.b)
		}
		wantRecord(t, []byte("\x05\x01"+c.b), api.Rec{Kind: 5, Nums: []int64{c.n}})
	}
}

// P2.1, P2.3: numbers of all lengths, near to each power of two and anywhere, there and back.
func TestNumbersThereAndBack(t *testing.T) {
	r := rand.New(rand.NewSource(1))
	numbers := []int64{math.MaxInt64, math.MinInt64}
	for i := range 63 {
		for d := range int64(5) {
			n := int64(1)<<i + d - 2
			numbers = append(numbers, n, -n)
		}
	}
	for range 5000 {
		numbers = append(numbers, someNumber(r))
	}
	for _, n := range numbers {
		b := Number(n)
		if want := binary.AppendVarint(nil, n); !bytes.Equal(b, want) {
			t.Errorf("Number(%d) = %x, want %x", n, b, want)
		}
		wantRecord(t, slices.Concat([]byte{0, 1}, b), api.Rec{Nums: []int64{n}})
	}
}

// P2.1: the longest record, and how long it is.
func TestLongestRecord(t *testing.T) {
	r := longestRecord()
	b, e := Encode(r)
	if !May(r) || e != api.OK || len(b) != longest || Size(r) != longest {
		t.Errorf("%d bytes, %d; Size = %d, want %d", len(b), e, Size(r), longest)
	}
	wantRecord(t, b, r)
	wantNone(t, append(b, 0))
}

// P2.2: the chapter's examples, and others of which no record has the bytes.
func TestBytesOfNoRecord(t *testing.T) {
	for _, s := range []string{
		"\x03\x01\x80\x00", "\x03\x01", "\x03\x00\x00",
		"", "\x03", "\xff",
		"\x03\x01\x80", "\x03\x02\x00", "\x03\x02\x00\x80\x01\x00", "\x03\x01\xff\xff\xff\xff\xff\xff\xff\xff\xff",
		"\x03\x10", "\x03\x10\x01", "\x03\x10\x02a", "\x03\x10\x00\x00", "\x03\x10\x01ab", "\x03\x20\x01a", "\x03\x20\x00\x00\x00",
		"\x03\xf0" + strings.Repeat("\x00", 15), "\x03\xf0" + strings.Repeat("\x00", 17),
		"\x03\x10\xc9" + strings.Repeat("a", 201), "\x03\x10\xff" + strings.Repeat("a", 255),
	} {
		wantNone(t, []byte(s))
	}
}

// P2.2, R6: no bytes and nil are one.
func TestDecodeOfNoBytes(t *testing.T) {
	wantNone(t, nil)
	wantNone(t, []byte{})
}

// P2.2: which of the bytes that count may be, whatever follows.
func TestEveryCountingByte(t *testing.T) {
	for c := range 256 {
		nums, texts := c%16, c/16
		if c >= 240 {
			nums, texts = 16, c-240
		}
		for follow := range 40 {
			b := append([]byte{6, byte(c)}, make([]byte, follow)...)
			if texts <= 4 && follow == nums+texts {
				wantRecord(t, b, api.Rec{Kind: 6, Nums: make([]int64, nums), Texts: make([]string, texts)})
			} else {
				wantNone(t, b)
			}
		}
	}
}

// P2.2: a text's byte may tell up to MaxText, and what it tells must be there.
func TestEveryTextLength(t *testing.T) {
	text := strings.Repeat("abcde", 60)
	for n := range 256 {
		for _, have := range []int{n - 1, n, n + 1} {
			if have < 0 {
				continue
			}
			b := append([]byte{6, 16, byte(n)}, text[:have]...)
			if have == n && n <= api.MaxText {
				wantRecord(t, b, api.Rec{Kind: 6, Texts: []string{text[:n]}})
			} else {
				wantNone(t, b)
			}
		}
	}
}

// P2.2: a number has no more bytes than needed, and no more bits than 64.
func TestNumbersThatAreNone(t *testing.T) {
	for size := range 9 {
		low := slices.Repeat([]byte{0x85}, size+1)
		wantNone(t, slices.Concat([]byte{0, 1}, low, []byte{0}))
		wantNone(t, slices.Concat([]byte{0, 1}, low, []byte{0x80, 0}))
		wantRecord(t, slices.Concat([]byte{0, 1}, low, []byte{1}), api.Rec{Nums: []int64{valueOf(append(low, 1))}})
	}
	nine := slices.Repeat([]byte{0x80}, 9)
	for last := range 256 {
		b := slices.Concat([]byte{0, 1}, nine, []byte{byte(last)})
		if last == 1 {
			wantRecord(t, b, api.Rec{Nums: []int64{1 << 62}})
		} else {
			wantNone(t, b)
		}
		wantNone(t, append(b, 0))
		wantNone(t, append(b, 1))
	}
	for _, more := range []int{10, 11, 20, 1000} {
		wantNone(t, slices.Concat([]byte{0, 1}, slices.Repeat([]byte{0x80}, more), []byte{1}))
		wantNone(t, slices.Concat([]byte{0, 1}, slices.Repeat([]byte{0xff}, more)))
	}
}

// valueOf tells which number bytes are, by the library.
func valueOf(b []byte) int64 {
	n, _ := binary.Varint(b)
	return n
}

// decodes tells how many of the rows of n bytes that begin with head are a record's, each of which must be what Encode tells of that record.
func decodes(t *testing.T, head []byte, n int) int {
	t.Helper()
	if len(head) == n {
		r, e := Decode(head)
		if e != api.OK {
			return 0
		}
		if b, _ := Encode(r); !bytes.Equal(b, head) {
			t.Errorf("Decode(%x) = %#v, which is %x", head, r, b)
		}
		return 1
	}
	found := 0
	for c := range 256 {
		found += decodes(t, append(slices.Clip(head), byte(c)), n)
	}
	return found
}

// P2.2, P2.3: of all short bytes just as many are a record's as there are records of that size.
func TestAllShortBytes(t *testing.T) {
	const one, two = 1 << 7, 1<<14 - 1<<7 // how many numbers have one byte, two
	for _, c := range []struct {
		head    string
		n, want int
	}{
		{"", 1, 0},
		{"", 2, 256},
		{"\x00", 3, one + 1},
		{"\x80", 3, one + 1},
		{"\x09\x01", 4, two},
		{"\x09\x02", 4, one * one},
		{"\x09\x10", 4, 256},
		{"\x09\x11", 4, one},
		{"\x09\x20", 4, 1},
		{"\x09\x12", 4, 0},
		{"\x09\x00", 4, 0},
		{"\x09\xf0", 4, 0},
		{"\x09\x02\x00", 5, two},
		{"\x09\x02\x80", 5, one * (one - 1)},
		{"\x09\x10\x02", 5, 1 << 16},
	} {
		if got := decodes(t, []byte(c.head), c.n); got != c.want {
			t.Errorf("%d records of %d bytes begin with %x, want %d", got, c.n, c.head, c.want)
		}
	}
}

// P2.3: any record comes back from its bytes; no part of those, and nothing longer, is another one's.
func TestRecordsThereAndBack(t *testing.T) {
	r := rand.New(rand.NewSource(2))
	for range 500 {
		rec := someRecord(r)
		b, e := Encode(rec)
		if e != api.OK || Size(rec) != len(b) || !May(rec) {
			t.Fatalf("Encode(%#v) = %x, %d; Size = %d", rec, b, e, Size(rec))
		}
		wantRecord(t, b, rec)
		for i := range b {
			wantNone(t, b[:i])
		}
		other, _ := Encode(someRecord(r))
		for _, behind := range [][]byte{{0}, {1}, {byte(r.Intn(256))}, other} {
			wantNone(t, slices.Concat(b, behind))
		}
	}
}

// P2.2, P2.3: where one byte is another one, what they are is none or just what these bytes are of.
func TestChangedBytes(t *testing.T) {
	r := rand.New(rand.NewSource(3))
	for range 20000 {
		b, _ := Encode(someRecord(r))
		b[r.Intn(min(len(b), 24))] ^= byte(1 << r.Intn(8))
		wantOneWay(t, b)
	}
}

// wantOneWay holds any bytes against P2.2 and P2.3: they are none, or what a record that may be has as its bytes.
func wantOneWay(t *testing.T, b []byte) {
	t.Helper()
	rec, e := Decode(b)
	if e != api.OK {
		wantNone(t, b)
		return
	}
	if back, e := Encode(rec); e != api.OK || !bytes.Equal(back, b) {
		t.Errorf("Decode(%x) = %#v, which is %x, %d", b, rec, back, e)
	}
}

// R1: very many bytes are gone through no further than a record goes.
func TestDecodeOfVeryMany(t *testing.T) {
	for _, c := range []byte{0, 1, 0x10, 0x4f, 0x80, 0xf4, 0xff} {
		wantNone(t, bytes.Repeat([]byte{c}, 1<<24))
	}
}

// R3, R4: what is answered is the caller's: nothing that is done with it shows in what it was told from, nor in a later answer.
func TestAnswersShareNothing(t *testing.T) {
	rec := api.Rec{Kind: 4, Nums: []int64{1, -70}, Texts: []string{"abc", "d"}}
	first, _ := Encode(rec)
	was := bytes.Clone(first)
	number := Number(-70)
	clear(first[:cap(first)])
	clear(number[:cap(number)])
	if again, e := Encode(rec); e != api.OK || !bytes.Equal(again, was) {
		t.Errorf("Encode again = %x, %d, want %x", again, e, was)
	}
	if again := Number(-70); string(again) != "\x8b\x01" {
		t.Errorf("Number again = %x", again)
	}

	b := bytes.Clone(was)
	got, _ := Decode(b)
	clear(b)
	if !same(got, rec) {
		t.Errorf("changing the bytes changed the record: %#v", got)
	}
	got, _ = Decode(was)
	got.Nums[0], got.Texts[0] = 99, "other"
	wantRecord(t, was, rec)
}

// R3: arguments stay as they were, also behind their end.
func TestArgumentsStay(t *testing.T) {
	nums, texts := []int64{1, 2, 3, 4}, []string{"a", "b", "c"}
	rec := api.Rec{Kind: 4, Nums: nums[:2], Texts: texts[:1]}
	Encode(rec)
	May(rec)
	Size(rec)
	if !slices.Equal(nums, []int64{1, 2, 3, 4}) || !slices.Equal(texts, []string{"a", "b", "c"}) {
		t.Errorf("the record was changed: %v, %q", nums, texts)
	}
	room := []byte("\x09\x10\x02ab, and what stands behind")
	was := bytes.Clone(room)
	Decode(room[:5])
	Decode(room)
	if !bytes.Equal(room, was) {
		t.Errorf("bytes were changed: %q", room)
	}
}

// R6: a record's empty lists and none are one.
func TestEmptyLists(t *testing.T) {
	r := api.Rec{Kind: 2, Nums: []int64{}, Texts: []string{}}
	b, e := Encode(r)
	if e != api.OK || string(b) != "\x02\x00" || !May(r) || Size(r) != 2 {
		t.Errorf("Encode(%#v) = %x, %d", r, b, e)
	}
}

func FuzzDecode(f *testing.F) {
	for _, c := range known() {
		f.Add([]byte(c.b))
	}
	whole, _ := Encode(longestRecord())
	f.Add(whole)
	f.Fuzz(func(t *testing.T, b []byte) {
		wantOneWay(t, b)
	})
}
