package bits

import (
	"fmt"
	"math"
	"math/big"
	"math/rand"
	"slices"
	"strings"
	"testing"

	"seisin/api"
)

// want checks an error.
func want(t *testing.T, what string, e, w api.Errno) {
	t.Helper()
	if e != w {
		t.Errorf("%s: %d, not %d", what, e, w)
	}
}

// wantNone checks an error, and that beside it there is a row of none.
func wantNone(t *testing.T, what string, r Row, e, w api.Errno) {
	t.Helper()
	want(t, what, e, w)
	if r != (Row{}) {
		t.Errorf("%s: %v, not a row of none", what, r)
	}
}

// says checks a row by all that it tells: pattern has a sign for each place, from 0 on, 1 where it is marked.
func says(t *testing.T, what string, r Row, pattern string) {
	t.Helper()
	n := len(pattern)
	var all []int
	for i, c := range pattern {
		if c == '1' {
			all = append(all, i)
		}
		if got := r.Has(i); got != (c == '1') {
			t.Errorf("%s: Has(%d) = %v of %s", what, i, got, pattern)
		}
	}
	for _, i := range notOf(n) {
		if r.Has(i) {
			t.Errorf("%s: Has(%d) of %s", what, i, pattern)
		}
	}
	if r.Len() != n || r.Count() != len(all) || !slices.Equal(r.All(), all) {
		t.Errorf("%s: %d places, %d of them marked: %v, not %s", what, r.Len(), r.Count(), r.All(), pattern)
	}
	if got, w := r.Text(), textOf(pattern); got != w {
		t.Errorf("%s: %q, not %q", what, got, w)
	}
}

// notOf tells numbers of which a row of n places has none.
func notOf(n int) []int {
	return []int{-1, -2, -8, -n - 1, n, n + 1, n + 7, n + 8, n + 64, 64, 65, 127, 128, 255, 256, 1 << 32, -1 << 32, 1<<32 + 1, math.MaxInt, math.MinInt, math.MinInt + 1}
}

// turned tells a text the other way round.
func turned(s string) string {
	b := []byte(s)
	slices.Reverse(b)
	return string(b)
}

// textOf tells a pattern's text, by way of one great number, whose lowest bit is place 0.
func textOf(pattern string) string {
	whole, _ := new(big.Int).SetString("0"+turned(pattern), 2)
	b := whole.FillBytes(make([]byte, (len(pattern)+7)/8))
	slices.Reverse(b)
	return string(append([]byte{byte(len(pattern))}, b...))
}

// made makes the row of a pattern.
func made(t testing.TB, pattern string) Row {
	t.Helper()
	r := New(len(pattern))
	for i, c := range pattern {
		if c != '1' {
			continue
		}
		s, e := r.Put(i)
		if e != api.OK {
			t.Fatalf("Put(%d) of %s: %d", i, pattern, e)
		}
		r = s
	}
	return r
}

// patterns tells all patterns of n places.
func patterns(n int) []string {
	var l []string
	for k := range 1 << n {
		l = append(l, turned(fmt.Sprintf("%0*b", n, k))[:n])
	}
	return l
}

// somePatterns tells patterns of n places, at whose edges there are marks, and some by chance.
func somePatterns(r *rand.Rand, n int) []string {
	l := []string{strings.Repeat("0", n), strings.Repeat("1", n)}
	for _, i := range []int{0, 7, 8, 31, 32, n - 1} {
		if i >= 0 && i < n {
			l = append(l, with(l[0], i, '1'), with(l[1], i, '0'))
		}
	}
	for range 4 {
		b := make([]byte, n)
		for i := range b {
			b[i] = "01"[r.Intn(2)]
		}
		l = append(l, string(b))
	}
	return l
}

// with tells a pattern with another sign in a place.
func with(pattern string, i int, c byte) string {
	b := []byte(pattern)
	b[i] = c
	return string(b)
}

// TestExample: the chapter's example.
func TestExample(t *testing.T) {
	r, e := New(10).Put(9)
	want(t, "Put(9)", e, api.OK)
	r, e = r.Put(1)
	want(t, "Put(1)", e, api.OK)
	if l := r.All(); !slices.Equal(l, []int{1, 9}) {
		t.Errorf("All: %v", l)
	}
	if s := r.Text(); s != "\x0a\x02\x02" {
		t.Errorf("Text: %q", s)
	}
	if i, ok := r.Next(2); i != 9 || !ok {
		t.Errorf("Next: %d, %v", i, ok)
	}
	r, e = r.Del(9)
	want(t, "Del(9)", e, api.OK)
	if r.Count() != 1 {
		t.Errorf("Count: %d", r.Count())
	}
}

// P7.1: a new row has its places, none of them marked; what may be no row's number makes a row of none.
func TestNew(t *testing.T) {
	for n := range 65 {
		says(t, fmt.Sprint(n), New(n), strings.Repeat("0", n))
	}
	for _, n := range []int{-1, -2, -64, -65, 65, 66, 128, 255, 256, 257, 1 << 32, 1<<32 + 5, -1<<32 + 5, math.MaxInt, math.MinInt} {
		says(t, fmt.Sprint(n), New(n), "")
		if New(n) != New(0) {
			t.Errorf("New(%d): %v", n, New(n))
		}
	}
}

// P7.1: the zero value is a row of none.
func TestZero(t *testing.T) {
	var r Row
	says(t, "zero", r, "")
	if r != New(0) {
		t.Errorf("%v", New(0))
	}
}

// P7.1: a Put and a Del change their own place, whether it was marked or not, and no other one; the row itself stays.
func TestPutAndDel(t *testing.T) {
	rnd := rand.New(rand.NewSource(1))
	for n := range 65 {
		for _, pattern := range somePatterns(rnd, n) {
			r := made(t, pattern)
			for i := range n {
				what := fmt.Sprintf("%s, %d", pattern, i)
				p, e := r.Put(i)
				want(t, what, e, api.OK)
				says(t, what, p, with(pattern, i, '1'))
				d, e := r.Del(i)
				want(t, what, e, api.OK)
				says(t, what, d, with(pattern, i, '0'))
			}
			says(t, "afterwards", r, pattern)
		}
	}
}

// P7.1: to a place that isn't there neither is done, whatever is marked.
func TestNoSuchPlace(t *testing.T) {
	for n := range 65 {
		for _, c := range []string{"0", "1"} {
			pattern := strings.Repeat(c, n)
			r := made(t, pattern)
			for _, i := range notOf(n) {
				what := fmt.Sprintf("%s, %d", pattern, i)
				p, e := r.Put(i)
				wantNone(t, what, p, e, api.ErrRange)
				d, e := r.Del(i)
				wantNone(t, what, d, e, api.ErrRange)
			}
			says(t, "afterwards", r, pattern)
		}
	}
}

// next tells what a pattern's Next is.
func next(pattern string, i int) (int, bool) {
	from := min(max(i, 0), len(pattern))
	at := strings.IndexByte(pattern[from:], '1')
	if at < 0 {
		return 0, false
	}
	return from + at, true
}

// wantNext checks a row's Next of a number.
func wantNext(t *testing.T, pattern string, r Row, i int) {
	t.Helper()
	got, ok := r.Next(i)
	if w, is := next(pattern, i); got != w || ok != is {
		t.Errorf("%s: Next(%d) = %d, %v, not %d, %v", pattern, i, got, ok, w, is)
	}
}

// P7.1: the first marked place from any number on.
func TestNext(t *testing.T) {
	rnd := rand.New(rand.NewSource(2))
	for n := range 65 {
		l := somePatterns(rnd, n)
		if n <= 8 {
			l = patterns(n)
		}
		for _, pattern := range l {
			r := made(t, pattern)
			for i := -3; i < n+3; i++ {
				wantNext(t, pattern, r, i)
			}
			for _, i := range notOf(n) {
				wantNext(t, pattern, r, i)
			}
		}
	}
}

// P7.1: each row of few places tells what it is.
func TestEachRow(t *testing.T) {
	for n := range 11 {
		for _, pattern := range patterns(n) {
			says(t, "made", made(t, pattern), pattern)
		}
	}
}

// R3, R4: a list that is told is the caller's.
func TestAllIsNew(t *testing.T) {
	r := made(t, "0110000001")
	first := r.All()
	clear(first[:cap(first)])
	if again := r.All(); !slices.Equal(again, []int{1, 2, 9}) {
		t.Errorf("All again: %v", again)
	}
	says(t, "afterwards", r, "0110000001")
}

// or tells the pattern of what is marked in one of two.
func or(a, b string) string {
	c := []byte(a)
	for i := range c {
		c[i] = max(c[i], b[i])
	}
	return string(c)
}

// wantOr checks the Or of two rows of one length.
func wantOr(t *testing.T, a, b string) {
	t.Helper()
	r, s := made(t, a), made(t, b)
	o, e := r.Or(s)
	want(t, a+" or "+b, e, api.OK)
	says(t, a+" or "+b, o, or(a, b))
	if r != made(t, a) || s != made(t, b) {
		t.Errorf("%s or %s: they aren't as they were", a, b)
	}
}

// P7.2: two rows of one length.
func TestOr(t *testing.T) {
	rnd := rand.New(rand.NewSource(3))
	for n := range 65 {
		l := somePatterns(rnd, n)
		if n <= 5 {
			l = patterns(n)
		}
		for _, a := range l {
			for _, b := range l {
				wantOr(t, a, b)
			}
		}
	}
}

// P7.2: rows whose lengths aren't the same, whatever is marked in them, be it as many bytes or not.
func TestOrOfOtherLengths(t *testing.T) {
	for n := range 65 {
		for m := range 65 {
			if n == m {
				continue
			}
			for _, c := range []string{"00", "01", "10", "11"} {
				a, b := strings.Repeat(c[:1], n), strings.Repeat(c[1:], m)
				r, s := made(t, a), made(t, b)
				o, e := r.Or(s)
				wantNone(t, fmt.Sprint(n, " and ", m), o, e, api.ErrArg)
				if r != made(t, a) || s != made(t, b) {
					t.Errorf("%s or %s: they aren't as they were", a, b)
				}
			}
		}
	}
}

// P7.2: texts that are written out.
func TestText(t *testing.T) {
	for _, c := range []struct{ pattern, text string }{
		{"", "\x00"},
		{"0", "\x01\x00"},
		{"1", "\x01\x01"},
		{"01", "\x02\x02"},
		{"0000001", "\x07\x40"},
		{"00000000", "\x08\x00"},
		{"00000001", "\x08\x80"},
		{"10100001", "\x08\x85"},
		{"000000000", "\x09\x00\x00"},
		{"000000001", "\x09\x00\x01"},
		{"100000001", "\x09\x01\x01"},
		{"0100000001", "\x0a\x02\x02"},
		{"1111111111111111", "\x10\xff\xff"},
		{"11111111111111111", "\x11\xff\xff\x01"},
		{"0001" + strings.Repeat("0", 56) + "001", "\x3f\x08\x00\x00\x00\x00\x00\x00\x40"},
		{strings.Repeat("0", 64), "\x40\x00\x00\x00\x00\x00\x00\x00\x00"},
		{strings.Repeat("0", 63) + "1", "\x40\x00\x00\x00\x00\x00\x00\x00\x80"},
		{"1" + strings.Repeat("0", 63), "\x40\x01\x00\x00\x00\x00\x00\x00\x00"},
		{strings.Repeat("1", 64), "\x40\xff\xff\xff\xff\xff\xff\xff\xff"},
	} {
		if got := made(t, c.pattern).Text(); got != c.text {
			t.Errorf("Text of %s: %q, not %q", c.pattern, got, c.text)
		}
		r, e := Load(c.text)
		want(t, fmt.Sprintf("Load(%q)", c.text), e, api.OK)
		says(t, "loaded", r, c.pattern)
	}
}

// wantLoad checks the Load of a text, against the pattern that its bytes' bits are.
func wantLoad(t *testing.T, s string) {
	t.Helper()
	what := fmt.Sprintf("Load(%q)", s)
	r, e := Load(s)
	pattern, ok := patternOf(s)
	if !ok {
		wantNone(t, what, r, e, api.ErrForm)
		return
	}
	want(t, what, e, api.OK)
	says(t, what, r, pattern)
}

// patternOf tells the pattern that a text is of, if there is one.
func patternOf(s string) (string, bool) {
	if s == "" {
		return "", false
	}
	var b strings.Builder
	for _, c := range []byte(s[1:]) {
		b.WriteString(turned(fmt.Sprintf("%08b", c)))
	}
	n, bits := int(s[0]), b.String()
	if n > 64 || n > len(bits) || n <= len(bits)-8 || strings.Contains(bits[n:], "1") {
		return "", false
	}
	return bits[:n], true
}

// P7.2: each text of no more than two bytes, and many of three.
func TestLoadOfShortTexts(t *testing.T) {
	wantLoad(t, "")
	for a := range 256 {
		wantLoad(t, string([]byte{byte(a)}))
		for b := range 256 {
			wantLoad(t, string([]byte{byte(a), byte(b)}))
		}
	}
	for _, a := range []byte{0, 1, 7, 8, 9, 10, 15, 16, 17, 64, 255} {
		for b := range 256 {
			for _, c := range []byte{0, 1, 2, 3, 4, 127, 128, 255} {
				wantLoad(t, string([]byte{a, byte(b), c}))
			}
		}
	}
}

// P7.2: texts of each length behind each first byte, in which nothing is marked, or all.
func TestLengthsOfTexts(t *testing.T) {
	for n := range 256 {
		for l := range 40 {
			wantLoad(t, string([]byte{byte(n)})+strings.Repeat("\x00", l))
			wantLoad(t, string([]byte{byte(n)})+strings.Repeat("\xff", l))
		}
	}
	for n := 65; n < 256; n++ { // the rows that would be next
		wantLoad(t, textOf(strings.Repeat("0", n)))
		wantLoad(t, textOf(strings.Repeat("1", n)))
	}
	for _, l := range []int{256, 257, 264, 1 << 16, 1 << 20} {
		for _, c := range []string{"\x00", "\x01", "\x08", "\x40"} {
			s := strings.Repeat(c, l)
			r, e := Load(s)
			wantNone(t, fmt.Sprint(l, " bytes"), r, e, api.ErrForm)
		}
	}
}

// P7.2: no bit behind the places may be 1.
func TestBitsBehind(t *testing.T) {
	for n := range 65 {
		for _, c := range []string{"0", "1"} {
			text := textOf(strings.Repeat(c, n))
			for i := n; i < 8*(len(text)-1); i++ {
				b := []byte(text)
				b[1+i/8] |= 1 << (i % 8)
				r, e := Load(string(b))
				wantNone(t, fmt.Sprintf("%d places, bit %d", n, i), r, e, api.ErrForm)
			}
		}
	}
}

// P7.3: there and back, and texts that differ where the rows do.
func TestThereAndBack(t *testing.T) {
	rnd := rand.New(rand.NewSource(4))
	of := map[string]string{}
	for n := range 65 {
		l := somePatterns(rnd, n)
		if n <= 12 {
			l = patterns(n)
		}
		for _, pattern := range l {
			r := made(t, pattern)
			s := r.Text()
			if other, ok := of[s]; ok && other != pattern {
				t.Errorf("%q is the text of %s and %s", s, pattern, other)
			}
			of[s] = pattern
			back, e := Load(s)
			want(t, pattern, e, api.OK)
			if back != r || back.Text() != s {
				t.Errorf("%s: %q, and back %v", pattern, s, back)
			}
		}
	}
}

// P7.3: rows are the same, by whatever way they were made.
func TestSameByAnyWay(t *testing.T) {
	rnd := rand.New(rand.NewSource(5))
	for range 2000 {
		n := rnd.Intn(65)
		l := somePatterns(rnd, n)
		pattern := l[rnd.Intn(len(l))]
		r := New(n)
		for _, i := range rnd.Perm(n) {
			r, _ = r.Put(i)
		}
		for _, i := range rnd.Perm(n) {
			if pattern[i] == '0' {
				r, _ = r.Del(i)
			}
		}
		says(t, "by Del", r, pattern)
		loaded, e := Load(textOf(pattern))
		want(t, pattern, e, api.OK)
		if r != made(t, pattern) || r != loaded {
			t.Errorf("%s: %v and %v", pattern, r, loaded)
		}
	}
}

// P7.1, P7.2: long rows of calls, against patterns; what was a row earlier stays.
func TestLongRows(t *testing.T) {
	rnd := rand.New(rand.NewSource(6))
	for range 300 {
		n := 1 + rnd.Intn(64)
		r, pattern := New(n), strings.Repeat("0", n)
		past, pasts := []Row{r}, []string{pattern}
		for range 60 {
			i, other := rnd.Intn(n), rnd.Intn(len(past))
			var e api.Errno
			switch rnd.Intn(7) {
			case 0, 1:
				r, e = r.Put(i)
				pattern = with(pattern, i, '1')
			case 2, 3, 4:
				r, e = r.Del(i)
				pattern = with(pattern, i, '0')
			case 5:
				r, e = r.Or(past[other])
				pattern = or(pattern, pasts[other])
			case 6:
				r, e = Load(past[other].Text())
				pattern = pasts[other]
			}
			want(t, "call", e, api.OK)
			says(t, "call", r, pattern)
			past, pasts = append(past, r), append(pasts, pattern)
		}
		for i, p := range past {
			says(t, "earlier", p, pasts[i])
		}
	}
}

func FuzzLoad(f *testing.F) {
	f.Add("")
	f.Add("\x00")
	f.Add("\x0a\x02\x02")
	f.Add("\x0a\x02\x04")
	f.Add("\x40\xff\xff\xff\xff\xff\xff\xff\xff")
	f.Add("\x41\x00\x00\x00\x00\x00\x00\x00\x00\x00")
	f.Fuzz(wantLoad)
}
