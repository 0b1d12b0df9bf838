package crc

import (
	"bytes"
	"hash/crc32"
	"math"
	"math/rand"
	"strings"
	"testing"
)

// order is after how many zero bytes each sum is as it was: that many times x^8 is 1.
const order = 1<<31 - 1

var castagnoli = crc32.MakeTable(crc32.Castagnoli)

// someBytes tells n bytes, always the same ones for one source.
func someBytes(r *rand.Rand, n int) []byte {
	b := make([]byte, n)
	for i := range b {
		b[i] = byte(r.Intn(256))
	}
	return b
}

// P1.1: the chapter's examples, and others that are known.
func TestSumOfKnownBytes(t *testing.T) {
	rising := make([]byte, 32)
	for i := range rising {
		rising[i] = byte(i)
	}
	for _, c := range []struct {
		text string
		want uint32
	}{
		{"", 0},
		{"123456789", 0xe3069283},
		{strings.Repeat("\x00", 32), 0x8a9136aa},
		{strings.Repeat("\xff", 32), 0x62a8ab43},
		{string(rising), 0x46dd794e},
		{"a", 0xc1d04330},
		{"\x00", 0x527d5351},
	} {
		if got := Sum([]byte(c.text)); got != c.want {
			t.Errorf("Sum(%q) = %08x, want %08x", c.text, got, c.want)
		}
	}
}

// P1.1: every length has its own way through the bytes, up to more than a sector's.
func TestSumOfAllLengths(t *testing.T) {
	r := rand.New(rand.NewSource(1))
	for n := range 300 {
		b := someBytes(r, n)
		if got, want := Sum(b), crc32.Checksum(b, castagnoli); got != want {
			t.Fatalf("Sum of %d bytes = %08x, want %08x", n, got, want)
		}
	}
	for c := range 256 {
		b := []byte{byte(c)}
		if got, want := Sum(b), crc32.Checksum(b, castagnoli); got != want {
			t.Errorf("Sum of byte %d = %08x, want %08x", c, got, want)
		}
	}
}

// P1.1, R6: no bytes and nil are one, and leave a sum as it is.
func TestNoBytes(t *testing.T) {
	for _, none := range [][]byte{nil, {}} {
		if got := Sum(none); got != 0 {
			t.Errorf("Sum of none = %08x", got)
		}
		if !Check(none, 0) || Check(none, 1) || Check(none, math.MaxUint32) {
			t.Error("Check of none")
		}
		for _, sum := range []uint32{0, 1, 0xe3069283, math.MaxUint32} {
			if got := More(sum, none); got != sum {
				t.Errorf("More(%08x, none) = %08x", sum, got)
			}
		}
	}
}

// P1.1: wherever bytes are cut, going on comes to the same sum.
func TestMoreAtEveryCut(t *testing.T) {
	r := rand.New(rand.NewSource(2))
	b := someBytes(r, 150)
	want := Sum(b)
	for i := range len(b) + 1 {
		if got := More(Sum(b[:i]), b[i:]); got != want {
			t.Errorf("More at %d = %08x, want %08x", i, got, want)
		}
	}
	sum := uint32(0)
	for i := range b {
		sum = More(sum, b[i:i+1])
	}
	if sum != want {
		t.Errorf("byte by byte: %08x, want %08x", sum, want)
	}
}

// P1.1: whatever bytes had the sum, More is one. Any number is the sum of some bytes.
func TestMoreOfAnySum(t *testing.T) {
	r := rand.New(rand.NewSource(3))
	sums := []uint32{0, 1, 1 << 31, math.MaxUint32, poly}
	for range 200 {
		sums = append(sums, r.Uint32())
	}
	for _, sum := range sums {
		b := someBytes(r, r.Intn(40))
		if got, want := More(sum, b), crc32.Update(sum, castagnoli, b); got != want {
			t.Errorf("More(%08x, %x) = %08x, want %08x", sum, b, got, want)
		}
	}
}

// P1.1: a sum of which one bit is another one is refused.
func TestCheckOfWrongSums(t *testing.T) {
	r := rand.New(rand.NewSource(4))
	for n := range 40 {
		b := someBytes(r, n)
		sum := Sum(b)
		if !Check(b, sum) {
			t.Errorf("Check(%x) refuses its sum", b)
		}
		for i := range 32 {
			if Check(b, sum^1<<i) {
				t.Errorf("Check(%x) takes a sum with bit %d turned", b, i)
			}
		}
		if Check(b, ^sum) {
			t.Errorf("Check(%x) takes the sum turned", b)
		}
	}
}

// P1.2: ordinary bytes, cut anywhere, with no bytes ahead or behind, too.
func TestJoinAtEveryCut(t *testing.T) {
	r := rand.New(rand.NewSource(5))
	for _, size := range []int{0, 1, 2, 9, 144, 200} {
		b := someBytes(r, size)
		for i := range len(b) + 1 {
			if got, want := Join(Sum(b[:i]), Sum(b[i:]), len(b)-i), Sum(b); got != want {
				t.Errorf("Join of %d bytes at %d = %08x, want %08x", size, i, got, want)
			}
		}
	}
}

// P1.2: which bytes had the first sum is no matter; nor is how long they were.
func TestJoinOfAnySum(t *testing.T) {
	r := rand.New(rand.NewSource(6))
	for _, n := range []int{1, 2, 3, 4, 7, 8, 31, 32, 33, 255, 256, 1000, 70000} {
		a, b := r.Uint32(), someBytes(r, n)
		if got, want := Join(a, Sum(b), n), More(a, b); got != want {
			t.Errorf("Join(%08x, .., %d) = %08x, want %08x", a, n, got, want)
		}
	}
}

// P1.2: below 1 there is nothing behind, whatever sum is told for it.
func TestJoinBelowOne(t *testing.T) {
	for _, n := range []int{0, -1, -2, -8, math.MinInt32, math.MinInt + 1, math.MinInt} {
		for _, a := range []uint32{0, 5, 0xe3069283, math.MaxUint32} {
			for _, b := range []uint32{0, 7, math.MaxUint32} {
				if got := Join(a, b, n); got != a {
					t.Errorf("Join(%08x, %08x, %d) = %08x", a, b, n, got)
				}
			}
		}
	}
}

// P1.2: more bytes than there could be are joined at once.
func TestJoinOfVeryMany(t *testing.T) {
	r := rand.New(rand.NewSource(7))
	for range 50 {
		a, b, c := r.Uint32(), r.Uint32(), r.Uint32()
		if got := Join(a, b, order); got != a^b {
			t.Errorf("Join(%08x, %08x, %d) = %08x, want %08x", a, b, order, got, a^b)
		}
		for _, n := range []int{1<<31 + 5, 1 << 40, 1<<62 - 1, 1 << 62, math.MaxInt} {
			if got, want := Join(a, b, n), Join(a, b, (n-1)%order+1); got != want {
				t.Errorf("Join(%08x, %08x, %d) = %08x, want %08x", a, b, n, got, want)
			}
		}
		n, m := 1+r.Intn(math.MaxInt/2), 1+r.Intn(math.MaxInt/2)
		left, right := Join(Join(a, b, n), c, m), Join(a, Join(b, c, m), n+m)
		if left != right {
			t.Errorf("three of %08x, %08x, %08x, with %d and %d: %08x, %08x", a, b, c, n, m, left, right)
		}
	}
}

// differ tells bytes that are as b, but that the 32 bits from the bit at on are told apart from mask (whose lowest bit is one, so that something differs), as far as b goes.
func differ(b []byte, at int, mask uint32) []byte {
	c := bytes.Clone(b)
	for i := range 32 {
		if k := at + i; mask>>i&1 == 1 && k < 8*len(c) {
			c[k/8] ^= 1 << (k % 8)
		}
	}
	return c
}

// P1.3: each place, and 32 bits from there: the ends of what differs, all of it, and anything between.
func TestNearDifferencesAreSeen(t *testing.T) {
	r := rand.New(rand.NewSource(8))
	masks := []uint32{1, 1<<31 | 1, math.MaxUint32, poly | 1, 0xff, 0xff00ff01}
	for i := 1; i < 32; i++ {
		masks = append(masks, 1<<i|1, r.Uint32()|1)
	}
	for _, n := range []int{1, 2, 3, 4, 5, 6, 9, 37, 144} {
		b := someBytes(r, n)
		sum := Sum(b)
		for at := range 8 * n {
			for _, mask := range masks {
				c := differ(b, at, mask)
				if Sum(c) == sum || Check(c, sum) {
					t.Errorf("%d bytes, from bit %d on told apart from %08x: %08x all the same", n, at, mask, sum)
				}
			}
		}
	}
}

// P1.3: bytes of at most 32 bits have each a sum of their own.
func TestShortBytesHaveSumsOfTheirOwn(t *testing.T) {
	seen := map[uint32]bool{}
	for i := range 1 << 16 {
		seen[Sum([]byte{byte(i), byte(i >> 8)})] = true
	}
	if len(seen) != 1<<16 {
		t.Errorf("two bytes have only %d sums", len(seen))
	}
	r := rand.New(rand.NewSource(9))
	four := map[uint32]string{}
	for range 1 << 16 {
		b := someBytes(r, 4)
		sum := Sum(b)
		if other, ok := four[sum]; ok && other != string(b) {
			t.Errorf("%x and %x have the sum %08x", other, b, sum)
		}
		four[sum] = string(b)
	}
}

// R3, R4: bytes stay as they were, also behind their end, and are answered alike again.
func TestArgumentsStay(t *testing.T) {
	room := []byte("123456789, and what stands behind")
	was := bytes.Clone(room)
	b := room[:9]
	for range 2 {
		if Sum(b) != 0xe3069283 || More(0xc1d04330, b) != crc32.Update(0xc1d04330, castagnoli, was[:9]) || !Check(b, 0xe3069283) {
			t.Error("answered otherwise")
		}
	}
	if !bytes.Equal(room, was) {
		t.Errorf("bytes were changed: %q", room)
	}
}

func BenchmarkSum(b *testing.B) {
	sector := someBytes(rand.New(rand.NewSource(10)), 144)
	b.SetBytes(int64(len(sector)))
	for range b.N {
		Sum(sector)
	}
}
