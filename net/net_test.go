package net

import (
	"fmt"
	"math"
	"math/big"
	"slices"
	"strings"
	"testing"

	"seisin/api"
)

// want checks an error.
func want(t testing.TB, what string, e, w api.Errno) {
	t.Helper()
	if e != w {
		t.Errorf("%s: %d, not %d", what, e, w)
	}
}

// letter tells a letter of a body between two places that are there.
func letter(body string) api.Letter {
	return api.Letter{From: 0, To: 7, Body: body}
}

// row tells letters of so many bodies, which all differ; they go from anywhere to anywhere.
func row(n int) []api.Letter {
	var l []api.Letter
	for i := range n {
		from := i * 5 % api.MaxPlaces
		l = append(l, api.Letter{From: from, To: (from + 1 + i%(api.MaxPlaces-1)) % api.MaxPlaces, Body: fmt.Sprint("letter ", i)})
	}
	return l
}

// made makes a net in which letters are under way.
func made(t testing.TB, l []api.Letter) *Net {
	t.Helper()
	n := New()
	for i, x := range l {
		want(t, fmt.Sprintf("Send of letter %d", i), n.Send(x), api.OK)
	}
	return n
}

// says checks a net by all that it tells: which letters are under way, in which order, and which is the first one to each place.
func says(t testing.TB, what string, n *Net, l []api.Letter) {
	t.Helper()
	if got := n.All(); !slices.Equal(got, l) {
		t.Errorf("%s: %v, not %v", what, got, l)
	}
	if n.Len() != len(l) {
		t.Errorf("%s: %d letters, not %d", what, n.Len(), len(l))
	}
	for _, place := range append(notPlaces(), 0, 1, 2, 3, 4, 5, 6, 7) {
		w := slices.IndexFunc(l, func(x api.Letter) bool { return x.To == place })
		i, ok := n.To(place)
		if ok != (w >= 0) || i != max(w, 0) {
			t.Errorf("%s: To(%d): %d, %v, not %d", what, place, i, ok, w)
		}
	}
}

// notPlaces tells numbers of no place.
func notPlaces() []int {
	return []int{-1, -2, -7, -8, 8, 9, 15, 16, 256, 1 << 32, 1<<32 + 1, -1 << 32, math.MaxInt, math.MaxInt - 1, math.MinInt, math.MinInt + 1}
}

// numbers tells numbers about a row of so many letters, twice round and more on each side, and far off.
func numbers(n int) []int {
	var l []int
	for i := -2*n - 3; i <= 2*n+3; i++ {
		l = append(l, i)
	}
	for _, i := range []int{1 << 31, -1 << 31, 1 << 32, 1<<32 + 1, -1<<32 - 1, 1<<62 + 5, math.MaxInt, math.MaxInt - 1, math.MaxInt - 2, math.MinInt, math.MinInt + 1, math.MinInt + 2} {
		l = append(l, i)
	}
	return l
}

// modulo tells a number modulo another one, from 0 on, by way of great numbers.
func modulo(i, n int) int {
	return int(new(big.Int).Mod(big.NewInt(int64(i)), big.NewInt(int64(n))).Int64())
}

// without tells a row without one of its letters.
func without(l []api.Letter, i int) []api.Letter {
	return slices.Concat(l[:i], l[i+1:])
}

// and tells a row with a letter behind the others.
func and(l []api.Letter, x api.Letter) []api.Letter {
	return append(slices.Clone(l), x)
}

// wantTake checks that a Take tells a letter.
func wantTake(t testing.TB, what string, n *Net, i int, w api.Letter) {
	t.Helper()
	if l, ok := n.Take(i); l != w || !ok {
		t.Errorf("%s: Take(%d): %v, %v, not %v", what, i, l, ok, w)
	}
}

// TestExample: the chapter's example.
func TestExample(t *testing.T) {
	a, b, c := letter("a"), letter("b"), letter("c")
	n := made(t, []api.Letter{a, b, c})
	wantTake(t, "a, b, c", n, 4, b)
	says(t, "behind Take", n, []api.Letter{a, c})
	if !n.Copy(-1) {
		t.Error("Copy(-1): false")
	}
	says(t, "behind Copy", n, []api.Letter{a, c, c})
}

// P10.1: in a new net nothing is under way; P10.2: nothing of it is to be had, by whatever number.
func TestNew(t *testing.T) {
	n := New()
	says(t, "New", n, nil)
	for _, i := range numbers(3) {
		if l, ok := n.Take(i); ok || l != (api.Letter{}) {
			t.Errorf("Take(%d): %v, %v", i, l, ok)
		}
		if n.Copy(i) {
			t.Errorf("Copy(%d): true", i)
		}
		if n.Drop(i) {
			t.Errorf("Drop(%d): true", i)
		}
	}
	says(t, "afterwards", n, nil)
}

// P10.1: a letter is under way between any two places that are there and aren't the same, between no others.
func TestPlaces(t *testing.T) {
	var l []api.Letter
	n := New()
	all := append(notPlaces(), 0, 1, 2, 3, 4, 5, 6, 7)
	for _, from := range all {
		for _, to := range all {
			x := api.Letter{From: from, To: to, Body: fmt.Sprint(from, to)}
			w := api.ErrArg
			if from >= 0 && from <= 7 && to >= 0 && to <= 7 && from != to {
				w = api.OK
				l = append(l, x)
			}
			want(t, fmt.Sprintf("%d to %d", from, to), n.Send(x), w)
		}
	}
	if len(l) != 8*7 {
		t.Errorf("%d letters", len(l))
	}
	says(t, "all pairs", n, l)
}

// P10.1: a body has as many bytes as it may, any bytes at all, and no more.
func TestBodies(t *testing.T) {
	var l []api.Letter
	n := New()
	for _, s := range []string{"", "\x00", "\xff\xfe", "a", "a", strings.Repeat("\x00", 199), strings.Repeat("x", 199), strings.Repeat("\xff", 200), strings.Repeat("é", 100)} {
		want(t, fmt.Sprintf("%q", s), n.Send(letter(s)), api.OK)
		l = append(l, letter(s))
		says(t, fmt.Sprintf("behind %q", s), n, l)
	}
	for _, s := range []string{strings.Repeat("x", 201), strings.Repeat("é", 101), strings.Repeat("\x00", 256), strings.Repeat("x", 400), strings.Repeat("x", 1<<20)} {
		want(t, fmt.Sprintf("%d bytes", len(s)), n.Send(letter(s)), api.ErrSize)
	}
	says(t, "afterwards", n, l)
}

// P10.1: the first error is told, and nothing is sent then.
func TestFirstError(t *testing.T) {
	long := strings.Repeat("x", 201)
	full := made(t, row(api.MaxNet))
	for _, c := range []struct {
		what   string
		l      api.Letter
		e      api.Errno
		ofFull api.Errno
	}{
		{"from no place, too long", api.Letter{From: -1, To: 0, Body: long}, api.ErrArg, api.ErrArg},
		{"to no place, too long", api.Letter{From: 0, To: 8, Body: long}, api.ErrArg, api.ErrArg},
		{"to the same place, too long", api.Letter{From: 3, To: 3, Body: long}, api.ErrArg, api.ErrArg},
		{"from no place to the same", api.Letter{From: 8, To: 8}, api.ErrArg, api.ErrArg},
		{"the zero value", api.Letter{}, api.ErrArg, api.ErrArg},
		{"too long", api.Letter{From: 3, To: 4, Body: long}, api.ErrSize, api.ErrSize},
		{"none", api.Letter{From: 3, To: 4}, api.OK, api.ErrMany},
	} {
		n := New()
		want(t, c.what, n.Send(c.l), c.e)
		if c.e != api.OK {
			says(t, c.what, n, nil)
		}
		want(t, c.what+", full", full.Send(c.l), c.ofFull)
		says(t, c.what+", full", full, row(api.MaxNet))
	}
}

// P10.1: so many letters may be under way as there may be, and no more; where one goes there is room for one.
func TestFull(t *testing.T) {
	l := row(api.MaxNet)
	n := New()
	for i, x := range l {
		if n.Len() != i {
			t.Fatalf("%d letters, not %d", n.Len(), i)
		}
		want(t, fmt.Sprintf("letter %d", i), n.Send(x), api.OK)
	}
	says(t, "full", n, l)
	x := letter("one more")
	for _, i := range []int{0, 150, 299, -1, 300} {
		want(t, "full", n.Send(x), api.ErrMany)
		says(t, "full", n, l)
		at := modulo(i, api.MaxNet)
		wantTake(t, "full", n, i, l[at])
		l = and(without(l, at), x)
		want(t, "with room for one", n.Send(x), api.OK)
		says(t, "full again", n, l)
	}
}

// P10.2: any number means the letter at its place modulo how many there are; it goes, the others stay in their order.
func TestTake(t *testing.T) {
	for _, many := range []int{1, 2, 3, 7, 8} {
		l := row(many)
		for _, i := range numbers(many) {
			what := fmt.Sprintf("%d of %d", i, many)
			at := modulo(i, many)
			n := made(t, l)
			wantTake(t, what, n, i, l[at])
			says(t, what, n, without(l, at))
			want(t, what, n.Send(letter("behind")), api.OK)
			says(t, what+", and one sent", n, and(without(l, at), letter("behind")))
		}
	}
}

// P10.2: a letter that is lost goes as one that is taken.
func TestDrop(t *testing.T) {
	for _, many := range []int{1, 2, 3, 7, 8} {
		l := row(many)
		for _, i := range numbers(many) {
			what := fmt.Sprintf("%d of %d", i, many)
			n := made(t, l)
			if !n.Drop(i) {
				t.Errorf("%s: false", what)
			}
			says(t, what, n, without(l, modulo(i, many)))
		}
	}
}

// P10.2: a letter that is copied is under way where it was, and behind the others.
func TestCopy(t *testing.T) {
	for _, many := range []int{1, 2, 3, 7, 8} {
		l := row(many)
		for _, i := range numbers(many) {
			what := fmt.Sprintf("%d of %d", i, many)
			n := made(t, l)
			if !n.Copy(i) {
				t.Errorf("%s: false", what)
			}
			says(t, what, n, and(l, l[modulo(i, many)]))
		}
	}
}

// P10.2: in a net of as many letters as there may be nothing is copied; in one of one less one is.
func TestCopyOfFull(t *testing.T) {
	l := row(api.MaxNet - 1)
	for _, i := range []int{0, 1, 298, 299, 300, -1, math.MaxInt, math.MinInt} {
		what := fmt.Sprint(i)
		n := made(t, l)
		if !n.Copy(i) {
			t.Errorf("%s: false", what)
		}
		full := and(l, l[modulo(i, len(l))])
		says(t, what, n, full)
		if n.Copy(i) {
			t.Errorf("%s, full: true", what)
		}
		says(t, what+", full", n, full)
		at := modulo(i, api.MaxNet)
		if !n.Drop(i) || !n.Copy(0) {
			t.Errorf("%s, with room for one: false", what)
		}
		rest := without(full, at)
		says(t, what+", full again", n, and(rest, rest[0]))
	}
}

// P10.2: a row of as many letters as there may be is taken by any number, down to the last one; it can be filled anew.
func TestTakeAll(t *testing.T) {
	for _, step := range []int{0, 1, -1, 7, 299, math.MaxInt, math.MinInt} {
		l := row(api.MaxNet)
		n := made(t, l)
		for len(l) > 0 {
			at := modulo(step, len(l))
			wantTake(t, fmt.Sprint(len(l)), n, step, l[at])
			l = without(l, at)
			if got := n.All(); !slices.Equal(got, l) {
				t.Fatalf("%d left, by %d: %v, not %v", len(l), step, got, l)
			}
		}
		says(t, "all taken", n, nil)
		if _, ok := n.Take(step); ok || n.Drop(step) || n.Copy(step) {
			t.Errorf("none is left, and one is to be had by %d", step)
		}
		for _, x := range row(api.MaxNet) {
			want(t, "filled anew", n.Send(x), api.OK)
		}
		says(t, "filled anew", n, row(api.MaxNet))
	}
}

// P10.2: the first letter to a place, as others come and go ahead of it and behind it.
func TestTo(t *testing.T) {
	to := func(place int, body string) api.Letter {
		return api.Letter{From: (place + 1) % api.MaxPlaces, To: place, Body: body}
	}
	for place := range api.MaxPlaces {
		wantTo := func(n *Net, w int, is bool) {
			t.Helper()
			if i, ok := n.To(place); i != w || ok != is {
				t.Errorf("To(%d): %d, %v, not %d, %v", place, i, ok, w, is)
			}
		}
		other := (place + 3) % api.MaxPlaces
		n := New()
		wantTo(n, 0, false)
		want(t, "a letter from there", n.Send(api.Letter{From: place, To: other}), api.OK)
		wantTo(n, 0, false)
		want(t, "one to another place", n.Send(to(other, "")), api.OK)
		wantTo(n, 0, false)
		want(t, "one to there", n.Send(to(place, "x")), api.OK)
		wantTo(n, 2, true)
		want(t, "another one", n.Send(to(place, "y")), api.OK)
		wantTo(n, 2, true)
		n.Drop(0)
		wantTo(n, 1, true)
		wantTake(t, "the first one", n, 1, to(place, "x"))
		wantTo(n, 1, true)
		n.Drop(0)
		wantTo(n, 0, true)
		wantTake(t, "the second one", n, 0, to(place, "y"))
		wantTo(n, 0, false)
	}
}

// P10.2: where there is no letter to a place, the number beside false is 0, whatever else is under way.
func TestToNone(t *testing.T) {
	n := New()
	for range 9 {
		want(t, "Send", n.Send(api.Letter{From: 1, To: 2}), api.OK)
		for _, place := range append(notPlaces(), 0, 1, 3, 4, 5, 6, 7) {
			if i, ok := n.To(place); i != 0 || ok {
				t.Errorf("To(%d): %d, %v", place, i, ok)
			}
		}
	}
}

// P10.3: a letter is told as often as it is asked for; asking changes nothing.
func TestAskingChangesNothing(t *testing.T) {
	l := row(20)
	n := made(t, l)
	for range 3 {
		says(t, "asked", n, l)
	}
}

// P10.3: what All tells is the caller's alone: it stays as it was, whatever goes on, and what is done to it doesn't come to the net.
func TestAllIsNew(t *testing.T) {
	l := row(8)
	for i := range l {
		n := made(t, l)
		first := n.All()
		wantTake(t, "first", n, i, l[i])
		second := n.All()
		want(t, "Send", n.Send(letter("more")), api.OK)
		n.Copy(0)
		third := n.All()
		n.Drop(i)
		rest := without(l, i)
		more := and(and(rest, letter("more")), rest[0])
		if !slices.Equal(first, l) || !slices.Equal(second, rest) || !slices.Equal(third, more) {
			t.Errorf("%d: %v, %v, %v", i, first, second, third)
		}
		now := without(more, i)
		for _, told := range [][]api.Letter{first, second, third, n.All()} {
			clear(told[:cap(told)])
			_ = append(told[:0], letter("nobody sent this"))
			says(t, "behind changes by the caller", n, now)
		}
	}
}

// P10.3: nets don't hear of each other.
func TestManyNets(t *testing.T) {
	a, b := New(), New()
	want(t, "to a", a.Send(letter("a")), api.OK)
	says(t, "b", b, nil)
	want(t, "to b", b.Send(letter("b")), api.OK)
	says(t, "a", a, []api.Letter{letter("a")})
	a.Copy(0)
	says(t, "b", b, []api.Letter{letter("b")})
	b.Drop(0)
	says(t, "a", a, []api.Letter{letter("a"), letter("a")})
	says(t, "New", New(), nil)
}
