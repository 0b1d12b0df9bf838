package net

import (
	"fmt"
	"maps"
	"math/rand"
	"slices"
	"strings"
	"testing"

	"seisin/api"
)

// model is what a net has to be: each letter under way has a number, by which they are in order.
type model struct {
	letters map[int]api.Letter
	next    int
}

// order tells the numbers of the letters under way.
func (m *model) order() []int {
	return slices.Sorted(maps.Keys(m.letters))
}

// all tells the letters under way.
func (m *model) all() []api.Letter {
	var l []api.Letter
	for _, k := range m.order() {
		l = append(l, m.letters[k])
	}
	return l
}

// lay lays a letter behind the others.
func (m *model) lay(l api.Letter) {
	m.letters[m.next] = l
	m.next++
}

// send tells what a Send tells.
func (m *model) send(l api.Letter) api.Errno {
	is := func(place int) bool { return slices.Contains([]int{0, 1, 2, 3, 4, 5, 6, 7}, place) }
	if !is(l.From) || !is(l.To) || l.From == l.To {
		return api.ErrArg
	}
	if len(l.Body) > 200 {
		return api.ErrSize
	}
	if len(m.letters) == 300 {
		return api.ErrMany
	}
	m.lay(l)
	return api.OK
}

// take tells what a Take tells.
func (m *model) take(i int) (api.Letter, bool) {
	l := m.order()
	if len(l) == 0 {
		return api.Letter{}, false
	}
	k := l[modulo(i, len(l))]
	x := m.letters[k]
	delete(m.letters, k)
	return x, true
}

// double tells what a Copy tells.
func (m *model) double(i int) bool {
	l := m.order()
	if len(l) == 0 || len(l) == 300 {
		return false
	}
	m.lay(m.letters[l[modulo(i, len(l))]])
	return true
}

// pair is a net, and what it has to be; what is done to the one is done to the other, and held against it.
type pair struct {
	t testing.TB
	n *Net
	m model
	// How many letters came and went, by their bodies: the net may neither make nor lose any.
	sent, gone map[string]int
}

// newPair makes both.
func newPair(t testing.TB) *pair {
	return &pair{t: t, n: New(), m: model{letters: map[int]api.Letter{}}, sent: map[string]int{}, gone: map[string]int{}}
}

// send sends a letter.
func (p *pair) send(l api.Letter) {
	p.t.Helper()
	e := p.n.Send(l)
	want(p.t, fmt.Sprintf("Send(%v)", l), e, p.m.send(l))
	if e == api.OK {
		p.sent[l.Body]++
	}
}

// take takes a letter.
func (p *pair) take(i int) {
	p.t.Helper()
	l, ok := p.n.Take(i)
	if w, is := p.m.take(i); l != w || ok != is {
		p.t.Errorf("Take(%d): %v, %v, not %v, %v", i, l, ok, w, is)
	}
	if ok {
		p.gone[l.Body]++
	}
}

// drop loses a letter.
func (p *pair) drop(i int) {
	p.t.Helper()
	ok := p.n.Drop(i)
	l, is := p.m.take(i)
	if ok != is {
		p.t.Errorf("Drop(%d): %v", i, ok)
	}
	if ok {
		p.gone[l.Body]++
	}
}

// double lets a letter come twice.
func (p *pair) double(i int) {
	p.t.Helper()
	ok := p.n.Copy(i)
	if ok != p.m.double(i) {
		p.t.Errorf("Copy(%d): %v", i, ok)
	}
	if l := p.m.all(); ok {
		p.sent[l[len(l)-1].Body]++
	}
}

// check holds both against each other, and what is under way against what came and went.
func (p *pair) check(what string) {
	p.t.Helper()
	says(p.t, what, p.n, p.m.all())
	left := maps.Clone(p.sent)
	for s, k := range p.gone {
		left[s] -= k
	}
	for _, l := range p.n.All() {
		left[l.Body]--
	}
	for s, k := range left {
		if k != 0 {
			p.t.Errorf("%s: of %q %d more came than went or are under way", what, s, k)
		}
	}
}

// P10.3: each row of up to six calls, from a few of each kind.
func TestShortRows(t *testing.T) {
	const calls, most = 7, 6
	do := func(p *pair, c, serial int) {
		switch c {
		case 0:
			p.send(api.Letter{From: 1, To: 2, Body: fmt.Sprint(serial)})
		case 1:
			p.send(api.Letter{From: 2, To: 0, Body: fmt.Sprint(serial)})
		case 2:
			p.take(0)
		case 3:
			p.take(-1)
		case 4:
			p.double(1)
		case 5:
			p.drop(1)
		case 6:
			p.send(api.Letter{From: 2, To: 2})
		}
	}
	rows := 1
	for range most {
		rows *= calls
	}
	for row := range rows {
		p := newPair(t)
		what := ""
		for k, rest := 0, row; k < most; k, rest = k+1, rest/calls {
			do(p, rest%calls, k)
			what += fmt.Sprint(rest % calls)
		}
		p.check(what)
		if t.Failed() {
			return
		}
	}
}

// someNumber tells a number of a letter, near by or far off.
func someNumber(r *rand.Rand) int {
	if r.Intn(8) == 0 {
		return int(r.Uint64())
	}
	return r.Intn(900) - 400
}

// someLetter tells a letter, which now and then can't be sent; bodies come again.
func someLetter(r *rand.Rand) api.Letter {
	size := r.Intn(20)
	if r.Intn(10) == 0 {
		size = 198 + r.Intn(5)
	}
	b := make([]byte, size)
	for i := range b {
		b[i] = "\x00a\xff"[r.Intn(3)]
	}
	return api.Letter{From: r.Intn(9) - r.Intn(2), To: r.Intn(9) - r.Intn(2), Body: string(b)}
}

// goOn lets a call be made: so many of ten are sends.
func (p *pair) goOn(r *rand.Rand, sends int) {
	p.t.Helper()
	if r.Intn(10) < sends {
		p.send(someLetter(r))
		return
	}
	i := someNumber(r)
	switch r.Intn(4) {
	case 0, 1:
		p.take(i)
	case 2:
		p.double(i)
	case 3:
		p.drop(i)
	}
}

// P10.1 to P10.3: long rows of calls, in which a net is filled and emptied, are answered as the model tells.
func TestLongRows(t *testing.T) {
	for seed := range int64(20) {
		r := rand.New(rand.NewSource(seed))
		p := newPair(t)
		for _, sends := range []int{5, 10, 8, 0, 9, 1, 4} {
			for k := range 400 {
				p.goOn(r, sends)
				if k%16 == 0 || p.n.Len() < 3 || p.n.Len() > 297 {
					p.check(fmt.Sprintf("seed %d, share %d, call %d", seed, sends, k))
				}
				if t.Failed() {
					return
				}
			}
		}
	}
}

// P10.3: what stays is in the order in which it was sent, whatever came and went meanwhile.
func TestOrderStays(t *testing.T) {
	r := rand.New(rand.NewSource(3))
	for range 200 {
		n := New()
		next := 0
		for range 300 {
			switch i := someNumber(r); r.Intn(3) {
			case 0, 1:
				if n.Send(letter(fmt.Sprintf("%06d", next))) == api.OK {
					next++
				}
			case 2:
				n.Drop(i)
			}
		}
		if !slices.IsSortedFunc(n.All(), func(a, b api.Letter) int { return strings.Compare(a.Body, b.Body) }) {
			t.Fatalf("not in order: %v", n.All())
		}
	}
}

// FuzzCalls holds a net against the model by any row of calls: of each two bytes the first one tells the call, the second one a number.
func FuzzCalls(f *testing.F) {
	f.Add([]byte("\x00a\x00b\x00c\x01\x04\x02\xff\x03\x00"))
	f.Add([]byte("\x00a\x02\x00\x02\x01\x02\x02\x01\x80\x03\x7f\x01\x00\x01\x00"))
	f.Fuzz(func(t *testing.T, b []byte) {
		p := newPair(t)
		for len(b) >= 2 {
			i := int(int8(b[1]))
			switch b[0] % 4 {
			case 0:
				p.send(api.Letter{From: int(b[0]/4) % 10, To: i, Body: string(b[:min(len(b), 210)])})
			case 1:
				p.take(i)
			case 2:
				p.double(i)
			case 3:
				p.drop(i)
			}
			b = b[2:]
		}
		p.check("afterwards")
	})
}
