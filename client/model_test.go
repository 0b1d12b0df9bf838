package client

import (
	"fmt"
	"math/rand"
	"slices"
	"strings"
	"testing"

	"seisin/api"
	"seisin/mail"
)

// model is what a client has to be: each call with its result, if it has one.
type model struct {
	place, node int
	calls       []struct {
		api.Call
		r *api.Result
	}
}

// newModel makes what a client of calls has to be.
func newModel(place int, l []api.Call) *model {
	m := &model{place: place}
	for _, c := range l {
		m.calls = append(m.calls, struct {
			api.Call
			r *api.Result
		}{Call: c})
	}
	return m
}

// present tells the present call's number; 0, if all have results. What can't be sent gets its result on the way.
func (m *model) present() int {
	for i := range m.calls {
		c := &m.calls[i]
		if c.r == nil && (c.Op < 0 || c.Op > 1<<62 || c.Block < -1 || c.Block > 31 || len(c.Data) > 40) {
			c.r = &api.Result{E: 4}
		}
		if c.r == nil {
			return i + 1
		}
	}
	return 0
}

// results tells what came of the calls.
func (m *model) results() []api.Result {
	m.present()
	var l []api.Result
	for _, c := range m.calls {
		if c.r != nil {
			l = append(l, *c.r)
		}
	}
	return l
}

// poke tells what a Poke tells.
func (m *model) poke() (api.Letter, bool) {
	n := m.present()
	if n == 0 {
		return api.Letter{}, false
	}
	return api.Letter{From: m.place, To: m.node, Body: callBody(n, m.calls[n-1].Call)}, true
}

// take tells what a Take tells.
func (m *model) take(l api.Letter) bool {
	n := m.present()
	x, e := mail.Decode(l.Body)
	if n == 0 || e != 0 || x.Kind != 15 || x.N != int64(n) || l.To != m.place || l.From != 0 && l.From != 1 {
		return false
	}
	if x.E == 20 && l.From == m.node {
		m.node = 1 - l.From
	}
	if x.E == 20 || x.E == 21 || x.E == 25 {
		return false
	}
	m.calls[n-1].r = &api.Result{E: x.E, Data: x.Data}
	return true
}

// pair is a client, and what it has to be.
type pair struct {
	t testing.TB
	c *Client
	m *model
}

// newPair makes both.
func newPair(t testing.TB, place int, l []api.Call) *pair {
	t.Helper()
	return &pair{t, made(t, place, l...), newModel(place, l)}
}

// take hands a letter to both.
func (p *pair) take(l api.Letter) {
	p.t.Helper()
	wantTake(p.t, "a row", p.c, l, p.m.take(l))
}

// turn turns both.
func (p *pair) turn() {
	p.c.Turn()
	p.m.node ^= 1
}

// check holds both against each other.
func (p *pair) check(what string) {
	p.t.Helper()
	r := p.m.results()
	says(p.t, what, p.c, p.m.node, len(p.m.calls)-len(r), r...)
	l, ok := p.c.Poke()
	if w, is := p.m.poke(); l != w || ok != is {
		p.t.Errorf("%s: Poke: %v, %v, not %v, %v", what, l, ok, w, is)
	}
}

// P17.1 to P17.4: each row of five letters and turns, of a few kinds each, with a call that can't be sent between two that can.
func TestShortRows(t *testing.T) {
	const things, most = 9, 5
	var l []api.Letter
	for _, e := range []api.Errno{api.OK, api.ErrPrimary} {
		for _, from := range []int{0, 1} {
			for _, n := range []int64{1, 3} {
				l = append(l, answer(t, from, n, e, ""))
			}
		}
	}
	rows := 1
	for range most {
		rows *= things
	}
	for row := range rows {
		p := newPair(t, place, []api.Call{read(1), {Op: -1}, read(2)})
		what := "row "
		for k, rest := 0, row; k < most; k, rest = k+1, rest/things {
			if i := rest % things; i < len(l) {
				p.take(l[i])
			} else {
				p.turn()
			}
			what += fmt.Sprint(rest % things)
		}
		p.check(what)
		if t.Failed() {
			return
		}
	}
}

// someCall tells a call, which now and then can't be sent.
func someCall(r *rand.Rand) api.Call {
	if r.Intn(5) == 0 {
		l := unsendable()
		return l[r.Intn(len(l))]
	}
	c := api.Call{Op: r.Intn(7), Block: r.Intn(33) - 1, Data: strings.Repeat("x", r.Intn(41))}
	if r.Intn(12) == 0 {
		c.Op = int(r.Uint64())
	}
	return c
}

// someAnswer tells a letter, of which mostly all parts are those of an answer to a call of a number.
func someAnswer(t testing.TB, r *rand.Rand, place int, n int64) api.Letter {
	t.Helper()
	few := func() bool { return r.Intn(16) == 0 }
	m := api.Msg{Kind: api.MsgAnswer, Epoch: r.Int63n(3), N: n, Block: r.Intn(33) - 1, Client: r.Intn(5) - 1, Data: fmt.Sprint(r.Intn(1000))}
	m.E = []api.Errno{api.OK, api.OK, api.ErrPrimary, api.ErrLease, api.ErrBusy, api.ErrFull, api.Errno(r.Intn(32))}[r.Intn(7)]
	l := api.Letter{From: r.Intn(2), To: place}
	if few() {
		m.Kind = 1 + r.Intn(15)
	}
	if r.Intn(4) == 0 {
		m.N += r.Int63n(5) - 2
	}
	if few() {
		l.From = r.Intn(11) - 1
	}
	if few() {
		l.To = r.Intn(11) - 1
	}
	l.Body = body(t, m)
	if few() {
		l.Body = l.Body[:r.Intn(len(l.Body))]
	}
	return l
}

// P17.1 to P17.4: long random rows of calls, letters and turns are answered as the model tells.
func TestLongRows(t *testing.T) {
	ends := 0
	for seed := range int64(400) {
		r := rand.New(rand.NewSource(seed))
		var l []api.Call
		for range r.Intn(60) {
			l = append(l, someCall(r))
		}
		p := newPair(t, 4+r.Intn(4), l)
		p.check(fmt.Sprintf("seed %d, at first", seed))
		for k := range 150 {
			if r.Intn(12) == 0 {
				p.turn()
			}
			p.take(someAnswer(t, r, p.m.place, int64(p.m.present())))
			p.check(fmt.Sprintf("seed %d, letter %d", seed, k))
			if t.Failed() {
				return
			}
		}
		if p.m.present() == 0 {
			ends++
		}
	}
	if ends < 100 || ends == 400 {
		t.Errorf("%d of 400 rows come to their end", ends)
	}
}

// service is two nodes, of which one leads, and what is under way between them and a client.
type service struct {
	t       testing.TB
	r       *rand.Rand
	c       *Client
	leads   int
	letters []api.Letter
	said    map[int64][]api.Result // what calls were told that ends them
	told    int
	late    []api.Result // the client's results, as they were when it was asked last
}

// hear lets a node answer a call: who leads does so, or is busy.
func (s *service) hear(l api.Letter) {
	s.t.Helper()
	m, e := mail.Decode(l.Body)
	if e != api.OK || m.Kind != api.MsgCall || l.From != place {
		s.t.Fatalf("%v is no call", l)
	}
	x := api.Msg{Kind: api.MsgAnswer, N: m.N, Block: m.Block, Client: -1}
	switch {
	case l.To != s.leads:
		x.E = api.ErrPrimary
	case s.r.Intn(4) == 0:
		x.E = []api.Errno{api.ErrBusy, api.ErrLease}[s.r.Intn(2)]
	default:
		s.told++
		x.E = []api.Errno{api.OK, api.OK, api.ErrFull, api.ErrRange}[s.r.Intn(4)]
		x.Data = fmt.Sprint("answer ", s.told)
		s.said[m.N] = append(s.said[m.N], api.Result{E: x.E, Data: x.Data})
	}
	s.letters = append(s.letters, api.Letter{From: l.To, To: l.From, Body: body(s.t, x)})
}

// comes lets a letter come; it stays under way, if it is to come twice.
func (s *service) comes(i int, twice bool) {
	s.t.Helper()
	l := s.letters[i]
	if !twice {
		s.letters = slices.Delete(s.letters, i, i+1)
	}
	if l.To != place {
		s.hear(l)
		return
	}
	left := s.c.Left()
	if over := s.c.Take(l); over != (s.c.Left() < left) {
		s.t.Errorf("Take(%v) = %v: %d calls were left, %d are", l, over, left, s.c.Left())
	}
}

// poke lets the client send.
func (s *service) poke() {
	if l, ok := s.c.Poke(); ok {
		s.letters = append(s.letters, l)
	}
}

// check checks that each result is of an answer to its call, and that results stay.
func (s *service) check(what string) {
	s.t.Helper()
	now := s.c.Results()
	if len(now) < len(s.late) || !slices.Equal(now[:len(s.late)], s.late) {
		s.t.Errorf("%s: results were %v, and are %v", what, s.late, now)
	}
	for i, r := range now {
		if !slices.Contains(s.said[int64(i)+1], r) {
			s.t.Errorf("%s: call %d: %v, of %v", what, i+1, r, s.said[int64(i)+1])
		}
	}
	s.late = now
}

// step lets one of several things happen.
func (s *service) step() {
	s.t.Helper()
	many := len(s.letters)
	switch k := s.r.Intn(20); {
	case k < 5 && many < 60:
		s.poke()
	case k == 5:
		s.c.Turn()
	case k == 6:
		s.leads = s.r.Intn(2)
	case many == 0:
	case k < 10:
		i := s.r.Intn(many)
		s.letters = slices.Delete(s.letters, i, i+1)
	case k < 13:
		s.comes(s.r.Intn(many), true)
	default:
		s.comes(s.r.Intn(many), false)
	}
}

// P17.4: whatever letters get lost, come twice or late, and whoever leads, each call has one result, of an answer that was to it; and when all goes on, each call is answered.
func TestService(t *testing.T) {
	for seed := range int64(300) {
		r := rand.New(rand.NewSource(seed))
		const many = 30
		s := &service{t: t, r: r, c: made(t, place, times(many, read(3))...), said: map[int64][]api.Result{}}
		for k := range 300 {
			s.step()
			s.check(fmt.Sprintf("seed %d, step %d", seed, k))
			if t.Failed() {
				return
			}
		}
		for range 100 * many {
			s.poke()
			for len(s.letters) > 0 {
				s.comes(0, false)
			}
		}
		s.check(fmt.Sprintf("seed %d, in the end", seed))
		if n := len(s.c.Results()); n != many || s.c.Left() != 0 {
			t.Fatalf("seed %d: %d calls are answered, of %d", seed, n, many)
		}
	}
}

// FuzzClient holds a client against the model by any row of things: of each four bytes the first one tells which.
func FuzzClient(f *testing.F) {
	f.Add(4, "\x01\x02\x01\x01\x05\x04\xff\xff", "\x00\x00\x14\x01\x00\x01\x00\x01\x02", "")
	f.Add(6, "\x00\x00\x00\x00\x02\x03\x28\x07", "\x00\x00\x00\x01\x03\x00\x00\x00\x00\x01\x00\x02", "\x0f\x2a\x00\x00\x02\x00\x00\x00\x00\x00\x00\x00\x00\x00")
	f.Add(7, "\x02\x03\x29\x07\xff\x00\x00\x00", "\x00\x01\x15\x02\x04\x00\x00\x00", "\x0f\x2a\x00\x00\x02\x00\x00\x28\x00\x00\x00\x00\x00\x00")
	f.Fuzz(func(t *testing.T, at int, list, row, s string) {
		var l []api.Call
		for k := 0; k+3 < len(list) && len(l) < 1000; k += 4 {
			l = append(l, api.Call{Op: int(int8(list[k])), Block: int(int8(list[k+1])), Data: strings.Repeat(list[k+3:k+4], int(list[k+2])%60)})
		}
		if at < 4 || at > 7 {
			if New(at, l) != nil {
				t.Errorf("New(%d, %v) isn't nil", at, l)
			}
			return
		}
		p := newPair(t, at, l)
		for k := 0; k+3 < len(row); k += 4 {
			from := int(row[k+1] % 2)
			switch x := row[k]; x % 6 {
			case 0, 1, 2:
				m := api.Msg{Kind: api.MsgAnswer, E: api.Errno(row[k+2] % 32), N: int64(p.m.present()) + int64(row[k+3]%4) - 1, Data: row[k : k+4]}
				p.take(api.Letter{From: from, To: at, Body: body(t, m)})
			case 3:
				p.take(api.Letter{From: from, To: at, Body: s})
			case 4:
				p.turn()
			case 5:
				p.take(api.Letter{From: int(int8(row[k+1])), To: int(int8(row[k+2])), Body: body(t, api.Msg{Kind: api.MsgAnswer, N: int64(p.m.present())})})
			}
			p.check(fmt.Sprint("thing ", k/4))
		}
		p.check("afterwards")
	})
}
