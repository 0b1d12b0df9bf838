package client

import (
	"encoding/binary"
	"fmt"
	"math"
	"slices"
	"strings"
	"testing"

	"seisin/api"
	"seisin/mail"
)

// place is where the clients of these tests are, if nothing else is said.
const place = 6

// read, write, trim and flush tell calls.
func read(block int) api.Call               { return api.Call{Op: 1, Block: block} }
func write(block int, data string) api.Call { return api.Call{Op: 2, Block: block, Data: data} }
func trim(block int) api.Call               { return api.Call{Op: 3, Block: block} }
func flush() api.Call                       { return api.Call{Op: 4, Block: -1} }

// ok and failed tell results.
func ok(data string) api.Result     { return api.Result{Data: data} }
func failed(e api.Errno) api.Result { return api.Result{E: e} }

// times tells a call so many times.
func times(n int, c api.Call) []api.Call {
	return slices.Repeat([]api.Call{c}, n)
}

// unsendable tells calls that can't be sent, each by one part of it.
func unsendable() []api.Call {
	return []api.Call{
		{Op: -1}, {Op: -2}, {Op: math.MinInt}, {Op: 1<<62 + 1}, {Op: math.MaxInt},
		{Op: 1, Block: -2}, {Op: 1, Block: -3}, {Op: 1, Block: 32}, {Op: 1, Block: 33}, {Op: 1, Block: 1 << 32}, {Op: 1, Block: 1<<32 + 3}, {Op: 1, Block: math.MinInt}, {Op: 1, Block: math.MaxInt},
		{Op: 2, Data: strings.Repeat("x", 41)}, {Op: 2, Data: strings.Repeat("\x00", 200)}, {Op: 2, Data: strings.Repeat("x", 256)}, {Op: 2, Data: strings.Repeat("x", 1<<20)},
		{Op: 9, Block: 77}, {Op: -1, Block: -2, Data: strings.Repeat("x", 41)}, {Op: 4, Block: -2},
	}
}

// sendable tells calls that can be sent, though no node does each of them.
func sendable() []api.Call {
	return []api.Call{
		read(3), write(3, "abcdefgh"), trim(3), flush(),
		{}, {Op: 5}, {Op: 1 << 62}, {Op: 1<<62 - 1}, {Op: 1, Block: -1}, {Op: 1, Block: 31}, {Op: 2, Block: 30, Data: "short"},
		{Op: 1, Data: "needless"}, {Op: 4, Block: 7}, {Op: 2, Data: strings.Repeat("\xff", 40)}, {Op: 2, Data: strings.Repeat("\x00", 39)},
	}
}

// made makes a client.
func made(t testing.TB, place int, l ...api.Call) *Client {
	t.Helper()
	c := New(place, l)
	if c == nil {
		t.Fatalf("New(%d, %d calls) = nil", place, len(l))
	}
	return c
}

// callBody tells the bytes of a call's message, by the library.
func callBody(n int, c api.Call) string {
	b := []byte{14, 42}
	for _, x := range []int64{0, int64(c.Op), int64(n), int64(c.Block), -1, 0, 0, 0, 0, 0} {
		b = binary.AppendVarint(b, x)
	}
	b = append(b, byte(len(c.Data)))
	b = append(b, c.Data...)
	return string(append(b, 0))
}

// body tells a message's bytes.
func body(t testing.TB, m api.Msg) string {
	t.Helper()
	s, e := mail.Encode(m)
	if e != api.OK {
		t.Fatalf("Encode(%+v): %d", m, e)
	}
	return s
}

// answer tells an answer from a node to the clients' place.
func answer(t testing.TB, from int, n int64, e api.Errno, data string) api.Letter {
	t.Helper()
	return api.Letter{From: from, To: place, Body: body(t, api.Msg{Kind: api.MsgAnswer, Epoch: 1, N: n, Block: -1, Client: -1, E: e, Data: data})}
}

// wantPoke checks that the call of a number is sent from a place to a node, so often as one likes.
func wantPoke(t testing.TB, what string, c *Client, from, to, n int, call api.Call) {
	t.Helper()
	w := api.Letter{From: from, To: to, Body: callBody(n, call)}
	for range 2 {
		if l, ok := c.Poke(); l != w || !ok {
			t.Errorf("%s: Poke: %d to %d %q, %v, not %d to %d %q", what, l.From, l.To, l.Body, ok, w.From, w.To, w.Body)
		}
	}
}

// wantNoPoke checks that nothing is sent.
func wantNoPoke(t testing.TB, what string, c *Client) {
	t.Helper()
	if l, ok := c.Poke(); l != (api.Letter{}) || ok {
		t.Errorf("%s: Poke: %v, %v", what, l, ok)
	}
}

// says checks a client by all that it tells without being changed, but for its letter.
func says(t testing.TB, what string, c *Client, node, left int, r ...api.Result) {
	t.Helper()
	if c.Node() != node {
		t.Errorf("%s: Node %d, not %d", what, c.Node(), node)
	}
	if c.Left() != left {
		t.Errorf("%s: Left %d, not %d", what, c.Left(), left)
	}
	if got := c.Results(); !slices.Equal(got, r) {
		t.Errorf("%s: Results %v, not %v", what, got, r)
	}
}

// wantTake checks whether a letter ends a call.
func wantTake(t testing.TB, what string, c *Client, l api.Letter, over bool) {
	t.Helper()
	if got := c.Take(l); got != over {
		t.Errorf("%s: Take(%v) = %v", what, l, got)
	}
}

// The chapter's example.
func TestExample(t *testing.T) {
	c := made(t, place, write(3, "abcdefgh"))
	wantPoke(t, "at first", c, place, 0, 1, write(3, "abcdefgh"))
	wantTake(t, "ErrPrimary", c, answer(t, 0, 1, api.ErrPrimary, ""), false)
	wantPoke(t, "behind ErrPrimary", c, place, 1, 1, write(3, "abcdefgh"))
	wantTake(t, "OK", c, answer(t, 1, 1, api.OK, ""), true)
	says(t, "behind OK", c, 1, 0, ok(""))
	wantNoPoke(t, "behind OK", c)
}

// P17.1: a client is at a client's place, at no other one.
func TestPlaces(t *testing.T) {
	for p := 4; p <= 7; p++ {
		c := made(t, p, read(1))
		says(t, fmt.Sprint("place ", p), c, 0, 1)
		wantPoke(t, fmt.Sprint("place ", p), c, p, 0, 1, read(1))
	}
	for _, p := range []int{-1, 0, 1, 2, 3, 8, 9, 16, -4, -7, 256 + 4, 1<<32 + 4, -1<<32 + 4, math.MaxInt, math.MinInt, math.MinInt + 4} {
		for _, l := range [][]api.Call{nil, {read(1)}} {
			if New(p, l) != nil {
				t.Errorf("New(%d, %v) isn't nil", p, l)
			}
		}
	}
}

// P17.1: there are at most 1000 calls, whether or not they can be sent; no calls are none, however they are told (R6).
func TestHowMany(t *testing.T) {
	for _, n := range []int{0, 1, 2, 999, 1000} {
		c := made(t, 4, times(n, read(1))...)
		says(t, fmt.Sprint(n, " calls"), c, 0, n)
		c = made(t, 7, times(n, api.Call{Op: -1})...)
		says(t, fmt.Sprint(n, " calls that can't be sent"), c, 0, 0, slices.Repeat([]api.Result{failed(api.ErrForm)}, n)...)
	}
	for _, n := range []int{1001, 1002, 2000, 1 << 16, 1<<16 + 1} {
		if New(4, times(n, read(1))) != nil || New(4, times(n, api.Call{Op: -1})) != nil {
			t.Errorf("a client with %d calls", n)
		}
	}
	for _, l := range [][]api.Call{nil, {}} {
		c := made(t, 5, l...)
		says(t, "no calls", c, 0, 0)
		wantNoPoke(t, "no calls", c)
		wantTake(t, "no calls", c, answer(t, 0, 1, api.OK, ""), false)
		wantTake(t, "no calls", c, answer(t, 0, 0, api.OK, ""), false)
		says(t, "no calls, behind that", c, 0, 0)
	}
}

// P17.1: Turn goes to and fro, whatever was asked, and is no matter of the calls.
func TestTurn(t *testing.T) {
	for _, l := range [][]api.Call{nil, {read(1)}, {read(1), read(2)}} {
		c := made(t, place, l...)
		for k := range 6 {
			says(t, fmt.Sprint(k, " turns"), c, k%2, len(l))
			if len(l) > 0 {
				wantPoke(t, fmt.Sprint(k, " turns"), c, place, k%2, 1, l[0])
			}
			c.Turn()
		}
	}
	c := made(t, place, read(1), read(2))
	c.Turn()
	wantTake(t, "who isn't asked answers", c, answer(t, 0, 1, api.OK, "a"), true)
	says(t, "an answer doesn't turn", c, 1, 1, ok("a"))
	wantPoke(t, "an answer doesn't turn", c, place, 1, 2, read(2))
}

// P17.2: each call that can be sent is sent as it is, with its number, to either node.
func TestPoke(t *testing.T) {
	l := sendable()
	c := made(t, place, l...)
	for i, call := range l {
		what := fmt.Sprintf("call %d, %v", i+1, call)
		wantPoke(t, what, c, place, 0, i+1, call)
		c.Turn()
		wantPoke(t, what, c, place, 1, i+1, call)
		c.Turn()
		wantTake(t, what, c, answer(t, 0, int64(i)+1, api.OK, fmt.Sprint(i)), true)
	}
	wantNoPoke(t, "all have results", c)
}

// P17.2: a call's letter is a message that may be, with the call's parts, and nothing else.
func TestPokeMessage(t *testing.T) {
	c := made(t, 5, read(0), write(9, "12345678"))
	wantTake(t, "call 1", c, api.Letter{From: 1, To: 5, Body: body(t, api.Msg{Kind: api.MsgAnswer, N: 1})}, true)
	l, _ := c.Poke()
	w := api.Msg{Kind: api.MsgCall, Seq: 2, N: 2, Block: 9, Client: -1, Data: "12345678"}
	if m, e := mail.Decode(l.Body); m != w || e != api.OK {
		t.Errorf("%+v, %d, not %+v", m, e, w)
	}
}

// P17.3: each error that a message may tell, from either node, while either one is asked.
func TestErrors(t *testing.T) {
	for e := range api.Errno(32) {
		for k := range 4 {
			from, asked := k%2, k/2
			what := fmt.Sprintf("error %d from %d, while %d is asked", e, from, asked)
			c := made(t, place, write(3, "abcdefgh"), read(4))
			if asked == 1 {
				c.Turn()
			}
			switch e {
			case 20: // ErrPrimary
				wantTake(t, what, c, answer(t, from, 1, e, "data"), false)
				says(t, what, c, 1-from, 2)
				wantPoke(t, what, c, place, 1-from, 1, write(3, "abcdefgh"))
			case 21, 25: // ErrLease, ErrBusy
				wantTake(t, what, c, answer(t, from, 1, e, "data"), false)
				says(t, what, c, asked, 2)
				wantPoke(t, what, c, place, asked, 1, write(3, "abcdefgh"))
			default:
				wantTake(t, what, c, answer(t, from, 1, e, "data"), true)
				says(t, what, c, asked, 1, api.Result{E: e, Data: "data"})
				wantPoke(t, what, c, place, asked, 2, read(4))
			}
		}
	}
}

// P17.3: who doesn't lead is left at once; a late word of that one's, or the same one once more, turns nothing.
func TestPrimary(t *testing.T) {
	c := made(t, place, read(1), read(2))
	var w []api.Result
	no := func(from int, n int64, asked int) {
		t.Helper()
		wantTake(t, "ErrPrimary", c, answer(t, from, n, api.ErrPrimary, ""), false)
		says(t, fmt.Sprintf("ErrPrimary from %d to call %d", from, n), c, asked, 2-len(w), w...)
	}
	yes := func(from int, n int64) {
		t.Helper()
		wantTake(t, "OK", c, answer(t, from, n, api.OK, ""), true)
		w = append(w, ok(""))
	}
	no(1, 1, 0)
	no(0, 1, 1)
	no(0, 1, 1)
	no(1, 1, 0)
	no(0, 2, 0) // to a call that isn't the present one
	no(0, 1, 1)
	yes(1, 1)
	no(1, 1, 1)
	no(1, 3, 1)
	no(0, 2, 1)
	no(1, 2, 0)
	yes(1, 2)
	no(0, 1, 0)
	no(0, 2, 0)
	no(0, 3, 0)
}

// P17.3: what is no answer to the present call, from a node to the client's place, does nothing.
func TestNoAnswers(t *testing.T) {
	m := api.Msg{Kind: api.MsgAnswer, N: 2, Block: 3, Client: -1, Data: "abcdefgh"}
	good := api.Letter{From: 0, To: place, Body: body(t, m)}
	var l []api.Letter
	for _, x := range []int{-1, -2, 2, 3, 4, 5, 6, 7, 8, 1 << 32, 1<<32 + 1, -1 << 32, math.MaxInt, math.MinInt, math.MinInt + 1} {
		l = append(l, api.Letter{From: x, To: place, Body: good.Body})
	}
	for _, x := range []int{-1, 0, 1, 2, 3, 4, 5, 7, 8, -6, place + 1<<32, math.MaxInt, math.MinInt} {
		l = append(l, api.Letter{From: 0, To: x, Body: good.Body}, api.Letter{From: 1, To: x, Body: good.Body})
	}
	for kind := 1; kind < 15; kind++ {
		no := m
		no.Kind = kind
		l = append(l, api.Letter{From: 0, To: place, Body: body(t, no)})
	}
	for _, n := range []int64{0, 1, 3, 4, 5, -1, -2, -3, 2 + 1<<32, 2 - 1<<32, 1<<62 - 1, 1 << 62, -1 << 62} {
		for _, e := range []api.Errno{api.OK, api.ErrPrimary, api.ErrLease, api.ErrBusy, api.ErrFull} {
			l = append(l, answer(t, 0, n, e, ""), answer(t, 1, n, e, ""))
		}
	}
	for _, s := range []string{"", "?", "\x0f", good.Body[:len(good.Body)-1], good.Body + "\x00", good.Body[1:], "\x0e" + good.Body[1:], "\x10" + good.Body[1:], "\x00" + good.Body[1:], strings.Repeat("\xff", 300), strings.Repeat(good.Body, 2)} {
		l = append(l, api.Letter{From: 0, To: place, Body: s}, api.Letter{From: 1, To: place, Body: s})
	}
	c := made(t, place, read(1), read(2), read(3), read(4))
	wantTake(t, "call 1", c, answer(t, 0, 1, api.OK, "first"), true)
	for _, x := range l {
		wantTake(t, "no answer", c, x, false)
		says(t, fmt.Sprint("behind ", x), c, 0, 3, ok("first"))
		wantPoke(t, "behind no answer", c, place, 0, 2, read(2))
	}
	wantTake(t, "an answer", c, good, true)
	says(t, "behind an answer", c, 0, 2, ok("first"), ok("abcdefgh"))
}

// P17.3: of an answer only its number, its error and its data matter.
func TestOtherParts(t *testing.T) {
	for i, m := range []api.Msg{
		{}, {Epoch: 1 << 62}, {Seq: 1 << 62}, {Block: 31}, {Block: -1}, {Client: 3}, {Client: -1}, {T: [4]int64{1, 2, 3, 1 << 62}}, {Row: strings.Repeat("\xff", 10)}, {Data: strings.Repeat("\x00", 40)},
	} {
		m.Kind, m.N = api.MsgAnswer, 1
		c := made(t, place, trim(5))
		wantTake(t, fmt.Sprint("case ", i), c, api.Letter{From: 1, To: place, Body: body(t, m)}, true)
		says(t, fmt.Sprint("case ", i), c, 0, 0, ok(m.Data))
	}
}

// P17.3: one answer ends one call, however often it comes.
func TestTwice(t *testing.T) {
	c := made(t, place, read(1), read(1), read(1))
	for n := 1; n <= 3; n++ {
		x := answer(t, 0, int64(n), api.OK, fmt.Sprint("answer ", n))
		wantTake(t, "at first", c, x, true)
		for range 3 {
			wantTake(t, "once more", c, x, false)
		}
		if n > 1 {
			wantTake(t, "that of the one ahead", c, answer(t, 1, int64(n)-1, api.OK, "late"), false)
		}
	}
	says(t, "afterwards", c, 0, 0, ok("answer 1"), ok("answer 2"), ok("answer 3"))
	wantTake(t, "to a call behind all", c, answer(t, 0, 4, api.OK, ""), false)
	wantTake(t, "to a call behind all", c, answer(t, 1, 5, api.OK, ""), false)
	says(t, "still", c, 0, 0, ok("answer 1"), ok("answer 2"), ok("answer 3"))
}

// The words: which calls can't be sent; their result comes as soon as they are the present one, not ahead of it.
func TestUnsendable(t *testing.T) {
	no := failed(api.ErrForm)
	for _, bad := range unsendable() {
		what := fmt.Sprintf("%.60v", bad)
		c := made(t, place, bad)
		says(t, what, c, 0, 0, no)
		wantNoPoke(t, what, c)
		wantTake(t, what, c, answer(t, 0, 1, api.OK, ""), false)
		says(t, what, c, 0, 0, no)

		c = made(t, place, bad, bad, read(1), bad, read(2), read(3), bad, bad)
		says(t, what, c, 0, 6, no, no)
		wantPoke(t, what, c, place, 0, 3, read(1))
		wantTake(t, what, c, answer(t, 0, 1, api.OK, ""), false)
		wantTake(t, what, c, answer(t, 0, 3, api.ErrPrimary, ""), false)
		says(t, what, c, 1, 6, no, no)
		wantTake(t, what, c, answer(t, 1, 3, api.OK, "a"), true)
		says(t, what, c, 1, 4, no, no, ok("a"), no)
		wantTake(t, what, c, answer(t, 1, 4, api.OK, ""), false)
		wantPoke(t, what, c, place, 1, 5, read(2))
		wantTake(t, what, c, answer(t, 1, 5, api.ErrFull, ""), true)
		says(t, what, c, 1, 3, no, no, ok("a"), no, failed(api.ErrFull))
		wantPoke(t, what, c, place, 1, 6, read(3))
		wantTake(t, what, c, answer(t, 0, 6, api.OK, "b"), true)
		says(t, what, c, 1, 0, no, no, ok("a"), no, failed(api.ErrFull), ok("b"), no, no)
		wantNoPoke(t, what, c)
	}
	for _, good := range sendable() {
		says(t, fmt.Sprint(good), made(t, place, good), 0, 1)
	}
}

// P17.3: a node may tell ErrForm, too: that ends a call as other errors do.
func TestToldForm(t *testing.T) {
	c := made(t, place, read(1), read(2))
	wantTake(t, "ErrForm", c, answer(t, 0, 1, api.ErrForm, ""), true)
	says(t, "ErrForm", c, 0, 1, failed(api.ErrForm))
	wantPoke(t, "ErrForm", c, place, 0, 2, read(2))
}

// P17.1 to P17.4: so many calls as there may be, some of which can't be sent.
func TestManyCalls(t *testing.T) {
	var l []api.Call
	var w []api.Result
	for i := range 1000 {
		if i%7 == 5 {
			l, w = append(l, api.Call{Block: -2}), append(w, failed(api.ErrForm))
		} else {
			l, w = append(l, write(i%32, fmt.Sprint(i))), append(w, ok(fmt.Sprint("result ", i)))
		}
	}
	c := made(t, place, l...)
	for i, call := range l {
		if i%7 == 5 {
			continue
		}
		wantPoke(t, fmt.Sprint("call ", i+1), c, place, 0, i+1, call)
		wantTake(t, fmt.Sprint("call ", i+1), c, answer(t, i%2, int64(i)+1, api.OK, w[i].Data), true)
	}
	says(t, "afterwards", c, 0, 0, w...)
	wantTake(t, "afterwards", c, answer(t, 0, 1001, api.OK, ""), false)
}

// R3: a client keeps no list that was handed in, and hands out none that it keeps; what was handed in stays as it was.
func TestOwnLists(t *testing.T) {
	l := []api.Call{{Op: -1}, read(1), write(2, "abcdefgh"), trim(3)}
	was := slices.Clone(l)
	c := made(t, place, l...)
	if !slices.Equal(l, was) {
		t.Errorf("New changed its calls: %v", l)
	}
	clear(l)
	wantPoke(t, "the list is cleared", c, place, 0, 2, read(1))
	wantTake(t, "call 2", c, answer(t, 0, 2, api.OK, "a"), true)
	wantPoke(t, "the list is cleared", c, place, 0, 3, write(2, "abcdefgh"))

	r := c.Results()
	_ = append(r[:1], ok("x"), ok("y"), ok("z"))
	clear(r)
	says(t, "the results are cleared", c, 0, 2, failed(api.ErrForm), ok("a"))
	r = c.Results()
	wantTake(t, "call 3", c, answer(t, 0, 3, api.ErrFull, ""), true)
	if w := []api.Result{failed(api.ErrForm), ok("a")}; !slices.Equal(r, w) {
		t.Errorf("what was told changed: %v, not %v", r, w)
	}
	_ = append(r, ok("x"))
	says(t, "more was appended", c, 0, 1, failed(api.ErrForm), ok("a"), failed(api.ErrFull))
}

// R5: clients know nothing of each other, those of one place and of one list neither.
func TestTwoClients(t *testing.T) {
	l := []api.Call{read(1), read(2)}
	a, b := made(t, place, l...), made(t, place, l...)
	a.Turn()
	wantTake(t, "the first one", a, answer(t, 1, 1, api.OK, "a"), true)
	says(t, "the other one", b, 0, 2)
	wantPoke(t, "the other one", b, place, 0, 1, read(1))
	wantTake(t, "the other one", b, answer(t, 0, 1, api.OK, "b"), true)
	says(t, "the first one", a, 1, 1, ok("a"))
	says(t, "the other one", b, 0, 1, ok("b"))
	says(t, "a new one", made(t, place, l...), 0, 2)
}
