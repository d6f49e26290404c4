package conn

import (
	"encoding/binary"
	"math/rand"
	"slices"
	"testing"

	"spigot/api"
	"spigot/book"
	"spigot/wire"
)

// model is a connection by the chapter's words: of all that came it reads the line
// anew for each question, and of all that was done it reads the ledger anew.
type model struct {
	came    []byte // while the connection took it
	taken   []api.Call
	replies []api.Reply // those of the calls that were taken, in their order
	broken  bool        // its end was reached
	hung    bool
	unsent  []byte
}

// line: the requests of all that came, and the error of what ends them, or OK.
func (m *model) line() ([]api.Call, api.Errno) {
	var calls []api.Call
	rest := m.came
	for len(rest) >= 4 {
		length := binary.BigEndian.Uint32(rest)
		if length == 0 || length > 4096 {
			return calls, api.ErrFrame
		}
		if len(rest)-4 < int(length) {
			break
		}
		call, e := wire.ReadRequest(rest[4 : 4+length])
		if e != api.OK {
			return calls, api.ErrForm
		}
		calls = append(calls, call)
		rest = rest[4+length:]
	}
	return calls, api.OK
}

func (m *model) isOut() bool { return len(m.taken) > len(m.replies) }

func (m *model) open() bool { return !m.broken && !m.hung }

func (m *model) feed(p []byte) api.Errno {
	if _, end := m.line(); !m.open() || end != api.OK {
		return api.ErrClosed
	}
	m.came = append(m.came, p...)
	return api.OK
}

func (m *model) next() (api.Call, api.Errno) {
	calls, end := m.line()
	switch {
	case m.isOut():
		return api.Call{}, api.ErrBusy
	case !m.open():
		return api.Call{}, api.ErrClosed
	case len(calls) > len(m.taken):
		call := calls[len(m.taken)]
		m.taken = append(m.taken, call)
		return call, api.OK
	case end != api.OK:
		m.unsent = append(m.unsent, answered(api.Reply{E: end})...)
		m.broken = true
		return api.Call{}, api.ErrClosed
	}
	return api.Call{}, api.ErrNone
}

func (m *model) reply(r api.Reply) api.Errno {
	if _, e := wire.Reply(r); e != api.OK {
		return e
	}
	if !m.isOut() {
		return api.ErrNone
	}
	m.replies = append(m.replies, r)
	if !m.hung {
		m.unsent = append(m.unsent, answered(r)...)
	}
	return api.OK
}

func (m *model) take() []byte {
	p := m.unsent
	m.unsent = nil
	return p
}

// ledger: the token of each Acquire that has got one, and no Release of it behind.
func (m *model) ledger() []api.Token {
	var list []api.Token
	for i, r := range m.replies {
		if m.taken[i].Op != 2 || r.E != 0 {
			continue
		}
		one := api.Token{Policy: m.taken[i].Policy, Key: m.taken[i].Key, Serial: r.Serial}
		released := false
		for j := i + 1; j < len(m.replies); j++ {
			back := api.Token{Policy: m.taken[j].Policy, Key: m.taken[j].Key, Serial: m.taken[j].N}
			released = released || m.taken[j].Op == 3 && m.replies[j].E == 0 && sameToken(one, back)
		}
		if !released {
			list = append(list, one)
		}
	}
	return list
}

func (m *model) waiting() int {
	if !m.open() {
		return 0
	}
	calls, _ := m.line()
	return len(calls) - len(m.taken)
}

// aCall: of few policies, keys and serials, so that they meet.
func aCall(by *rand.Rand) api.Call {
	key := []string{"", "k", "kk"}[by.Intn(3)]
	call := api.Call{Op: byte(2 + by.Intn(2)), Policy: by.Intn(2), Key: []byte(key)}
	if by.Intn(4) == 0 {
		call.Op = byte(1 + by.Intn(6))
	}
	switch call.Op {
	case api.OpAllow, api.OpRelease:
		call.N = 1 + by.Int63n(3)
	case api.OpEvict, api.OpSplit:
		return api.Call{Op: call.Op}
	}
	return call
}

// aStream: requests by chance, at times with something else among them.
func aStream(by *rand.Rand) []byte {
	var stream []byte
	for range by.Intn(12) {
		stream = append(stream, asked(aCall(by))...)
	}
	switch by.Intn(4) {
	case 0:
		stream = append(stream, noFrame...)
	case 1:
		stream = append(stream, noCall...)
	case 2:
		if len(stream) > 0 {
			stream[by.Intn(len(stream))] ^= 1 << by.Intn(8)
		}
	}
	for range by.Intn(3) {
		stream = append(stream, asked(aCall(by))...)
	}
	return stream
}

func aReply(by *rand.Rand) api.Reply {
	r := api.Reply{Granted: by.Intn(2) == 0, Left: by.Int63n(9), Serial: by.Int63n(4), Now: by.Int63n(9)}
	switch by.Intn(6) {
	case 0:
		r.E = api.Errno(by.Intn(17))
	case 1:
		return noReplies()[by.Intn(len(noReplies()))]
	}
	return r
}

// act does one thing with both, and holds the answers against each other.
func act(t *testing.T, by *rand.Rand, c *Conn, m *model, stream *[]byte) string {
	switch by.Intn(20) {
	case 0, 1, 2, 3, 4:
		size := min(by.Intn(1+by.Intn(40)), len(*stream))
		wantFeed(t, c, (*stream)[:size], m.feed((*stream)[:size]))
		*stream = (*stream)[size:]
		return "feed"
	case 5, 6, 7, 8, 9, 10:
		call, e := m.next()
		if e == api.OK {
			wantNext(t, c, call)
			return "next"
		}
		noNext(t, c, e)
		return "no next"
	case 11, 12, 13, 14, 15:
		r := aReply(by)
		e := m.reply(r)
		wantReply(t, c, r, e)
		switch {
		case e != api.OK:
			return "no reply"
		case m.hung:
			return "reply behind hangup"
		}
		return "reply"
	case 16, 17:
		wantTake(t, c, m.take())
		return "take"
	case 18:
		if by.Intn(6) == 0 {
			m.hung = true
			wantHangup(t, c, m.ledger()...)
			return "hangup"
		}
	}
	return "nothing"
}

func TestByChance(t *testing.T) {
	by := rand.New(rand.NewSource(22))
	seen := map[string]int{}
	for range 6000 {
		c, m, stream := New(), &model{}, aStream(by)
		for range 60 {
			seen[act(t, by, c, m, &stream)]++
			wantState(t, c, m.waiting(), m.open())
			wantLedger(t, c, m.ledger()...)
		}
		wantTake(t, c, m.take())
		if m.broken {
			seen["end"]++
		}
		if len(m.ledger()) > 1 {
			seen["many held"]++
		}
	}
	kinds := []string{"feed", "next", "no next", "reply", "no reply", "reply behind hangup", "take", "hangup", "end", "many held"}
	for _, what := range kinds {
		if seen[what] < 200 {
			t.Errorf("too few of the kind %q: %d", what, seen[what])
		}
	}
}

// P6, P20.4: however a stream is cut in two, the calls and the bytes are the same.
func TestEveryCut(t *testing.T) {
	ahead := asked(acquire(1, "k"), allow(0, "a", 1), split)
	for _, behind := range [][]byte{nil, {0, 0}, noFrame, noCall, append(noCall, noFrame...), append(noFrame, noCall...)} {
		stream := slices.Concat(ahead, behind)
		want, written := served(t, stream)
		for first := range len(stream) + 1 {
			for second := first; second <= len(stream); second++ {
				calls, got := served(t, stream[:first], stream[first:second], stream[second:])
				if !slices.EqualFunc(calls, want, sameCall) || !slices.Equal(got, written) {
					t.Fatalf("% x, cut at %d and %d: %v, % x", stream, first, second, calls, got)
				}
			}
		}
	}
}

// served: what a connection asks for, and what is written, if each request has its
// reply as soon as it can be taken.
func served(t *testing.T, pieces ...[]byte) ([]api.Call, []byte) {
	t.Helper()
	c := New()
	var calls []api.Call
	for _, p := range pieces {
		if e := c.Feed(p); e != api.OK && c.Open() {
			t.Fatalf("Feed(% x) = %d", p, e)
		}
		for {
			call, e := c.Next()
			if e != api.OK {
				break
			}
			calls = append(calls, call)
			wantReply(t, c, api.Reply{Left: int64(len(calls)), Serial: 5}, api.OK)
		}
	}
	return calls, c.Take()
}

// A client on one side and a limiter on the other one: what the ledger tells is what
// is held there, so that giving it back leaves nothing held.
func TestLedgerIsWhatIsHeld(t *testing.T) {
	by := rand.New(rand.NewSource(6))
	table := []api.Policy{{Kind: api.KindSema, Permits: 3}, {Kind: api.KindSema, Permits: 1}}
	for range 300 {
		b, _ := book.New(table, 4)
		c := New()
		var written []byte
		for serial := int64(1); serial < 60; serial++ {
			call := aCall(by)
			if list := c.Ledger(); len(list) > 0 && by.Intn(3) == 0 {
				one := list[by.Intn(len(list))]
				call = release(one.Policy, string(one.Key), one.Serial)
			}
			wantFeed(t, c, asked(call), api.OK)
			got, e := c.Next()
			if e != api.OK {
				t.Fatal(e)
			}
			r := b.Do(got, 0, serial)
			wantReply(t, c, r, api.OK)
			written = append(written, answered(r)...)
			wantHeld(t, b, c.Ledger())
		}
		wantTake(t, c, written)
		for _, one := range c.Hangup() {
			back := api.Call{Op: api.OpRelease, Policy: one.Policy, Key: one.Key, N: one.Serial}
			if r := b.Do(back, 0, 0); r.E != api.OK {
				t.Fatalf("%v: %d", one, r.E)
			}
		}
		wantHeld(t, b, nil)
	}
}

func wantHeld(t *testing.T, b *book.Book, ledger []api.Token) {
	count := 0
	for _, one := range b.Cells() {
		for _, serial := range one.Held {
			count++
			is := func(told api.Token) bool { return sameToken(told, held(one.Policy, string(one.Key), serial)) }
			if !slices.ContainsFunc(ledger, is) {
				t.Fatalf("%v is held, the ledger is %v", one, ledger)
			}
		}
	}
	if count != len(ledger) {
		t.Fatalf("%d are held, the ledger is %v", count, ledger)
	}
}
