package daemon

import (
	"bytes"
	"iter"
	"math"
	"math/rand"
	"slices"
	"testing"

	"spigot/api"
	"spigot/book"
	"spigot/core"
	"spigot/frame"
	"spigot/hist"
	"spigot/wire"
)

// model is the chapter's words, told straight on: the life of each connection is a
// coroutine that goes on by one step whenever it is asked.
type model struct {
	limiter *core.Core
	lives   map[int]*life // of those that aren't gone
	outs    map[int][]byte
	drains  bool
}

// life is a connection, with all that came and all that it has got.
type life struct {
	*model
	who    int
	came   []byte
	taken  int // requests
	hung   bool
	tokens []api.Token
	goOn   func() (bool, bool)
}

func newModel(list []api.Policy, cells int) *model {
	limiter, _ := core.New(list, cells)
	return &model{limiter: limiter, lives: map[int]*life{}, outs: map[int][]byte{}}
}

func (m *model) do(e Event) api.Errno {
	fault, is := m.fault(e)
	if is {
		return fault
	}
	one := m.lives[e.Conn]
	switch e.Kind {
	case Connect:
		m.outs[e.Conn] = nil
		m.lives[e.Conn] = &life{model: m, who: e.Conn}
		m.lives[e.Conn].goOn, _ = iter.Pull(m.lives[e.Conn].run)
	case Bytes:
		one.came = append(one.came, e.Data...)
	case Step:
		if _, on := one.goOn(); !on {
			delete(m.lives, e.Conn)
		}
	case Hangup:
		one.hung = true
	case Tick:
		m.limiter.Tick(e.N)
	case Drain:
		m.drains = true
	}
	return api.OK
}

// fault: the least error of all that apply.
func (m *model) fault(e Event) (api.Errno, bool) {
	var all []api.Errno
	ofConn := e.Kind == Connect || e.Kind == Bytes || e.Kind == Step || e.Kind == Hangup
	one := m.lives[e.Conn]
	switch {
	case e.Kind < 1 || e.Kind > 6, ofConn && (e.Conn < 0 || e.Conn > 62), e.Kind == Tick && (e.N < 0 || e.N > 1<<62-1):
		all = append(all, api.ErrArg)
	case ofConn && e.Kind != Connect && one == nil:
		all = append(all, api.ErrNone)
	case e.Kind == Connect && one != nil:
		all = append(all, api.ErrBusy)
	}
	if m.drains && (e.Kind == Connect || e.Kind == Bytes) {
		all = append(all, api.ErrClosed)
	}
	if one != nil {
		if _, end := one.line(); e.Kind == Bytes && (one.hung || end != api.OK) {
			all = append(all, api.ErrClosed)
		}
		if e.Kind == Hangup && one.hung {
			all = append(all, api.ErrClosed)
		}
	}
	if len(all) == 0 {
		return api.OK, false
	}
	return slices.Min(all), true
}

// line: the requests of all that came, and what ends them.
func (l *life) line() ([]api.Call, api.Errno) {
	var calls []api.Call
	payloads, broken := frame.New().Feed(l.came)
	for _, p := range payloads {
		call, e := wire.ReadRequest(p)
		if e != api.OK {
			return calls, api.ErrForm
		}
		calls = append(calls, call)
	}
	return calls, broken
}

// waits: how many requests.
func (l *life) waits() int {
	calls, _ := l.line()
	if l.hung {
		return 0
	}
	return len(calls) - l.taken
}

func (l *life) run(yield func(bool) bool) {
	for !l.hung {
		calls, end := l.line()
		switch {
		case l.taken < len(calls):
			call := calls[l.taken]
			l.taken++
			l.note(call, l.ask(call, yield))
		case end != api.OK:
			l.write(api.Reply{E: end})
			l.hung = true
		case l.drains:
			l.hung = true
		}
		yield(true)
	}
	for _, one := range slices.Clone(l.tokens) {
		l.ask(release(one.Policy, string(one.Key), one.Serial), yield)
		yield(true)
	}
}

func (l *life) write(r api.Reply) { l.outs[l.who] = append(l.outs[l.who], answered(r)...) }

func (l *life) ask(call api.Call, yield func(bool) bool) api.Reply {
	if e := l.limiter.Start(l.who, call); e != api.OK {
		return api.Reply{E: e}
	}
	for {
		r, _ := l.limiter.Step(l.who)
		if r.Done {
			return r.Reply
		}
		yield(true)
	}
}

// note: the call has returned.
func (l *life) note(call api.Call, r api.Reply) {
	if !l.hung {
		l.write(r)
	}
	token := held(call.Policy, string(call.Key), call.N)
	switch {
	case r.E != api.OK:
	case call.Op == api.OpAcquire:
		token.Serial = r.Serial
		l.tokens = append(l.tokens, token)
	case call.Op == api.OpRelease:
		l.tokens = slices.DeleteFunc(l.tokens, func(one api.Token) bool { return sameToken(one, token) })
	}
}

func (m *model) state(conn int) int {
	switch one := m.lives[conn]; {
	case one == nil:
		return 0
	case one.hung:
		return 2
	}
	return 1
}

func (m *model) ledger(conn int) []api.Token {
	if one := m.lives[conn]; one != nil {
		return one.tokens
	}
	return nil
}

// somebody: few numbers, so that they meet, the ends among them.
func somebody(by *rand.Rand) int { return []int{0, 1, 2, 62}[by.Intn(4)] }

func aCall(by *rand.Rand, d *Daemon) api.Call {
	if list := d.Ledger(somebody(by)); len(list) > 0 && by.Intn(3) == 0 {
		one := list[by.Intn(len(list))]
		return release(one.Policy, string(one.Key), one.Serial)
	}
	key := []string{"", "k", "kk"}[by.Intn(3)]
	switch by.Intn(12) {
	case 0, 1, 2, 3, 4:
		return acquire(1+by.Intn(2), key)
	case 5, 6:
		return allow(0, key, by.Int63n(3))
	case 7:
		return peek(by.Intn(3), key)
	case 8:
		return evict
	case 9:
		return split
	case 10:
		return release(1, key, 1+by.Int63n(9))
	}
	return allow(by.Intn(5), key, by.Int63n(5))
}

func aStream(by *rand.Rand, d *Daemon) []byte {
	var stream []byte
	for range by.Intn(5) {
		stream = append(stream, asked(aCall(by, d))...)
	}
	switch by.Intn(30) {
	case 0:
		stream = append(stream, noFrame...)
	case 1:
		stream = append(stream, noCall...)
	case 2:
		if len(stream) > 0 {
			stream[by.Intn(len(stream))] ^= 1 << by.Intn(8)
		}
	}
	return stream
}

// client keeps, of each connection, what is to be sent yet.
type client map[int][]byte

func (c client) next(by *rand.Rand, d *Daemon, conn int) []byte {
	if len(c[conn]) == 0 {
		c[conn] = aStream(by, d)
	}
	size := min(by.Intn(60), len(c[conn]))
	piece := c[conn][:size]
	c[conn] = c[conn][size:]
	return piece
}

func anEvent(by *rand.Rand, d *Daemon, c client) Event {
	conn := somebody(by)
	switch n := by.Intn(100); {
	case n < 6:
		delete(c, conn)
		return Event{Kind: Connect, Conn: conn}
	case n < 22:
		return Event{Kind: Bytes, Conn: conn, Data: c.next(by, d, conn)}
	case n < 24:
		return Event{Kind: Hangup, Conn: conn}
	case n < 28:
		return Event{Kind: Tick, Conn: -1, N: by.Int63n(12)}
	case n < 30:
		return Event{
			Kind: byte(by.Intn(7)), Conn: []int{-1, 63, 0, 3, math.MaxInt}[by.Intn(5)],
			N: []int64{-1, 0, math.MinInt64, 1 << 62}[by.Intn(4)],
		}
	}
	return Event{Kind: Step, Conn: conn}
}

func wantAsModel(t *testing.T, d *Daemon, m *model) {
	t.Helper()
	for _, conn := range []int{-1, 0, 1, 2, 3, 62, 63} {
		wantState(t, d, conn, m.state(conn))
		wantLedger(t, d, conn, m.ledger(conn)...)
		if got, want := d.Out(conn), m.outs[conn]; !bytes.Equal(got, want) {
			t.Fatalf("Out(%d) = % x, not % x", conn, got, want)
		}
	}
	if d.Steps() != m.limiter.Steps() || d.Quiet() != (len(m.lives) == 0) {
		t.Fatalf("Steps() = %d, Quiet() = %v, not %d", d.Steps(), d.Quiet(), m.limiter.Steps())
	}
}

func TestByChance(t *testing.T) {
	by := rand.New(rand.NewSource(23))
	table := append(aTable(), api.Policy{Kind: api.KindSema, Permits: 3})
	seen := map[string]int{}
	for range 1500 {
		room := []int{1, 3, 30}[by.Intn(3)]
		d, _ := New(table, room)
		m, c := newModel(table, room), client{}
		for i := range 150 {
			e := anEvent(by, d, c)
			if i == 120 && by.Intn(2) == 0 {
				e = Event{Kind: Drain}
			}
			told := m.do(e)
			wantDo(t, d, e, told)
			if told == api.OK {
				seen[what(e, d)]++
			} else {
				seen[[]string{1: "wrong", 7: "none", 9: "busy", 13: "closed"}[told]]++
			}
			wantAsModel(t, d, m)
		}
		wantCells(t, d, m.limiter.Cells()...)
		allGoneAlone(t, by, d, m)
	}
	kinds := []string{"connect", "bytes", "step", "step of one hung up", "step, gone", "hangup", "tick", "drain", "wrong", "none", "busy", "closed"}
	for _, kind := range kinds {
		if seen[kind] < 200 {
			t.Errorf("too few of the kind %q: %d", kind, seen[kind])
		}
	}
}

func what(e Event, d *Daemon) string {
	kind := []string{"", "connect", "bytes", "step", "hangup", "tick", "drain"}[e.Kind]
	if e.Kind == Step {
		kind += []string{", gone", "", " of one hung up"}[d.State(e.Conn)]
	}
	return kind
}

// allGoneAlone: while the daemon drains, each connection that is stepped alone is
// gone within the steps that are told, wherever the other ones were left; when all
// are gone, no permit is held.
func allGoneAlone(t *testing.T, by *rand.Rand, d *Daemon, m *model) {
	t.Helper()
	wantDo(t, d, Event{Kind: Drain}, m.do(Event{Kind: Drain}))
	conns := []int{0, 1, 2, 62}
	by.Shuffle(4, func(i, j int) { conns[i], conns[j] = conns[j], conns[i] })
	for _, conn := range conns {
		one := m.lives[conn]
		if one == nil {
			continue
		}
		most := 512*(one.waits()+len(one.tokens)) + 512
		for n := 0; d.State(conn) != 0; n++ {
			if n == most {
				t.Fatalf("%d isn't gone within %d steps", conn, most)
			}
			wantDo(t, d, Event{Kind: Step, Conn: conn}, m.do(Event{Kind: Step, Conn: conn}))
		}
	}
	wantAsModel(t, d, m)
	wantCells(t, d, m.limiter.Cells()...)
	for _, one := range d.Cells() {
		if len(one.Held) != 0 {
			t.Fatalf("all are gone, and %v is held", one)
		}
	}
}

// readOut: the replies that were written to a connection.
func readOut(t *testing.T, d *Daemon, conn int) []api.Reply {
	t.Helper()
	payloads, e := frame.New().Feed(d.Out(conn))
	if e != api.OK {
		t.Fatal(e)
	}
	var list []api.Reply
	for _, p := range payloads {
		r, e := wire.ReadReply(p)
		if e != api.OK {
			t.Fatal(e)
		}
		list = append(list, r)
	}
	return list
}

// P23.3: requests that are done one behind the other have the replies of chapter 16,
// whichever connections they come by.
func TestOneBehindTheOther(t *testing.T) {
	by := rand.New(rand.NewSource(3))
	table := append(aTable(), api.Policy{Kind: api.KindSema, Permits: 3})
	for range 300 {
		d, _ := New(table, 4)
		b, _ := book.New(table, 4)
		connect(t, d, 0, 1, 2, 62)
		now, serial := int64(0), int64(1)
		for range 60 {
			conn := somebody(by)
			if by.Intn(4) == 0 {
				wantDo(t, d, Event{Kind: Tick, N: 5}, api.OK)
				now += 5
			}
			call := aCall(by, d)
			before := len(readOut(t, d, conn))
			came(t, d, conn, asked(call))
			for len(readOut(t, d, conn)) == before {
				steps(t, d, conn, 1)
			}
			got := readOut(t, d, conn)[before]
			want := b.Do(call, now, serial)
			if call.Op == api.OpEvict {
				want.Now = 0 // chapter 17
			}
			if call.Op == api.OpSplit {
				want.E = got.E // there may be enough shards
			}
			if got != want {
				t.Fatalf("%v at %d: %v, not %v", call, now, got, want)
			}
			if got.Serial == serial || got.E == api.ErrFull && call.Op == api.OpAcquire {
				serial++ // one that found no room has got its serial all the same
			}
		}
		wantCells(t, d, b.Cells()...)
	}
}

// P23.3: calls of many connections, in any order of their steps, could have been done
// one behind the other.
func TestThereIsAnOrder(t *testing.T) {
	by := rand.New(rand.NewSource(33))
	table := []api.Policy{{Kind: api.KindRate, Limit: api.Limit{T: 10, Tau: 20}}, {Kind: api.KindSema, Permits: 1}}
	for range 2000 {
		d, _ := New(table, 100)
		var done []hist.Done
		conns := []int{0, 1, 62}
		calls := map[int][]api.Call{}
		first := map[int]int{}
		for _, conn := range conns {
			for range 1 + by.Intn(2) {
				calls[conn] = append(calls[conn], []api.Call{allow(0, "k", 2), acquire(1, "k"), release(1, "k", 1), peek(1, "k"), peek(0, "k"), split}[by.Intn(6)])
			}
			connect(t, d, conn)
			came(t, d, conn, asked(calls[conn]...))
		}
		for len(conns) > 0 {
			conn := conns[by.Intn(len(conns))]
			if by.Intn(5) == 0 {
				wantDo(t, d, Event{Kind: Tick, N: by.Int63n(9)}, api.OK)
			}
			before := len(readOut(t, d, conn))
			stepsBy(t, d, conn, 1, true)
			if first[conn] == 0 {
				first[conn] = d.Steps()
			}
			list := readOut(t, d, conn)
			if len(list) == before {
				continue
			}
			done = append(done, hist.Done{Who: conn, Call: calls[conn][before], First: first[conn], Last: d.Steps(), Reply: list[before]})
			first[conn] = 0
			if len(list) == len(calls[conn]) {
				conns = slices.DeleteFunc(conns, func(one int) bool { return one == conn })
			}
		}
		if ok, e := hist.Check(table, done); !ok || e != api.OK {
			t.Fatalf("there is no order of %v: %d", done, e)
		}
	}
}
