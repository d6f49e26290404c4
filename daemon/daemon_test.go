package daemon

import (
	"bytes"
	"encoding/binary"
	"math"
	"slices"
	"strings"
	"testing"

	"spigot/api"
	"spigot/wire"
)

// aTable is that of chapter 16: 0 a rate, 1 a semaphore of 2 permits.
func aTable() []api.Policy {
	return []api.Policy{{Kind: api.KindRate, Limit: api.Limit{T: 10, Tau: 20}}, {Kind: api.KindSema, Permits: 2}}
}

// framed: a frame of layer 20's form, whatever length its payload has.
func framed(payload []byte) []byte {
	return append(binary.BigEndian.AppendUint32(nil, uint32(len(payload))), payload...)
}

// asked: the frames of the requests of these calls, one behind the other.
func asked(calls ...api.Call) []byte {
	var stream []byte
	for _, c := range calls {
		p, e := wire.Request(c)
		if e != api.OK {
			panic("no request")
		}
		stream = append(stream, framed(p)...)
	}
	return stream
}

// answered: the frames of these replies, by the words of layers 20 and 21.
func answered(replies ...api.Reply) []byte {
	var stream []byte
	for _, r := range replies {
		p := []byte{byte(r.E), 0}
		if r.Granted {
			p[1] = 1
		}
		for _, n := range []int64{r.Left, r.Wait, r.Serial, r.Now} {
			p = binary.BigEndian.AppendUint64(p, uint64(n))
		}
		stream = append(stream, framed(p)...)
	}
	return stream
}

func allow(policy int, key string, n int64) api.Call {
	return api.Call{Op: api.OpAllow, Policy: policy, Key: []byte(key), N: n}
}

func acquire(policy int, key string) api.Call {
	return api.Call{Op: api.OpAcquire, Policy: policy, Key: []byte(key)}
}

func release(policy int, key string, n int64) api.Call {
	return api.Call{Op: api.OpRelease, Policy: policy, Key: []byte(key), N: n}
}

func peek(policy int, key string) api.Call {
	return api.Call{Op: api.OpPeek, Policy: policy, Key: []byte(key)}
}

func held(policy int, key string, serial int64) api.Token {
	return api.Token{Policy: policy, Key: []byte(key), Serial: serial}
}

var (
	evict   = api.Call{Op: api.OpEvict}
	split   = api.Call{Op: api.OpSplit}
	noFrame = []byte{0, 0, 0, 0}
	noCall  = framed([]byte{9})
)

func sameToken(a, b api.Token) bool {
	return a.Policy == b.Policy && bytes.Equal(a.Key, b.Key) && a.Serial == b.Serial
}

func sameCell(a, b api.Cell) bool {
	return a.Policy == b.Policy && bytes.Equal(a.Key, b.Key) && a.TAT == b.TAT && slices.Equal(a.Held, b.Held)
}

func made(t *testing.T, cells int) *Daemon {
	t.Helper()
	d, e := New(aTable(), cells)
	if e != api.OK {
		t.Fatalf("New = %d", e)
	}
	return d
}

func wantDo(t *testing.T, d *Daemon, e Event, fault api.Errno) {
	if got := d.Do(e); got != fault {
		t.Helper()
		t.Fatalf("Do(%v) = %d, not %d", e, got, fault)
	}
}

func connect(t *testing.T, d *Daemon, conns ...int) {
	t.Helper()
	for _, conn := range conns {
		wantDo(t, d, Event{Kind: Connect, Conn: conn}, api.OK)
		wantState(t, d, conn, 1)
		wantOut(t, d, conn)
	}
}

func came(t *testing.T, d *Daemon, conn int, pieces ...[]byte) {
	t.Helper()
	wantDo(t, d, Event{Kind: Bytes, Conn: conn, Data: slices.Concat(pieces...)}, api.OK)
}

func steps(t *testing.T, d *Daemon, conn, n int) {
	t.Helper()
	for range n {
		wantDo(t, d, Event{Kind: Step, Conn: conn}, api.OK)
	}
}

// stepsBy does n steps, each of which is an access if accesses is true, and none of
// which is one else; ahead of the last one nothing more is written.
func stepsBy(t *testing.T, d *Daemon, conn, n int, accesses bool) {
	t.Helper()
	before := d.Out(conn)
	for i := range n {
		was := d.Steps()
		steps(t, d, conn, 1)
		if (d.Steps() == was+1) != accesses || (d.Steps() == was) == accesses {
			t.Fatalf("the step %d: %d accesses", i, d.Steps()-was)
		}
		if got := d.Out(conn); i < n-1 && !bytes.Equal(got, before) {
			t.Fatalf("the step %d: % x is written", i, got)
		}
	}
}

func hangup(t *testing.T, d *Daemon, conn int) {
	t.Helper()
	wantDo(t, d, Event{Kind: Hangup, Conn: conn}, api.OK)
	wantState(t, d, conn, 2)
}

func drain(t *testing.T, d *Daemon) {
	t.Helper()
	wantDo(t, d, Event{Kind: Drain}, api.OK)
}

func wantState(t *testing.T, d *Daemon, conn, want int) {
	if got := d.State(conn); got != want {
		t.Helper()
		t.Fatalf("State(%d) = %d, not %d", conn, got, want)
	}
}

func wantGone(t *testing.T, d *Daemon, conn int) {
	t.Helper()
	wantState(t, d, conn, 0)
	wantLedger(t, d, conn)
	for _, kind := range []byte{Bytes, Step, Hangup} {
		wantDo(t, d, Event{Kind: kind, Conn: conn}, api.ErrNone)
	}
}

func wantOut(t *testing.T, d *Daemon, conn int, replies ...api.Reply) {
	if got, want := d.Out(conn), answered(replies...); !bytes.Equal(got, want) {
		t.Helper()
		t.Fatalf("Out(%d) = % x, not % x", conn, got, want)
	}
}

func wantLedger(t *testing.T, d *Daemon, conn int, want ...api.Token) {
	if got := d.Ledger(conn); !slices.EqualFunc(got, want, sameToken) {
		t.Helper()
		t.Fatalf("Ledger(%d) = %v, not %v", conn, got, want)
	}
}

func wantCells(t *testing.T, d *Daemon, want ...api.Cell) {
	if got := d.Cells(); !slices.EqualFunc(got, want, sameCell) {
		t.Helper()
		t.Fatalf("Cells() = %v, not %v", got, want)
	}
}

// semaphore: a cell of the policy 1.
func semaphore(key string, serials ...int64) api.Cell {
	return api.Cell{Policy: 1, Key: []byte(key), Held: serials}
}

// granted: what an Acquire gets.
func granted(left, serial int64) api.Reply {
	return api.Reply{Granted: true, Left: left, Serial: serial}
}

// The chapter's examples

func TestExampleOfASplit(t *testing.T) {
	d := made(t, 2)
	connect(t, d, 0)
	came(t, d, 0, asked(split))
	stepsBy(t, d, 0, 9, true)
	wantOut(t, d, 0, api.Reply{})
	hangup(t, d, 0)
	steps(t, d, 0, 1)
	wantGone(t, d, 0)
	wantOut(t, d, 0, api.Reply{})
}

func TestExampleOfAToken(t *testing.T) {
	d := made(t, 2)
	connect(t, d, 0)
	came(t, d, 0, asked(acquire(1, "k")))
	stepsBy(t, d, 0, 7, true)
	wantOut(t, d, 0, granted(1, 1))
	wantLedger(t, d, 0, held(1, "k", 1))
	hangup(t, d, 0)
	stepsBy(t, d, 0, 3, true)
	wantState(t, d, 0, 2)
	wantLedger(t, d, 0, held(1, "k", 1))
	wantCells(t, d, semaphore("k"))
	stepsBy(t, d, 0, 1, false)
	wantGone(t, d, 0)
	wantOut(t, d, 0, granted(1, 1))
}

func TestExampleOfABrokenFrame(t *testing.T) {
	d := made(t, 2)
	connect(t, d, 0)
	came(t, d, 0, noFrame)
	wantState(t, d, 0, 1)
	stepsBy(t, d, 0, 1, false)
	wantState(t, d, 0, 2)
	wantOut(t, d, 0, api.Reply{E: api.ErrFrame})
	stepsBy(t, d, 0, 1, false)
	wantState(t, d, 0, 0)
	wantDo(t, d, Event{Kind: Step}, api.ErrNone)
	wantOut(t, d, 0, api.Reply{E: api.ErrFrame})
}

func TestExampleOfNoPolicy(t *testing.T) {
	d := made(t, 2)
	connect(t, d, 0)
	came(t, d, 0, asked(allow(2, "a", 1)))
	stepsBy(t, d, 0, 1, false)
	wantOut(t, d, 0, api.Reply{E: api.ErrPolicy})
	wantState(t, d, 0, 1)
}

// P23.1

func TestNewErrors(t *testing.T) {
	tooMany := make([]api.Policy, 33)
	noPolicy := []api.Policy{{Kind: 3}}
	told := []struct {
		list  []api.Policy
		cells int
		e     api.Errno
	}{
		{nil, 1, api.OK}, {nil, 4096, api.OK}, {aTable(), 1, api.OK}, {[]api.Policy{}, 7, api.OK},
		{aTable(), 0, api.ErrArg}, {aTable(), -1, api.ErrArg}, {aTable(), 4097, api.ErrArg}, {aTable(), math.MinInt, api.ErrArg},
		{tooMany, 0, api.ErrArg}, {tooMany, 1, api.ErrLong}, {noPolicy, 0, api.ErrArg}, {noPolicy, 1, api.ErrForm},
		{[]api.Policy{{Kind: api.KindSema, Permits: 65}}, 1, api.ErrForm},
	}
	for _, one := range told {
		d, e := New(one.list, one.cells)
		if e != one.e || (d == nil) != (e != api.OK) {
			t.Errorf("New(%v, %d) = %v, %d, not %d", one.list, one.cells, d, e, one.e)
		}
	}
}

func TestNewIsEmpty(t *testing.T) {
	d := made(t, 2)
	for conn := range api.MaxConns {
		wantGone(t, d, conn)
		wantOut(t, d, conn)
	}
	wantCells(t, d)
	if d.Steps() != 0 || !d.Quiet() {
		t.Error(d.Steps(), d.Quiet())
	}
}

func TestNewMemory(t *testing.T) {
	list := slices.Grow(aTable(), 5)
	d, _ := New(list, 2)
	for i := range list[:cap(list)] {
		list[:cap(list)][i] = api.Policy{}
	}
	connect(t, d, 0)
	came(t, d, 0, asked(acquire(1, "k"), allow(0, "a", 1)))
	steps(t, d, 0, 13)
	wantOut(t, d, 0, granted(1, 1), api.Reply{Granted: true, Left: 2})
}

func wrongNumbers() []int {
	return []int{-1, api.MaxConns, api.MaxConns + 1, 255, math.MinInt, math.MaxInt}
}

func TestDoErrArg(t *testing.T) {
	open := made(t, 2)
	connect(t, open, 0)
	for _, d := range []*Daemon{nil, made(t, 2), open} {
		for kind := range 256 {
			if kind < 1 || kind > 6 {
				for _, conn := range []int{0, 62, -1} {
					wantDo(t, d, Event{Kind: byte(kind), Conn: conn}, api.ErrArg)
				}
			}
		}
		for _, kind := range []byte{Connect, Bytes, Step, Hangup} {
			for _, conn := range wrongNumbers() {
				wantDo(t, d, Event{Kind: kind, Conn: conn}, api.ErrArg)
			}
		}
		for _, n := range []int64{-1, api.Max + 1, math.MinInt64, math.MaxInt64} {
			wantDo(t, d, Event{Kind: Tick, N: n}, api.ErrArg)
		}
	}
	if open.State(0) != 1 || open.Steps() != 0 {
		t.Error("a wrong event has changed something")
	}
}

func TestDoOfNone(t *testing.T) {
	var none *Daemon
	for kind := Connect; kind <= Drain; kind++ {
		for _, conn := range []int{0, 5, 62} {
			wantDo(t, none, Event{Kind: kind, Conn: conn}, api.ErrNone)
		}
	}
}

// What a kind doesn't use is not looked at.
func TestDoLooksAtItsOwn(t *testing.T) {
	d := made(t, 2)
	for _, n := range []int64{-1, math.MinInt64, math.MaxInt64} {
		for kind := Connect; kind <= Hangup; kind++ {
			wantDo(t, d, Event{Kind: kind, Conn: 3, Data: noFrame, N: n}, api.OK)
			if kind == Connect {
				came(t, d, 3, asked(peek(1, "a")))
			}
		}
		// The Peek that is under way, or the end that came, is served to its end.
		for d.State(3) != 0 {
			steps(t, d, 3, 1)
		}
	}
	for _, conn := range wrongNumbers() {
		wantDo(t, d, Event{Kind: Tick, Conn: conn, Data: noFrame}, api.OK)
		wantDo(t, d, Event{Kind: Drain, Conn: conn, Data: noFrame, N: -1}, api.OK)
	}
}

// The errors that hang on a connection's state, and on whether the daemon drains.
func TestDoErrorsByState(t *testing.T) {
	kinds := [4]byte{Connect, Bytes, Step, Hangup}
	told := []struct {
		name   string
		first  []Event
		drains bool
		want   [4]api.Errno
	}{
		{"gone", nil, false, [4]api.Errno{api.OK, api.ErrNone, api.ErrNone, api.ErrNone}},
		{"gone, drains", nil, true, [4]api.Errno{api.ErrClosed, api.ErrNone, api.ErrNone, api.ErrNone}},
		{"open", []Event{{Kind: Connect}}, false, [4]api.Errno{api.ErrBusy, api.OK, api.OK, api.OK}},
		{"open, drains", []Event{{Kind: Connect}}, true, [4]api.Errno{api.ErrBusy, api.ErrClosed, api.OK, api.OK}},
		{"its end stands", []Event{{Kind: Connect}, {Kind: Bytes, Data: noCall}}, false, [4]api.Errno{api.ErrBusy, api.ErrClosed, api.OK, api.OK}},
		{"its end stands, drains", []Event{{Kind: Connect}, {Kind: Bytes, Data: noCall}}, true, [4]api.Errno{api.ErrBusy, api.ErrClosed, api.OK, api.OK}},
		{"hung up", []Event{{Kind: Connect}, {Kind: Hangup}}, false, [4]api.Errno{api.ErrBusy, api.ErrClosed, api.OK, api.ErrClosed}},
		{"hung up, drains", []Event{{Kind: Connect}, {Kind: Hangup}}, true, [4]api.Errno{api.ErrBusy, api.ErrClosed, api.OK, api.ErrClosed}},
		{"at its end", []Event{{Kind: Connect}, {Kind: Bytes, Data: noCall}, {Kind: Step}}, false, [4]api.Errno{api.ErrBusy, api.ErrClosed, api.OK, api.ErrClosed}},
		{"gone again", []Event{{Kind: Connect}, {Kind: Hangup}, {Kind: Step}}, false, [4]api.Errno{api.OK, api.ErrNone, api.ErrNone, api.ErrNone}},
	}
	for _, one := range told {
		for i, kind := range kinds {
			d := made(t, 2)
			for _, e := range one.first {
				wantDo(t, d, e, api.OK)
			}
			if one.drains {
				drain(t, d)
			}
			state := d.State(0)
			if got := d.Do(Event{Kind: kind}); got != one.want[i] {
				t.Errorf("%s: Do(%d) = %d, not %d", one.name, kind, got, one.want[i])
			}
			if one.want[i] != api.OK {
				wantState(t, d, 0, state)
			}
			// Another connection is as it was.
			wantState(t, d, 1, 0)
		}
	}
}

func TestBytesMemory(t *testing.T) {
	d := made(t, 2)
	connect(t, d, 0)
	stream := asked(acquire(1, "abc"), release(1, "abc", 1))
	for from := 0; from < len(stream); from += 7 {
		room := append(bytes.Clone(stream[from:min(from+7, len(stream))]), 1, 2, 3)
		piece := room[: len(room)-3 : len(room)]
		before := bytes.Clone(room)
		came(t, d, 0, nil)
		wantDo(t, d, Event{Kind: Bytes, Data: piece}, api.OK)
		if !bytes.Equal(room, before) {
			t.Fatal("Do changed its argument")
		}
		overwrite(room)
	}
	steps(t, d, 0, 10)
	wantOut(t, d, 0, granted(1, 1), api.Reply{Granted: true, Left: 2})
	wantCells(t, d, semaphore("abc"))
}

// overwrite fills p and its spare room.
func overwrite(p []byte) {
	p = p[:cap(p)]
	for i := range p {
		p[i] = 0xee
	}
}

func TestTick(t *testing.T) {
	d := made(t, 2)
	connect(t, d, 0)
	came(t, d, 0, asked(peek(0, "a"), peek(0, "a"), peek(0, "a")))
	wantDo(t, d, Event{Kind: Tick, N: 7}, api.OK)
	wantDo(t, d, Event{Kind: Tick}, api.OK)
	steps(t, d, 0, 2)
	wantDo(t, d, Event{Kind: Tick, N: 5}, api.OK)
	steps(t, d, 0, 1)
	wantOut(t, d, 0, api.Reply{Left: 3, Now: 12})
	wantDo(t, d, Event{Kind: Tick, N: api.Max}, api.OK)
	wantDo(t, d, Event{Kind: Tick, N: api.Max}, api.OK)
	steps(t, d, 0, 3)
	wantOut(t, d, 0, api.Reply{Left: 3, Now: 12}, lastPeek(t, d))
	if d.Steps() != 6 {
		t.Error(d.Steps())
	}
}

// lastPeek: the last reply that was written; it is to show the last clock there is.
func lastPeek(t *testing.T, d *Daemon) api.Reply {
	t.Helper()
	out := d.Out(0)
	r, e := wire.ReadReply(out[len(out)-34:])
	if e != api.OK || r.E != api.OK || r.Now != api.Max {
		t.Fatal(r, e)
	}
	return r
}

// P23.1: a Step

// A request is taken and does its first access in one step, and so on.
func TestStepByStep(t *testing.T) {
	d := made(t, 2)
	connect(t, d, 62)
	stepsBy(t, d, 62, 3, false)
	wantState(t, d, 62, 1)
	came(t, d, 62, asked(allow(0, "a", 1), allow(0, "a", 1), allow(9, "", 0), acquire(1, "k"), release(1, "k", 1), release(1, "k", 1)))
	replies := []api.Reply{
		{Granted: true, Left: 2}, {Granted: true, Left: 1}, {E: api.ErrPolicy},
		granted(1, 1), {Granted: true, Left: 2}, {E: api.ErrToken},
	}
	for i, n := range []int{6, 4, 0, 7, 3, 2} {
		stepsBy(t, d, 62, max(n, 1), n > 0)
		wantOut(t, d, 62, replies[:i+1]...)
	}
	stepsBy(t, d, 62, 3, false)
	wantState(t, d, 62, 1)
	wantOut(t, d, 62, replies...)
}

func TestStepOfRefusals(t *testing.T) {
	d := made(t, 2)
	connect(t, d, 0)
	calls := []api.Call{
		allow(1, "a", 1), allow(2, "a", 1), allow(31, strings.Repeat("k", 255), api.Max),
		acquire(0, "a"), acquire(2, "a"), release(0, "a", 1), release(31, "a", api.Max), peek(2, "a"), peek(31, ""),
	}
	came(t, d, 0, asked(calls...))
	var replies []api.Reply
	for range calls {
		stepsBy(t, d, 0, 1, false)
		replies = append(replies, api.Reply{E: api.ErrPolicy})
		wantOut(t, d, 0, replies...)
	}
	wantState(t, d, 0, 1)
	if d.Steps() != 0 {
		t.Error(d.Steps())
	}
}

// The end waits for the requests ahead of it, and for the one that is under way.
func TestStepTheEnd(t *testing.T) {
	for _, end := range []struct {
		bytes []byte
		e     api.Errno
	}{{noFrame, api.ErrFrame}, {noCall, api.ErrForm}, {[]byte{0, 0, 0x10, 1, 6}, api.ErrFrame}} {
		d := made(t, 2)
		connect(t, d, 7)
		came(t, d, 7, asked(peek(1, "a"), acquire(1, "k")))
		steps(t, d, 7, 1)
		came(t, d, 7, end.bytes, asked(split))
		steps(t, d, 7, 8)
		wantState(t, d, 7, 1)
		wantOut(t, d, 7, api.Reply{Left: 2}, granted(1, 1))
		stepsBy(t, d, 7, 1, false)
		wantState(t, d, 7, 2)
		replies := []api.Reply{{Left: 2}, granted(1, 1), {E: end.e}}
		wantOut(t, d, 7, replies...)
		stepsBy(t, d, 7, 3, true)
		wantState(t, d, 7, 2)
		stepsBy(t, d, 7, 1, false)
		wantGone(t, d, 7)
		wantOut(t, d, 7, replies...)
		wantCells(t, d, semaphore("k"))
	}
}

// What waits is gone, what is under way goes on, but nothing is written for it.
func TestHangupAmidACall(t *testing.T) {
	for done := range 7 {
		d := made(t, 2)
		connect(t, d, 0)
		came(t, d, 0, asked(acquire(1, "k"), split))
		steps(t, d, 0, done)
		hangup(t, d, 0)
		if done > 0 {
			stepsBy(t, d, 0, 7-done, true)
			wantState(t, d, 0, 2)
			wantOut(t, d, 0)
			wantLedger(t, d, 0, held(1, "k", 1))
			wantCells(t, d, semaphore("k", 1))
			stepsBy(t, d, 0, 3, true)
			wantCells(t, d, semaphore("k"))
		}
		stepsBy(t, d, 0, 1, false)
		wantGone(t, d, 0)
		wantOut(t, d, 0)
	}
}

// A Release that is under way counts: its token is not given back once more.
func TestHangupAmidARelease(t *testing.T) {
	for done := range 3 {
		d := made(t, 2)
		connect(t, d, 0)
		came(t, d, 0, asked(acquire(1, "k"), release(1, "k", 1)))
		steps(t, d, 0, 7+done)
		hangup(t, d, 0)
		stepsBy(t, d, 0, 3-done, true)
		wantCells(t, d, semaphore("k"))
		if done == 0 {
			// It waited, and so was gone: the token was given back.
			wantLedger(t, d, 0, held(1, "k", 1))
		} else {
			wantLedger(t, d, 0)
		}
		stepsBy(t, d, 0, 1, false)
		wantGone(t, d, 0)
		wantOut(t, d, 0, granted(1, 1))
	}
}

// An end that stands in the line when a Hangup comes is not reached: nothing is
// written for it.
func TestHangupAheadOfTheEnd(t *testing.T) {
	d := made(t, 2)
	connect(t, d, 0)
	came(t, d, 0, noFrame)
	hangup(t, d, 0)
	stepsBy(t, d, 0, 1, false)
	wantGone(t, d, 0)
	wantOut(t, d, 0)
}

// The tokens are given back one behind the other, in the order in which they were
// acquired.
func TestGiveBackInOrder(t *testing.T) {
	d := made(t, 4)
	connect(t, d, 0)
	came(t, d, 0, asked(acquire(1, "b"), acquire(1, "a"), acquire(1, "b")))
	steps(t, d, 0, 7+7+5)
	tokens := []api.Token{held(1, "b", 1), held(1, "a", 2), held(1, "b", 3)}
	wantLedger(t, d, 0, tokens...)
	hangup(t, d, 0)
	for _, left := range [][]api.Cell{
		{semaphore("a", 2), semaphore("b", 3)}, {semaphore("a"), semaphore("b", 3)}, {semaphore("a"), semaphore("b")},
	} {
		stepsBy(t, d, 0, 3, true)
		wantState(t, d, 0, 2)
		wantLedger(t, d, 0, tokens...)
		wantCells(t, d, left...)
	}
	stepsBy(t, d, 0, 1, false)
	wantGone(t, d, 0)
}

// A token that another connection has given back is done, whatever its Release's
// reply, and only once is it given back.
func TestGiveBackWhatIsGivenBack(t *testing.T) {
	d := made(t, 4)
	connect(t, d, 0, 1)
	came(t, d, 0, asked(acquire(1, "k"), acquire(1, "k")))
	steps(t, d, 0, 7+5)
	came(t, d, 1, asked(release(1, "k", 1), acquire(1, "k")))
	steps(t, d, 1, 3+5)
	wantOut(t, d, 1, api.Reply{Granted: true, Left: 1}, granted(0, 3))
	wantLedger(t, d, 0, held(1, "k", 1), held(1, "k", 2))
	hangup(t, d, 0)
	stepsBy(t, d, 0, 2, true) // ErrToken
	wantState(t, d, 0, 2)
	wantCells(t, d, semaphore("k", 2, 3))
	stepsBy(t, d, 0, 3, true)
	wantCells(t, d, semaphore("k", 3))
	stepsBy(t, d, 0, 1, false)
	wantGone(t, d, 0)
	wantOut(t, d, 0, granted(1, 1), granted(0, 2))
	hangup(t, d, 1)
	steps(t, d, 1, 4)
	wantGone(t, d, 1)
	wantCells(t, d, semaphore("k"))
}

// A connection waits for no other one, wherever that was left.
func TestStepBesideOneThatIsLeft(t *testing.T) {
	for done := range 10 {
		d := made(t, 4)
		connect(t, d, 0, 1)
		came(t, d, 0, asked(split))
		steps(t, d, 0, done)
		came(t, d, 1, asked(acquire(1, "k")))
		for n := 0; len(d.Out(1)) == 0; n++ {
			if n == 512 {
				t.Fatal("it is stuck")
			}
			steps(t, d, 1, 1)
		}
		wantOut(t, d, 1, granted(1, 1))
	}
}

// Draining: what waits is done, then the line is hung up, and what it held is given
// back.
func TestDrain(t *testing.T) {
	d := made(t, 4)
	connect(t, d, 0, 1, 2)
	came(t, d, 0, asked(acquire(1, "k"), split), []byte{0, 0, 0, 1})
	came(t, d, 1, asked(acquire(1, "k")), noCall)
	steps(t, d, 0, 2)
	drain(t, d)
	drain(t, d)
	wantDo(t, d, Event{Kind: Tick, N: 5}, api.OK)
	wantDo(t, d, Event{Kind: Bytes, Data: []byte{6}}, api.ErrClosed)
	wantDo(t, d, Event{Kind: Connect, Conn: 3}, api.ErrClosed)
	wantState(t, d, 0, 1)
	stepsBy(t, d, 0, 5, true)
	stepsBy(t, d, 0, 9, true)
	wantState(t, d, 0, 1)
	stepsBy(t, d, 0, 1, false)
	wantState(t, d, 0, 2)
	wantOut(t, d, 0, granted(1, 1), api.Reply{})
	stepsBy(t, d, 0, 3, true)
	stepsBy(t, d, 0, 1, false)
	wantGone(t, d, 0)
	wantDo(t, d, Event{Kind: Connect}, api.ErrClosed)
	for d.State(1) == 1 {
		steps(t, d, 1, 1)
	}
	wantOut(t, d, 1, granted(1, 2), api.Reply{E: api.ErrForm})
	steps(t, d, 1, 4)
	wantGone(t, d, 1)
	if d.Quiet() {
		t.Error("a line is open, and all is quiet")
	}
	stepsBy(t, d, 2, 1, false)
	wantState(t, d, 2, 2)
	stepsBy(t, d, 2, 1, false)
	wantGone(t, d, 2)
	wantOut(t, d, 2)
	if !d.Quiet() {
		t.Error("all are gone, and nothing is quiet")
	}
	wantCells(t, d, semaphore("k"))
}

func TestHangupWhileDraining(t *testing.T) {
	d := made(t, 4)
	connect(t, d, 0)
	came(t, d, 0, asked(split))
	drain(t, d)
	hangup(t, d, 0)
	wantDo(t, d, Event{Kind: Hangup}, api.ErrClosed)
	stepsBy(t, d, 0, 1, false)
	wantGone(t, d, 0)
	wantOut(t, d, 0)
}

// P23.2

// What was written stays till the next Connect; each has its own.
func TestOutTillTheNextConnect(t *testing.T) {
	d := made(t, 4)
	connect(t, d, 0, 1)
	came(t, d, 0, asked(peek(1, "a"), acquire(1, "k")))
	came(t, d, 1, asked(peek(9, "a")))
	steps(t, d, 0, 2)
	steps(t, d, 1, 1)
	wantOut(t, d, 0, api.Reply{Left: 2})
	wantOut(t, d, 1, api.Reply{E: api.ErrPolicy})
	hangup(t, d, 0)
	steps(t, d, 0, 1)
	wantGone(t, d, 0)
	wantOut(t, d, 0, api.Reply{Left: 2})
	connect(t, d, 0)
	wantLedger(t, d, 0)
	wantOut(t, d, 1, api.Reply{E: api.ErrPolicy})
	// Of the bytes that came to the first one nothing is left.
	stepsBy(t, d, 0, 3, false)
	came(t, d, 0, asked(peek(1, "b")))
	steps(t, d, 0, 2)
	wantOut(t, d, 0, api.Reply{Left: 2})
}

// A line that has given back once does so again, when it was opened anew.
func TestGiveBackAgain(t *testing.T) {
	d := made(t, 4)
	for serial := range int64(3) {
		connect(t, d, 5)
		came(t, d, 5, asked(acquire(1, "k"), acquire(1, "k")))
		for len(d.Out(5)) < 2*38 {
			steps(t, d, 5, 1)
		}
		wantOut(t, d, 5, granted(1, 2*serial+1), granted(0, 2*serial+2))
		wantLedger(t, d, 5, held(1, "k", 2*serial+1), held(1, "k", 2*serial+2))
		hangup(t, d, 5)
		stepsBy(t, d, 5, 6, true)
		stepsBy(t, d, 5, 1, false)
		wantGone(t, d, 5)
		wantCells(t, d, semaphore("k"))
	}
}

func TestLooksOfNone(t *testing.T) {
	d := made(t, 2)
	connect(t, d, 0, 62)
	came(t, d, 0, asked(acquire(1, "k")))
	steps(t, d, 0, 7)
	for _, conn := range wrongNumbers() {
		if d.Out(conn) != nil || d.State(conn) != 0 || d.Ledger(conn) != nil {
			t.Errorf("of %d something is told", conn)
		}
	}
	var none *Daemon
	for _, conn := range append(wrongNumbers(), 0, 1, 62) {
		if none.Out(conn) != nil || none.State(conn) != 0 || none.Ledger(conn) != nil {
			t.Errorf("of %d of none something is told", conn)
		}
	}
	if none.Cells() != nil || none.Steps() != 0 || !none.Quiet() {
		t.Error("of none something is told")
	}
}

func TestQuiet(t *testing.T) {
	for _, conn := range []int{0, 1, 31, 61, 62} {
		d := made(t, 2)
		connect(t, d, conn)
		if d.Quiet() {
			t.Errorf("%d is open, and all is quiet", conn)
		}
		hangup(t, d, conn)
		if d.Quiet() {
			t.Errorf("%d is hung up, and all is quiet", conn)
		}
		steps(t, d, conn, 1)
		if !d.Quiet() {
			t.Errorf("%d is gone, and nothing is quiet", conn)
		}
	}
}

func TestAnswersMemory(t *testing.T) {
	d := made(t, 4)
	connect(t, d, 0)
	came(t, d, 0, asked(acquire(1, "abc"), acquire(1, "abc")))
	steps(t, d, 0, 7+5)
	for range 2 {
		overwrite(d.Out(0))
		for _, one := range d.Ledger(0) {
			overwrite(one.Key)
		}
		for _, one := range d.Cells() {
			overwrite(one.Key)
			clear(one.Held[:cap(one.Held)])
		}
		wantOut(t, d, 0, granted(1, 1), granted(0, 2))
		wantLedger(t, d, 0, held(1, "abc", 1), held(1, "abc", 2))
		wantCells(t, d, semaphore("abc", 1, 2))
	}
	out := d.Out(0)
	before := bytes.Clone(out[:cap(out)])
	came(t, d, 0, asked(peek(1, "abc")))
	steps(t, d, 0, 2)
	if !bytes.Equal(out[:cap(out)], before) {
		t.Error("an earlier answer was written over")
	}
	hangup(t, d, 0)
	steps(t, d, 0, 1)
	for _, one := range d.Ledger(0) {
		overwrite(one.Key)
	}
	steps(t, d, 0, 6)
	wantGone(t, d, 0)
	wantCells(t, d, semaphore("abc"))
}

// All connections at one time, each with the worker of its number.
func TestAllConnections(t *testing.T) {
	d, _ := New([]api.Policy{{Kind: api.KindSema, Permits: 64}}, 64)
	for conn := range api.MaxConns {
		connect(t, d, conn)
		came(t, d, conn, asked(acquire(0, "k")))
	}
	for d.Steps() < 1<<20 {
		written := 0
		for conn := range api.MaxConns {
			steps(t, d, conn, 1)
			written += len(d.Out(conn))
		}
		if written == api.MaxConns*38 {
			break
		}
	}
	if cells := d.Cells(); len(cells) != 1 || len(cells[0].Held) != api.MaxConns {
		t.Fatal(cells)
	}
	drain(t, d)
	for n := 0; !d.Quiet(); n++ {
		if n == 1<<20 {
			t.Fatal("they are stuck")
		}
		for conn := range api.MaxConns {
			if d.State(conn) != 0 {
				steps(t, d, conn, 1)
			}
		}
	}
	if cells := d.Cells(); len(cells) != 1 || len(cells[0].Held) != 0 {
		t.Fatal(cells)
	}
}
