package conn

import (
	"bytes"
	"encoding/binary"
	"encoding/hex"
	"math"
	"runtime"
	"slices"
	"strings"
	"testing"

	"spigot/api"
	"spigot/wire"
)

func unhex(t *testing.T, text string) []byte {
	t.Helper()
	p, err := hex.DecodeString(strings.ReplaceAll(text, " ", ""))
	if err != nil {
		t.Fatal(err)
	}
	return p
}

// framed: a frame of layer 20's form, whatever length its payload has.
func framed(payload []byte) []byte {
	return append(binary.BigEndian.AppendUint32(nil, uint32(len(payload))), payload...)
}

// asked: the frames of the requests of these calls, one behind the other.
func asked(calls ...api.Call) []byte {
	var stream []byte
	for _, c := range calls {
		p, e := wire.Request(c)
		if e != api.OK {
			panic("no request")
		}
		stream = append(stream, framed(p)...)
	}
	return stream
}

// answered: the frames of these replies, by the words of layers 20 and 21.
func answered(replies ...api.Reply) []byte {
	var stream []byte
	for _, r := range replies {
		p := []byte{byte(r.E), 0}
		if r.Granted {
			p[1] = 1
		}
		for _, n := range []int64{r.Left, r.Wait, r.Serial, r.Now} {
			p = binary.BigEndian.AppendUint64(p, uint64(n))
		}
		stream = append(stream, framed(p)...)
	}
	return stream
}

func allow(policy int, key string, n int64) api.Call {
	return api.Call{Op: api.OpAllow, Policy: policy, Key: []byte(key), N: n}
}

func acquire(policy int, key string) api.Call {
	return api.Call{Op: api.OpAcquire, Policy: policy, Key: []byte(key)}
}

func release(policy int, key string, n int64) api.Call {
	return api.Call{Op: api.OpRelease, Policy: policy, Key: []byte(key), N: n}
}

func peek(policy int, key string) api.Call {
	return api.Call{Op: api.OpPeek, Policy: policy, Key: []byte(key)}
}

func held(policy int, key string, serial int64) api.Token {
	return api.Token{Policy: policy, Key: []byte(key), Serial: serial}
}

var (
	evict   = api.Call{Op: api.OpEvict}
	split   = api.Call{Op: api.OpSplit}
	noFrame = []byte{0, 0, 0, 0}
	noCall  = framed([]byte{9})
)

// granted: the reply of an Acquire that has got this serial.
func granted(serial int64) api.Reply { return api.Reply{Granted: true, Serial: serial} }

// opened: a connection to which these bytes have come.
func opened(t *testing.T, stream ...[]byte) *Conn {
	t.Helper()
	c := New()
	wantFeed(t, c, slices.Concat(stream...), api.OK)
	return c
}

func sameCall(a, b api.Call) bool {
	return a.Op == b.Op && a.Policy == b.Policy && bytes.Equal(a.Key, b.Key) && a.N == b.N
}

func sameToken(a, b api.Token) bool {
	return a.Policy == b.Policy && bytes.Equal(a.Key, b.Key) && a.Serial == b.Serial
}

func wantFeed(t *testing.T, c *Conn, p []byte, fault api.Errno) {
	if e := c.Feed(p); e != fault {
		t.Helper()
		t.Fatalf("Feed(% x) = %d, not %d", p, e, fault)
	}
}

func wantNext(t *testing.T, c *Conn, want api.Call) {
	if got, e := c.Next(); e != api.OK || !sameCall(got, want) {
		t.Helper()
		t.Fatalf("Next() = %v, %d, not %v", got, e, want)
	}
}

func noNext(t *testing.T, c *Conn, fault api.Errno) {
	if got, e := c.Next(); e != fault || got.Key != nil || !sameCall(got, api.Call{}) {
		t.Helper()
		t.Fatalf("Next() = %v, %d, not %d", got, e, fault)
	}
}

func wantReply(t *testing.T, c *Conn, r api.Reply, fault api.Errno) {
	if e := c.Reply(r); e != fault {
		t.Helper()
		t.Fatalf("Reply(%v) = %d, not %d", r, e, fault)
	}
}

func wantTake(t *testing.T, c *Conn, want []byte) {
	if got := c.Take(); !bytes.Equal(got, want) {
		t.Helper()
		t.Fatalf("Take() = % x, not % x", got, want)
	}
}

func wantLedger(t *testing.T, c *Conn, want ...api.Token) {
	if got := c.Ledger(); !slices.EqualFunc(got, want, sameToken) {
		t.Helper()
		t.Fatalf("Ledger() = %v, not %v", got, want)
	}
}

func wantHangup(t *testing.T, c *Conn, want ...api.Token) {
	if got := c.Hangup(); !slices.EqualFunc(got, want, sameToken) {
		t.Helper()
		t.Fatalf("Hangup() = %v, not %v", got, want)
	}
	wantLedger(t, c, want...)
}

// wantState: how many wait, and is it open?
func wantState(t *testing.T, c *Conn, waiting int, open bool) {
	if got, is := c.Waiting(), c.Open(); got != waiting || is != open {
		t.Helper()
		t.Fatalf("Waiting() = %d, Open() = %v, not %d, %v", got, is, waiting, open)
	}
}

// does: the next request is that of the call, and this is its reply.
func does(t *testing.T, c *Conn, call api.Call, r api.Reply) {
	t.Helper()
	wantFeed(t, c, asked(call), api.OK)
	wantNext(t, c, call)
	wantReply(t, c, r, api.OK)
}

// wantClosed: whatever comes, nothing more is told, and nothing is written.
func wantClosed(t *testing.T, c *Conn) {
	t.Helper()
	c.Take()
	for range 2 {
		for _, p := range [][]byte{nil, {0}, noFrame, noCall, asked(split)} {
			wantFeed(t, c, p, api.ErrClosed)
		}
		noNext(t, c, api.ErrClosed)
		wantReply(t, c, api.Reply{}, api.ErrNone)
		wantState(t, c, 0, false)
		wantTake(t, c, nil)
	}
}

// The chapter's examples

func TestExampleOfALedger(t *testing.T) {
	c := opened(t, asked(acquire(1, "k")))
	wantState(t, c, 1, true)
	wantNext(t, c, acquire(1, "k"))
	noNext(t, c, api.ErrBusy)
	wantReply(t, c, api.Reply{Granted: true, Left: 1, Serial: 5}, api.OK)
	wantTake(t, c, unhex(t, "00000022 00 01 0000000000000001 0000000000000000 0000000000000005 0000000000000000"))
	wantLedger(t, c, held(1, "k", 5))
	does(t, c, release(1, "k", 5), api.Reply{Granted: true, Left: 2})
	wantLedger(t, c)
	wantTake(t, c, unhex(t, "00000022 00 01 0000000000000002 0000000000000000 0000000000000000 0000000000000000"))
	wantState(t, c, 0, true)
}

func TestExampleOfABrokenFrame(t *testing.T) {
	c := opened(t, noFrame)
	wantState(t, c, 0, true)
	wantFeed(t, c, nil, api.ErrClosed)
	wantFeed(t, c, asked(split), api.ErrClosed)
	wantTake(t, c, nil)
	noNext(t, c, api.ErrClosed)
	wantTake(t, c, append(unhex(t, "00000022 0c"), make([]byte, 33)...))
	noNext(t, c, api.ErrClosed)
	wantState(t, c, 0, false)
	wantClosed(t, c)
}

func TestExampleOfABrokenRequest(t *testing.T) {
	c := opened(t, asked(split), noCall)
	wantNext(t, c, split)
	wantReply(t, c, api.Reply{}, api.OK)
	noNext(t, c, api.ErrClosed)
	wantTake(t, c, slices.Concat(unhex(t, "00000022"), make([]byte, 34), unhex(t, "00000022 03"), make([]byte, 33)))
	wantClosed(t, c)
}

// P22.1

func TestFeedInPieces(t *testing.T) {
	c := New()
	stream := asked(acquire(1, "k"), split, allow(0, "a", 3))
	first, second := len(asked(acquire(1, "k"))), len(asked(acquire(1, "k"), split))
	for i := range stream {
		whole := 0
		for _, end := range []int{first, second} {
			if i >= end {
				whole++
			}
		}
		wantState(t, c, whole, true)
		wantFeed(t, c, nil, api.OK)
		wantFeed(t, c, stream[i:i+1], api.OK)
	}
	wantState(t, c, 3, true)
	for waiting, call := range []api.Call{acquire(1, "k"), split, allow(0, "a", 3)} {
		wantNext(t, c, call)
		wantState(t, c, 2-waiting, true)
		wantReply(t, c, api.Reply{}, api.OK)
	}
	noNext(t, c, api.ErrNone)
}

func TestFeedNothing(t *testing.T) {
	c := New()
	for range 3 {
		wantFeed(t, c, nil, api.OK)
		wantFeed(t, c, []byte{}, api.OK)
		wantFeed(t, c, []byte{0}, api.OK)
		noNext(t, c, api.ErrNone)
		wantState(t, c, 0, true)
	}
	wantTake(t, c, nil)
}

// The end stands behind what came ahead of it, and nothing behind it counts.
func TestFeedTheEnd(t *testing.T) {
	ends := []struct {
		bytes []byte
		e     api.Errno
	}{
		{noFrame, api.ErrFrame}, {[]byte{0, 0, 0x10, 1}, api.ErrFrame}, {[]byte{0xff, 0xff, 0xff, 0xff}, api.ErrFrame},
		{noCall, api.ErrForm}, {framed([]byte{0}), api.ErrForm}, {framed(make([]byte, 4096)), api.ErrForm},
		{framed([]byte{6, 0}), api.ErrForm}, {framed([]byte{2, 32, 0}), api.ErrForm}, {framed([]byte{3}), api.ErrForm},
	}
	for _, end := range ends {
		for _, behind := range [][]byte{nil, noFrame, noCall, asked(split), {0, 0}} {
			for calls := range 3 {
				ahead := slices.Repeat([]api.Call{peek(0, "a")}, calls)
				c := opened(t, asked(ahead...), end.bytes, behind)
				wantFeed(t, c, nil, api.ErrClosed)
				wantFeed(t, c, asked(split), api.ErrClosed)
				wantState(t, c, calls, true)
				for range calls {
					wantNext(t, c, peek(0, "a"))
					noNext(t, c, api.ErrBusy)
					wantFeed(t, c, nil, api.ErrClosed)
					wantReply(t, c, api.Reply{Left: 2}, api.OK)
					wantTake(t, c, answered(api.Reply{Left: 2}))
				}
				wantState(t, c, 0, true)
				noNext(t, c, api.ErrClosed)
				wantTake(t, c, answered(api.Reply{E: end.e}))
				wantClosed(t, c)
			}
		}
	}
}

// A wrong length is the end as soon as its four bytes are there, and a request that
// is none as soon as it is whole.
func TestFeedTheEndInPieces(t *testing.T) {
	for _, end := range [][]byte{noFrame, {0, 0, 0x20, 0}, noCall, framed([]byte{1, 0, 0, 1})} {
		c := opened(t, asked(split))
		for i := range end {
			wantFeed(t, c, end[i:i+1], api.OK)
		}
		wantFeed(t, c, nil, api.ErrClosed)
		wantState(t, c, 1, true)
	}
}

func TestFeedBehindHangup(t *testing.T) {
	for _, came := range [][]byte{nil, {0, 0}, asked(split), noFrame, noCall} {
		c := opened(t, came)
		c.Hangup()
		wantClosed(t, c)
	}
}

// overwrite fills p and its spare room.
func overwrite(p []byte) {
	p = p[:cap(p)]
	for i := range p {
		p[i] = 0xee
	}
}

func TestFeedMemory(t *testing.T) {
	stream := asked(acquire(1, "abc"), allow(0, "defg", 5), release(1, "h", 6))
	for size := 1; size <= len(stream); size++ {
		c := New()
		for from := 0; from < len(stream); from += size {
			room := append(bytes.Clone(stream[from:min(from+size, len(stream))]), make([]byte, 100)...)
			piece := room[:min(size, len(stream)-from)]
			before := bytes.Clone(room)
			wantFeed(t, c, piece, api.OK)
			if !bytes.Equal(room, before) {
				t.Fatal("Feed changed its argument")
			}
			overwrite(piece)
		}
		for _, call := range []api.Call{acquire(1, "abc"), allow(0, "defg", 5), release(1, "h", 6)} {
			wantNext(t, c, call)
			wantReply(t, c, api.Reply{}, api.OK)
		}
	}
}

// P22.2

func TestNextOfAllCalls(t *testing.T) {
	long := strings.Repeat("k", 255)
	calls := []api.Call{
		allow(0, "", 0), allow(31, long, api.Max), acquire(0, ""), acquire(31, long), peek(0, ""), peek(31, long),
		release(0, "", 1), release(31, long, api.Max), evict, split, acquire(1, "k"), acquire(1, "k"),
	}
	c := opened(t, asked(calls...))
	for i, call := range calls {
		wantState(t, c, len(calls)-i, true)
		wantNext(t, c, call)
		wantState(t, c, len(calls)-i-1, true)
		noNext(t, c, api.ErrBusy)
		wantReply(t, c, api.Reply{E: api.ErrBusy}, api.OK)
	}
	noNext(t, c, api.ErrNone)
}

func TestNextErrors(t *testing.T) {
	c := New()
	noNext(t, c, api.ErrNone)
	wantFeed(t, c, []byte{0, 0, 0, 1}, api.OK)
	noNext(t, c, api.ErrNone)
	wantFeed(t, c, []byte{6}, api.OK)
	wantNext(t, c, split)
	// One is out: so it stays, whatever comes, and also where it is closed.
	noNext(t, c, api.ErrBusy)
	wantFeed(t, c, asked(evict), api.OK)
	noNext(t, c, api.ErrBusy)
	wantFeed(t, c, noFrame, api.OK)
	noNext(t, c, api.ErrBusy)
	wantTake(t, c, nil)
	c.Hangup()
	noNext(t, c, api.ErrBusy)
	wantReply(t, c, api.Reply{}, api.OK)
	wantClosed(t, c)
}

// The end waits till the one that is out has its reply.
func TestNextEndBehindOneThatIsOut(t *testing.T) {
	c := opened(t, asked(split))
	wantNext(t, c, split)
	wantFeed(t, c, noCall, api.OK)
	noNext(t, c, api.ErrBusy)
	wantState(t, c, 0, true)
	wantTake(t, c, nil)
	wantReply(t, c, api.Reply{}, api.OK)
	wantState(t, c, 0, true)
	noNext(t, c, api.ErrClosed)
	wantTake(t, c, answered(api.Reply{}, api.Reply{E: api.ErrForm}))
	wantClosed(t, c)
}

// What is written over the key that Next has told, the ledger does not see.
func TestNextMemory(t *testing.T) {
	c := opened(t, asked(acquire(1, "k"), acquire(1, "k")))
	for serial := range int64(2) {
		call, _ := c.Next()
		overwrite(call.Key)
		wantReply(t, c, granted(serial+1), api.OK)
		overwrite(call.Key)
	}
	wantLedger(t, c, held(1, "k", 1), held(1, "k", 2))
	wantFeed(t, c, asked(release(1, "k", 1)), api.OK)
	call, _ := c.Next()
	overwrite(call.Key)
	wantReply(t, c, api.Reply{Granted: true}, api.OK)
	wantLedger(t, c, held(1, "k", 2))
}

// P22.3

func TestReplyIsWritten(t *testing.T) {
	c := New()
	var all []byte
	replies := []api.Reply{
		{Granted: true, Left: api.Max, Wait: api.Max, Serial: api.Max, Now: api.Max},
		{Left: 1, Wait: 2, Serial: 3, Now: 4}, {},
	}
	for e := api.OK; e <= api.ErrName; e++ {
		replies = append(replies, api.Reply{E: e}, api.Reply{E: e, Granted: true, Left: 7})
	}
	for _, r := range replies {
		does(t, c, peek(0, "a"), r)
		all = append(all, answered(r)...)
	}
	wantTake(t, c, all)
	wantTake(t, c, nil)
}

func noReplies() []api.Reply {
	list := []api.Reply{{E: -1}, {E: 17}, {E: 256}, {E: math.MinInt}, {E: math.MaxInt}}
	for _, n := range []int64{-1, api.Max + 1, math.MinInt64, math.MaxInt64} {
		list = append(list, api.Reply{Left: n}, api.Reply{Wait: n}, api.Reply{Serial: n}, api.Reply{Now: n})
	}
	return list
}

func TestReplyErrors(t *testing.T) {
	for _, wrong := range noReplies() {
		c := New()
		wantReply(t, c, wrong, api.ErrArg)
		wantReply(t, c, api.Reply{}, api.ErrNone)
		wantFeed(t, c, asked(acquire(1, "k"), split), api.OK)
		wantReply(t, c, api.Reply{}, api.ErrNone)
		wantNext(t, c, acquire(1, "k"))
		wantReply(t, c, wrong, api.ErrArg)
		wantReply(t, c, wrong, api.ErrArg)
		noNext(t, c, api.ErrBusy)
		wantTake(t, c, nil)
		wantLedger(t, c)
		wantReply(t, c, granted(5), api.OK)
		wantReply(t, c, granted(5), api.ErrNone)
		wantTake(t, c, answered(granted(5)))
		wantLedger(t, c, held(1, "k", 5))

		wantNext(t, c, split)
		c.Hangup()
		wantReply(t, c, wrong, api.ErrArg)
		noNext(t, c, api.ErrBusy)
		wantReply(t, c, api.Reply{}, api.OK)
		wantReply(t, c, wrong, api.ErrArg)
		wantReply(t, c, api.Reply{}, api.ErrNone)
	}
}

// Of an Acquire's reply E is looked at alone.
func TestLedgerOfAcquires(t *testing.T) {
	for e := api.OK; e <= api.ErrName; e++ {
		for _, r := range []api.Reply{{E: e, Granted: true, Serial: 5}, {E: e, Serial: 5}, {E: e}, {E: e, Serial: api.Max, Now: 9}} {
			c := New()
			does(t, c, acquire(31, "k"), r)
			if e == api.OK {
				wantLedger(t, c, held(31, "k", r.Serial))
			} else {
				wantLedger(t, c)
			}
		}
	}
}

func TestLedgerOfReleases(t *testing.T) {
	for e := api.OK; e <= api.ErrName; e++ {
		for _, isGranted := range []bool{true, false} {
			c := New()
			does(t, c, acquire(1, "k"), granted(5))
			does(t, c, release(1, "k", 5), api.Reply{E: e, Granted: isGranted})
			if e == api.OK {
				wantLedger(t, c)
			} else {
				wantLedger(t, c, held(1, "k", 5))
			}
		}
	}
}

// The policy, the key and the serial are all the token's: whatever the serial of the
// Release's reply is.
func TestLedgerOfLikeTokens(t *testing.T) {
	all := []api.Token{
		held(1, "k", 5), held(2, "k", 5), held(1, "kk", 5), held(1, "", 5), held(1, "k", 6), held(1, "l", 5), held(0, "k", 5),
	}
	for place := range all {
		c := New()
		for _, one := range all {
			does(t, c, acquire(one.Policy, string(one.Key)), granted(one.Serial))
		}
		wantLedger(t, c, all...)
		for _, other := range []api.Call{release(3, "k", 5), release(1, "m", 5), release(1, "k", 7), release(1, "kkk", 5)} {
			does(t, c, other, granted(5))
			wantLedger(t, c, all...)
		}
		one := all[place]
		does(t, c, release(one.Policy, string(one.Key), one.Serial), granted(6))
		rest := slices.Delete(slices.Clone(all), place, place+1)
		wantLedger(t, c, rest...)
		// Once more: there is none any more.
		does(t, c, release(one.Policy, string(one.Key), one.Serial), granted(6))
		wantLedger(t, c, rest...)
		// Acquired anew, it is the last one.
		does(t, c, acquire(one.Policy, string(one.Key)), granted(one.Serial))
		wantLedger(t, c, append(rest, one)...)
	}
}

// A token stands till a Release of it: where two Acquires were told one serial, so
// do both.
func TestLedgerOfOneTokenTwice(t *testing.T) {
	c := New()
	for _, serial := range []int64{5, 6, 5} {
		does(t, c, acquire(1, "k"), granted(serial))
	}
	wantLedger(t, c, held(1, "k", 5), held(1, "k", 6), held(1, "k", 5))
	does(t, c, release(1, "k", 5), api.Reply{Granted: true})
	wantLedger(t, c, held(1, "k", 6))
}

func TestLedgerOfOtherCalls(t *testing.T) {
	c := New()
	does(t, c, acquire(1, "k"), granted(5))
	for _, call := range []api.Call{allow(1, "k", 5), peek(1, "k"), evict, split} {
		does(t, c, call, granted(5))
		wantLedger(t, c, held(1, "k", 5))
	}
}

func TestReplyBehindHangup(t *testing.T) {
	c := New()
	does(t, c, acquire(1, "k"), granted(5))
	wantTake(t, c, answered(granted(5)))
	wantFeed(t, c, asked(acquire(1, "l"), split), api.OK)
	wantNext(t, c, acquire(1, "l"))
	wantHangup(t, c, held(1, "k", 5))
	wantReply(t, c, granted(6), api.OK)
	wantTake(t, c, nil)
	wantLedger(t, c, held(1, "k", 5), held(1, "l", 6))
	wantHangup(t, c, held(1, "k", 5), held(1, "l", 6))
	wantClosed(t, c)
	wantLedger(t, c, held(1, "k", 5), held(1, "l", 6))

	c = New()
	does(t, c, acquire(1, "k"), granted(5))
	wantFeed(t, c, asked(release(1, "k", 5)), api.OK)
	wantNext(t, c, release(1, "k", 5))
	wantHangup(t, c, held(1, "k", 5))
	wantReply(t, c, api.Reply{Granted: true}, api.OK)
	wantLedger(t, c)
	wantTake(t, c, answered(granted(5)))
	wantHangup(t, c)
}

// P22.4

func TestTake(t *testing.T) {
	c := New()
	wantTake(t, c, nil)
	does(t, c, split, api.Reply{})
	first := c.Take()
	wantTake(t, c, nil)
	does(t, c, evict, api.Reply{Left: 1})
	does(t, c, evict, api.Reply{Left: 2})
	second := c.Take()
	overwrite(first)
	if !bytes.Equal(second, answered(api.Reply{Left: 1}, api.Reply{Left: 2})) {
		t.Fatalf("Take() = % x", second)
	}
	overwrite(second)
	does(t, c, evict, api.Reply{Left: 3})
	wantTake(t, c, answered(api.Reply{Left: 3}))
}

// What was to be written stays so where it is closed.
func TestTakeBehindHangup(t *testing.T) {
	c := New()
	does(t, c, split, api.Reply{Now: 1})
	c.Hangup()
	wantTake(t, c, answered(api.Reply{Now: 1}))
	wantTake(t, c, nil)

	c = opened(t, noFrame)
	noNext(t, c, api.ErrClosed)
	c.Hangup()
	wantTake(t, c, answered(api.Reply{E: api.ErrFrame}))
}

// The requests that wait are gone, and the end with them.
func TestHangup(t *testing.T) {
	for _, came := range [][]byte{nil, {0, 0}, asked(split, evict), noFrame, noCall, append(asked(split), noFrame...)} {
		c := New()
		does(t, c, acquire(1, "k"), granted(5))
		does(t, c, acquire(2, ""), granted(4))
		wantFeed(t, c, came, api.OK)
		wantTake(t, c, answered(granted(5), granted(4)))
		for range 3 {
			wantHangup(t, c, held(1, "k", 5), held(2, "", 4))
			wantState(t, c, 0, false)
			noNext(t, c, api.ErrClosed)
			wantTake(t, c, nil)
		}
		wantClosed(t, c)
	}
	wantHangup(t, New())
}

// Closed by its end, it holds what it held.
func TestHangupBehindTheEnd(t *testing.T) {
	c := New()
	does(t, c, acquire(1, "k"), granted(5))
	wantFeed(t, c, noFrame, api.OK)
	noNext(t, c, api.ErrClosed)
	wantLedger(t, c, held(1, "k", 5))
	wantHangup(t, c, held(1, "k", 5))
	wantTake(t, c, answered(granted(5), api.Reply{E: api.ErrFrame}))
	wantClosed(t, c)
}

func TestLedgerMemory(t *testing.T) {
	c := New()
	does(t, c, acquire(1, "abc"), granted(5))
	does(t, c, acquire(1, "abc"), granted(6))
	spoil := func(list []api.Token) {
		list = list[:cap(list)]
		for i := range list {
			overwrite(list[i].Key)
			list[i] = held(9, "x", 9)
		}
	}
	spoil(c.Ledger())
	kept := c.Ledger()
	spoil(c.Hangup())
	spoil(c.Hangup())
	overwrite(kept[0].Key)
	if !sameToken(kept[1], held(1, "abc", 6)) {
		t.Fatalf("two keys of one ledger share their memory: %v", kept)
	}
	wantLedger(t, c, held(1, "abc", 5), held(1, "abc", 6))

	c = New()
	does(t, c, acquire(1, "a"), granted(5))
	does(t, c, acquire(1, "b"), granted(6))
	kept = c.Ledger()
	does(t, c, release(1, "a", 5), api.Reply{Granted: true})
	if !sameToken(kept[0], held(1, "a", 5)) || !sameToken(kept[1], held(1, "b", 6)) {
		t.Fatalf("a ledger changed behind the call: %v", kept)
	}
}

func TestNil(t *testing.T) {
	var c *Conn
	for _, p := range [][]byte{nil, noFrame, noCall, asked(split)} {
		wantFeed(t, c, p, api.ErrNone)
	}
	noNext(t, c, api.ErrNone)
	wantReply(t, c, api.Reply{}, api.ErrNone)
	for _, wrong := range noReplies() {
		wantReply(t, c, wrong, api.ErrArg)
	}
	wantTake(t, c, nil)
	wantHangup(t, c)
	wantLedger(t, c)
	wantState(t, c, 0, false)
}

func TestConnsApart(t *testing.T) {
	a, b := New(), New()
	does(t, a, acquire(1, "k"), granted(5))
	wantFeed(t, b, noFrame, api.OK)
	noNext(t, b, api.ErrClosed)
	wantLedger(t, b)
	wantState(t, a, 0, true)
	wantTake(t, a, answered(granted(5)))
	wantFeed(t, a, asked(split), api.OK)
	wantNext(t, a, split)
	wantTake(t, b, answered(api.Reply{E: api.ErrFrame}))
}

// Where a great many requests came, were done and were taken, little is kept.
func TestKeepsLittle(t *testing.T) {
	stream := asked(slices.Repeat([]api.Call{peek(0, strings.Repeat("k", 200))}, 4000)...)
	conns := make([]*Conn, 20)
	before := heap()
	for i := range conns {
		conns[i] = opened(t, stream)
		for conns[i].Waiting() > 0 {
			conns[i].Next()
			wantReply(t, conns[i], api.Reply{}, api.OK)
		}
		if got := len(conns[i].Take()); got != 4000*38 {
			t.Fatalf("Take() has %d bytes", got)
		}
	}
	if kept := heap() - before; kept > 1<<20 {
		t.Errorf("%d connections at rest keep %d bytes", len(conns), kept)
	}
	for _, c := range conns {
		noNext(t, c, api.ErrNone)
	}
}

// heap: the bytes that somebody still reaches.
func heap() int64 {
	var now runtime.MemStats
	runtime.GC()
	runtime.ReadMemStats(&now)
	return int64(now.HeapAlloc)
}
