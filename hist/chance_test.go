package hist

import (
	"math/rand"
	"slices"
	"testing"

	"spigot/api"
	"spigot/book"
	"spigot/core"
)

// explained is the chapter's words, told straight on: all orders are played on books.
func explained(list []api.Policy, calls []Done) bool {
	type identity struct {
		policy int
		key    string
	}
	of := map[identity][]Done{}
	for _, d := range calls {
		c, e := d.Call, d.Reply.E
		if c.Op >= api.OpEvict || e == api.ErrFull && (c.Op == api.OpAllow || c.Op == api.OpAcquire) || e == api.ErrRange && c.Op == api.OpAcquire {
			continue
		}
		id := identity{c.Policy, string(c.Key)}
		of[id] = append(of[id], d)
	}
	for _, some := range of {
		if !anyOrder(list, nil, some) {
			return false
		}
	}
	return true
}

// anyOrder: is there an order of those that are left, behind those that are done?
func anyOrder(list []api.Policy, done, left []Done) bool {
	if len(left) == 0 {
		return played(list, done)
	}
	for i, d := range left {
		others := slices.Concat(left[:i], left[i+1:])
		late := slices.ContainsFunc(others, func(o Done) bool { return o.Last < d.First })
		if !late && anyOrder(list, append(slices.Clone(done), d), others) {
			return true
		}
	}
	return false
}

// played: do the calls have the replies that they have, on a book of their own?
func played(list []api.Policy, done []Done) bool {
	b, _ := book.New(list, len(done)+1)
	for i, d := range done {
		serial := d.Reply.Serial
		if serial == 0 {
			serial = 1<<60 + int64(i)
		}
		if b.Do(d.Call, d.Reply.Now, serial) != d.Reply {
			return false
		}
	}
	return true
}

// told is a history of a book, with times that are as wide as wide at most.
func told(rnd *rand.Rand, list []api.Policy, n, wide int) []Done {
	b, _ := book.New(list, 2+rnd.Intn(3))
	now, calls := int64(0), []Done(nil)
	for at := range n {
		c := api.Call{Op: byte(1 + rnd.Intn(4)), Policy: rnd.Intn(len(list)), Key: []byte{byte('a' + rnd.Intn(2))}, N: int64(rnd.Intn(4))}
		if rnd.Intn(12) == 0 {
			c.Op = byte(5 + rnd.Intn(2))
		}
		if book.Check(list, c) != api.OK {
			continue
		}
		// A clock may be read late, too.
		now += int64(rnd.Intn(8))
		serial := int64(1 + rnd.Intn(4))
		r := b.Do(c, now, serial)
		if r.E == api.ErrExists {
			continue
		}
		d := one(10*at, c, r)
		d.First -= rnd.Intn(wide)
		d.Last += rnd.Intn(wide)
		calls = append(calls, d)
	}
	return calls
}

// spoil changes something of a history.
func spoil(rnd *rand.Rand, calls []Done) {
	if len(calls) == 0 {
		return
	}
	d, other := &calls[rnd.Intn(len(calls))], &calls[rnd.Intn(len(calls))]
	switch rnd.Intn(8) {
	case 0:
		d.Reply.Left += int64(rnd.Intn(3) - 1)
	case 1:
		d.Reply.Serial = int64(rnd.Intn(5))
	case 2:
		d.Reply.Now += int64(rnd.Intn(9) - 4)
	case 3:
		d.Call.N = int64(rnd.Intn(4))
	case 4, 5:
		d.First, other.First = other.First, d.First
		d.Last, other.Last = other.Last, d.Last
	case 6:
		d.Reply, other.Reply = other.Reply, d.Reply
	case 7:
		d.Reply = api.Reply{E: api.Errno(rnd.Intn(17))}
	}
}

// P18.1

func TestAgainstAllOrders(t *testing.T) {
	rnd := rand.New(rand.NewSource(180))
	lists := [][]api.Policy{table(), {aSema(1), aRate(3, 0)}, {aRate(5, 7)}, {aSema(2)}}
	count := map[bool]int{}
	for round := range 100000 {
		list := lists[rnd.Intn(len(lists))]
		calls := told(rnd, list, rnd.Intn(7), 1+rnd.Intn(40))
		for range rnd.Intn(3) {
			spoil(rnd, calls)
		}
		before := slices.Clone(calls)
		rnd.Shuffle(len(calls), func(i, j int) { calls[i], calls[j] = calls[j], calls[i] })
		want := explained(list, calls)
		got, e := Check(list, calls)
		if got != want || e != api.OK {
			t.Fatal("round", round, before, got, e)
		}
		count[want]++
	}
	if count[true] < 20000 || count[false] < 20000 {
		t.Error("too few of a kind:", count)
	}
}

// P18.2

func TestBooksAreHistories(t *testing.T) {
	rnd := rand.New(rand.NewSource(181))
	for round := range 20000 {
		calls := told(rnd, table(), rnd.Intn(9), 1+rnd.Intn(100))
		rnd.Shuffle(len(calls), func(i, j int) { calls[i], calls[j] = calls[j], calls[i] })
		if ok, e := Check(table(), calls); !ok || e != api.OK {
			t.Fatal("round", round, calls, ok, e)
		}
	}
}

// play plays calls on a limiter by chance, and tells those that have returned. No
// identity has more than 8.
func play(t *testing.T, rnd *rand.Rand, list []api.Policy) []Done {
	c, e := core.New(list, 1+rnd.Intn(6))
	if e != api.OK {
		t.Fatal(e)
	}
	var calls []Done
	var pending [5]*Done
	often, given := map[[2]byte]int{}, 1
	begin := func(who int) {
		call := api.Call{Op: byte(1 + rnd.Intn(6)), Policy: rnd.Intn(len(list)), Key: []byte{byte('a' + rnd.Intn(4))}, N: int64(rnd.Intn(1 + given))}
		id := [2]byte{byte(call.Policy), call.Key[0]}
		if call.Op < api.OpEvict && often[id] == api.MaxCalls || c.Start(who, call) != api.OK {
			return
		}
		if call.Op < api.OpEvict {
			often[id]++
		}
		pending[who] = &Done{Who: who, Call: call, First: c.Steps() + 1}
	}
	for range 400 {
		who := rnd.Intn(len(pending))
		if rnd.Intn(20) == 0 {
			c.Tick(int64(rnd.Intn(8)))
		}
		if pending[who] == nil {
			begin(who)
			continue
		}
		r, _ := c.Step(who)
		if !r.Done {
			continue
		}
		d := pending[who]
		d.Last, d.Reply, pending[who] = c.Steps(), r.Reply, nil
		given = max(given, int(r.Reply.Serial))
		calls = append(calls, *d)
	}
	// What is left in its midst may have done what others tell of.
	for who, d := range pending {
		for d != nil && c.Pending(who) {
			if r, _ := c.Step(who); r.Done {
				d.Last, d.Reply = c.Steps(), r.Reply
				calls = append(calls, *d)
			}
		}
	}
	return calls
}

func TestCoresAreHistories(t *testing.T) {
	rnd := rand.New(rand.NewSource(182))
	lists := [][]api.Policy{table(), {aSema(1), aRate(3, 5), aSema(3)}, {aRate(5, 7)}, {aSema(2)}}
	spoilt := 0
	for round := range 3000 {
		list := lists[rnd.Intn(len(lists))]
		calls := play(t, rnd, list)
		if ok, e := Check(list, calls); !ok || e != api.OK {
			t.Fatal("round", round, calls, ok, e)
		}
		spoil(rnd, calls)
		if ok, _ := Check(list, calls); !ok {
			spoilt++
		}
	}
	if spoilt < 500 {
		t.Error("no more than", spoilt, "of those that were spoilt have no order")
	}
}

// Eight calls at one time, the first of which can only be done behind the last one;
// of those between them any order does. For 511 identities it is found; of one more
// there is none.
func TestManyOrdersInVain(t *testing.T) {
	var calls []Done
	list := []api.Policy{aRate(10, 1000)}
	for n := range 512 {
		key := string(rune('0' + n))
		calls = append(calls, over(0, 9, allow(key, 1), granted(100, 0)))
		for range 6 {
			calls = append(calls, over(0, 9, allow(key, 0), granted(101, 10)))
		}
		calls = append(calls, over(0, 9, peek(0, key), api.Reply{Left: 101}))
	}
	wantCheck(t, list, calls, true, api.OK)
	calls[len(calls)-1].Reply.Left++
	wantCheck(t, list, calls, false, api.OK)
}

// The first that is listed must be the last that is done, and so on.
func TestOneOrderOfAll(t *testing.T) {
	var calls []Done
	for i := range int64(8) {
		calls = append(calls, over(0, 9, allow("a", i+1), granted(101-(i+1)*(i+2)/2, 0)))
	}
	slices.Reverse(calls)
	list := []api.Policy{aRate(10, 1000)}
	wantCheck(t, list, calls, true, api.OK)
	calls[3].Reply.Left++
	wantCheck(t, list, calls, false, api.OK)
}
