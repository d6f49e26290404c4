package book

import (
	"cmp"
	"maps"
	"math/rand"
	"slices"
	"testing"

	"spigot/api"
	"spigot/gcra"
	"spigot/rate"
)

// identity is a key under a policy.
type identity struct {
	policy int
	key    string
}

// model is a book that does what the chapter says in the plainest way.
type model struct {
	list []api.Policy
	room int
	tat  map[identity]int64
	held map[identity][]int64
}

func newModel(list []api.Policy, room int) *model {
	return &model{list: list, room: room, tat: map[identity]int64{}, held: map[identity][]int64{}}
}

func (m *model) full() bool { return len(m.tat)+len(m.held) == m.room }

func (m *model) do(c api.Call, now, serial int64) api.Reply {
	if now < 0 || now > api.Max || c.Op == api.OpAcquire && (serial < 1 || serial > api.Max) {
		return fault(api.ErrArg)
	}
	if e := Check(m.list, c); e != api.OK {
		return fault(e)
	}
	id := identity{c.Policy, string(c.Key)}
	switch c.Op {
	case api.OpAllow:
		return m.allow(id, now, c.N)
	case api.OpAcquire:
		return m.acquire(id, serial)
	case api.OpRelease:
		place := slices.Index(m.held[id], c.N)
		if place < 0 {
			return fault(api.ErrToken)
		}
		m.held[id] = slices.Delete(m.held[id], place, place+1)
		return api.Reply{Granted: true, Left: m.free(id)}
	case api.OpPeek:
		if m.list[c.Policy].Kind == api.KindSema {
			return api.Reply{Left: m.free(id)}
		}
		left, _ := gcra.Left(m.list[c.Policy].Limit, m.tat[id], now)
		return api.Reply{Left: left, Wait: max(m.tat[id]-now, 0), Now: now}
	case api.OpEvict:
		return m.evict(now)
	}
	return api.Reply{}
}

func (m *model) free(id identity) int64 {
	return int64(m.list[id.policy].Permits - len(m.held[id]))
}

func (m *model) allow(id identity, now, n int64) api.Reply {
	tat, known := m.tat[id]
	a, _ := gcra.Decide(m.list[id.policy].Limit, tat, now, n)
	if a.Granted && n > 0 {
		if !known && m.full() {
			return fault(api.ErrFull)
		}
		m.tat[id] = a.TAT
	}
	return api.Reply{Granted: a.Granted, Left: a.Left, Wait: a.Wait, Now: now}
}

func (m *model) acquire(id identity, serial int64) api.Reply {
	held, known := m.held[id]
	switch {
	case slices.Contains(held, serial):
		return fault(api.ErrExists)
	case m.free(id) == 0:
		return fault(api.ErrBusy)
	case !known && m.full():
		return fault(api.ErrFull)
	}
	m.held[id] = append(held, serial)
	return api.Reply{Granted: true, Left: m.free(id), Serial: serial}
}

func (m *model) evict(now int64) api.Reply {
	n := int64(0)
	for id, tat := range m.tat {
		if tat <= now {
			delete(m.tat, id)
			n++
		}
	}
	for id, held := range m.held {
		if len(held) == 0 {
			delete(m.held, id)
			n++
		}
	}
	return api.Reply{Left: n, Now: now}
}

func (m *model) cells() []api.Cell {
	var list []api.Cell
	for id, tat := range m.tat {
		list = append(list, at(id.policy, id.key, tat))
	}
	for id, held := range m.held {
		list = append(list, at(id.policy, id.key, 0, slices.Sorted(slices.Values(held))...))
	}
	slices.SortFunc(list, func(a, b api.Cell) int {
		return cmp.Or(cmp.Compare(a.Policy, b.Policy), cmp.Compare(string(a.Key), string(b.Key)))
	})
	return list
}

// big is a table of limits and permits of many sizes.
func big() []api.Policy {
	return []api.Policy{aRate(10, 20), aSema(2), aRate(1, 0), aSema(1), aRate(7, 100), aSema(64), aRate(api.Max/3, api.Max), aRate(1, api.Max)}
}

// player makes calls by chance. Its clock goes on, if it isn't told otherwise.
type player struct {
	*rand.Rand
	list []api.Policy
	now  int64
}

func (p *player) key() string {
	return []string{"", "a", "b", "k", "\x00"}[p.Intn(5)]
}

func (p *player) call() api.Call {
	costs := []int64{0, 1, 1, 1, 2, 3, 5, 100, api.Max}
	return api.Call{
		Op:     byte(1 + p.Intn(6)),
		Policy: p.Intn(len(p.list)),
		Key:    []byte(p.key()),
		N:      costs[p.Intn(len(costs))],
	}
}

// fit turns the call into one that Check lets through.
func (p *player) fit(c api.Call) api.Call {
	switch {
	case c.Op == api.OpAllow && p.list[c.Policy].Kind == api.KindSema:
		c.Op = api.OpAcquire
	case (c.Op == api.OpAcquire || c.Op == api.OpRelease) && p.list[c.Policy].Kind == api.KindRate:
		c.Op = api.OpAllow
	}
	if c.Op == api.OpRelease {
		c.N = p.serial()
	}
	return c
}

func (p *player) serial() int64 { return int64(p.Intn(6)) }

func (p *player) tick() {
	steps := []int64{0, 0, 0, 1, 3, 10, 30, 200}
	p.now = min(p.now+steps[p.Intn(len(steps))], api.Max)
}

// P16.2

func TestByChance(t *testing.T) {
	rnd := rand.New(rand.NewSource(160))
	for round := range 300 {
		room := 1 + rnd.Intn(12)
		b, m := made(t, big(), room), newModel(big(), room)
		p := &player{Rand: rnd, list: big(), now: []int64{0, 100, api.Max - 200, api.Max}[rnd.Intn(4)]}
		for range 300 {
			c := p.call()
			if rnd.Intn(10) > 0 {
				c = p.fit(c)
			}
			switch rnd.Intn(40) {
			case 0:
				c.Op = byte(rnd.Intn(256))
			case 1:
				c.Policy = rnd.Intn(40) - 4
			case 2:
				c.Key = make([]byte, 250+rnd.Intn(10))
			case 3:
				c.N = noTicks[rnd.Intn(len(noTicks))]
			}
			now := p.now
			switch rnd.Intn(30) {
			case 0:
				now = noTicks[rnd.Intn(len(noTicks))]
			case 1:
				now = max(0, now-int64(rnd.Intn(300)))
			}
			serial := p.serial()
			wantDo(t, b, c, now, serial, m.do(c, now, serial))
			wantCells(t, b, m.cells()...)
			if t.Failed() {
				t.Fatal("round", round)
			}
			p.tick()
		}
	}
}

// P16.3

// Evict changes no other call's answer then or later.
func TestEvictIsNotSeen(t *testing.T) {
	rnd := rand.New(rand.NewSource(161))
	forgotten := int64(0)
	for range 300 {
		plain, evicting := made(t, big(), api.MaxCells), made(t, big(), api.MaxCells)
		p := &player{Rand: rnd, list: big()}
		for range 300 {
			if rnd.Intn(4) == 0 {
				forgotten += evicting.Do(evict, p.now, 0).Left
			}
			c, serial := p.fit(p.call()), p.serial()
			if c.Op == api.OpEvict {
				continue
			}
			wantDo(t, evicting, c, p.now, serial, plain.Do(c, p.now, serial))
			p.tick()
		}
		// What an Evict leaves is the same.
		plain.Do(evict, p.now, 0)
		evicting.Do(evict, p.now, 0)
		wantCells(t, evicting, plain.Cells()...)
		if t.Failed() {
			break
		}
	}
	if forgotten < 1000 {
		t.Error("no more were forgotten than", forgotten)
	}
}

// Calls on unlike identities don't touch one another.
func TestIdentitiesAreApart(t *testing.T) {
	rnd := rand.New(rand.NewSource(162))
	for range 200 {
		b, alone := made(t, big(), api.MaxCells), map[identity]*Book{}
		p := &player{Rand: rnd, list: big()}
		for range 300 {
			c, serial := p.fit(p.call()), p.serial()
			if c.Op >= api.OpEvict {
				continue
			}
			id := identity{c.Policy, string(c.Key)}
			if alone[id] == nil {
				alone[id] = made(t, big(), 1)
			}
			wantDo(t, b, c, p.now, serial, alone[id].Do(c, p.now, serial))
			p.tick()
		}
		n := 0
		for _, one := range alone {
			n += one.Len()
		}
		if b.Len() != n {
			t.Error(b.Len(), n)
		}
	}
}

// No more than it has permits are ever held, and no more than its limit allows is
// granted in any span of the clock.
func TestNeverMore(t *testing.T) {
	rnd := rand.New(rand.NewSource(163))
	list := []api.Policy{aRate(10, 20), aSema(2), aRate(3, 0), aSema(1), aRate(7, 100), aSema(5)}
	type grant struct{ now, n int64 }
	for range 100 {
		b := made(t, list, 9)
		p := &player{Rand: rnd, list: list}
		grants, held := map[identity][]grant{}, map[identity]map[int64]bool{}
		for range 300 {
			c, serial := p.fit(p.call()), p.serial()
			r := b.Do(c, p.now, serial)
			id := identity{c.Policy, string(c.Key)}
			if held[id] == nil {
				held[id] = map[int64]bool{}
			}
			switch {
			case c.Op == api.OpAllow && r.Granted:
				grants[id] = append(grants[id], grant{p.now, c.N})
			case c.Op == api.OpAcquire && r.Granted:
				if held[id][r.Serial] {
					t.Fatal("held twice:", id, r)
				}
				held[id][r.Serial] = true
			case c.Op == api.OpRelease && r.Granted:
				if !held[id][c.N] {
					t.Fatal("not held:", id, c)
				}
				delete(held[id], c.N)
			}
			if len(held[id]) > list[c.Policy].Permits && list[c.Policy].Kind == api.KindSema {
				t.Fatal("too many are held:", id, slices.Sorted(maps.Keys(held[id])))
			}
			p.tick()
		}
		for id, of := range grants {
			for i := range of {
				sum := int64(0)
				for _, g := range of[i:] {
					sum += g.n
					if most, _ := rate.Within(list[id.policy].Limit, g.now-of[i].now); sum > most {
						t.Fatal("too much is granted:", id, of[i:], sum, most)
					}
				}
			}
		}
	}
}
