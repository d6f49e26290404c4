package wire

import (
	"bytes"
	"encoding/binary"
	"encoding/hex"
	"hash/fnv"
	"math"
	"math/rand"
	"strings"
	"testing"

	"spigot/api"
)

const Max = 4611686018427387903

// counted: n bytes, each of another number than those about it.
func counted(n int) []byte {
	p := make([]byte, n)
	for i := range p {
		p[i] = byte(i*7 + n)
	}
	return p
}

// roomy: p with spare room behind it, all of that filled with one byte.
func roomy(p []byte) []byte {
	room := append(bytes.Clone(p), bytes.Repeat([]byte{0x5a}, 300)...)
	return room[:len(p)]
}

// overwrite fills p and its spare room.
func overwrite(p []byte) {
	p = p[:cap(p)]
	for i := range p {
		p[i] = 0xee
	}
}

func unhex(t *testing.T, text string) []byte {
	t.Helper()
	p, err := hex.DecodeString(strings.ReplaceAll(text, " ", ""))
	if err != nil {
		t.Fatal(err)
	}
	return p
}

func same(a, b api.Call) bool {
	return a.Op == b.Op && a.Policy == b.Policy && bytes.Equal(a.Key, b.Key) && a.N == b.N
}

// tokenOf: the bytes of the chapter's token, whatever numbers stand in them.
func tokenOf(policy byte, key []byte, serial uint64) []byte {
	p := append([]byte{0x53, 0x47, policy, byte(len(key))}, key...)
	p = binary.BigEndian.AppendUint64(p, serial)
	h := fnv.New64a()
	h.Write(p)
	return binary.BigEndian.AppendUint32(p, uint32(h.Sum64()))
}

// written: the bytes of the chapter's request of a call that has one.
func written(c api.Call) []byte {
	keyed := append([]byte{c.Op, byte(c.Policy), byte(len(c.Key))}, c.Key...)
	switch c.Op {
	case 1:
		return binary.BigEndian.AppendUint64(keyed, uint64(c.N))
	case 2, 4:
		return keyed
	case 3:
		return append([]byte{3}, tokenOf(byte(c.Policy), c.Key, uint64(c.N))...)
	}
	return []byte{c.Op}
}

// read: the call of which p is the request by the chapter's words, told by
// lengths; false, if there is none.
func read(p []byte) (api.Call, bool) {
	if len(p) == 0 || p[0] < 1 || p[0] > 6 {
		return api.Call{}, false
	}
	if p[0] >= 5 {
		return api.Call{Op: p[0]}, len(p) == 1
	}
	head, rest := 1, 0
	switch p[0] {
	case 1:
		rest = 8
	case 3:
		head, rest = 3, 12
	}
	if len(p) < head+2 || len(p) != head+2+int(p[head+1])+rest || p[head] > 31 {
		return api.Call{}, false
	}
	c := api.Call{Op: p[0], Policy: int(p[head]), Key: p[head+2 : len(p)-rest]}
	n := uint64(0)
	if rest > 0 {
		n = binary.BigEndian.Uint64(p[len(p)-rest:])
		c.N = int64(n)
	}
	if n > Max || p[0] == 3 && (n == 0 || !bytes.Equal(p, written(c))) {
		return api.Call{}, false
	}
	return c, true
}

// calls are some of each kind, with keys and numbers of every length.
func calls() []api.Call {
	list := []api.Call{{Op: 5}, {Op: 6}}
	for op := byte(1); op <= 4; op++ {
		add := func(policy int, key []byte, n int64) {
			if op == 2 || op == 4 {
				n = 0
			}
			list = append(list, api.Call{Op: op, Policy: policy, Key: key, N: n})
		}
		for policy := range 32 {
			add(policy, []byte("bob"), int64(policy)+1)
		}
		for length := range 256 {
			add(7, counted(length), 0x0123456789abcdef)
		}
		for bit := range 62 {
			add(31, []byte{0}, 1<<bit)
		}
		add(0, nil, 1)
		add(31, bytes.Repeat([]byte{0xff}, 255), Max)
	}
	return append(list, api.Call{Op: 1, Key: []byte("a"), N: 0})
}

// P21.1

func wantRequest(t *testing.T, c api.Call, want []byte, fault api.Errno) {
	got, e := Request(c)
	if e != fault || !bytes.Equal(got, want) || e != api.OK && got != nil {
		t.Helper()
		t.Errorf("Request(%v) = % x, %d, not % x, %d", c, got, e, want, fault)
	}
}

func wantRead(t *testing.T, p []byte, want api.Call, fault api.Errno) {
	got, e := ReadRequest(p)
	if e != fault || !same(got, want) {
		t.Helper()
		t.Errorf("ReadRequest(% x) = %v, %d, not %v, %d", p, got, e, want, fault)
	}
}

// noRequest: p is held to be of no call.
func noRequest(t *testing.T, p []byte) {
	t.Helper()
	wantRead(t, p, api.Call{}, api.ErrForm)
}

func TestRequestExamples(t *testing.T) {
	for _, c := range []struct {
		call api.Call
		want string
	}{
		{api.Call{Op: api.OpAllow, Policy: 1, Key: []byte("a"), N: 2}, "01 01 01 61 0000000000000002"},
		{api.Call{Op: api.OpAllow, Policy: 31, N: Max}, "01 1f 00 3fffffffffffffff"},
		{api.Call{Op: api.OpAllow, Key: []byte{0, 1}}, "01 00 02 0001 0000000000000000"},
		{api.Call{Op: api.OpAcquire, Policy: 2, Key: []byte("ab")}, "02 02 02 6162"},
		{api.Call{Op: api.OpAcquire}, "02 00 00"},
		{api.Call{Op: api.OpPeek, Policy: 31, Key: []byte("k")}, "04 1f 01 6b"},
		{api.Call{Op: api.OpEvict}, "05"},
		{api.Call{Op: api.OpSplit}, "06"},
	} {
		wantRequest(t, c.call, unhex(t, c.want), api.OK)
		wantRead(t, unhex(t, c.want), c.call, api.OK)
	}
	c := api.Call{Op: api.OpRelease, N: 1}
	p, e := Request(c)
	if e != api.OK || len(p) != 17 || !bytes.Equal(p[:13], unhex(t, "03 5347 00 00 0000000000000001")) {
		t.Errorf("Request(Release, 0, none, 1) = % x, %d", p, e)
	}
	wantRead(t, p, c, api.OK)
}

// P21.3 too: there and back.
func TestRequestsOfAllCalls(t *testing.T) {
	for _, c := range calls() {
		wantRequest(t, c, written(c), api.OK)
		wantRead(t, written(c), c, api.OK)
	}
}

func TestRequestFaults(t *testing.T) {
	long, fine := counted(256), counted(255)
	for op := byte(1); op <= 4; op++ {
		for _, policy := range []int{-1, 32, 256, 257, math.MinInt, math.MaxInt} {
			wantRequest(t, api.Call{Op: op, Policy: policy, Key: []byte("a"), N: 1}, nil, api.ErrArg)
			wantRequest(t, api.Call{Op: op, Policy: policy, Key: long, N: 1}, nil, api.ErrArg)
		}
		for _, key := range [][]byte{long, counted(257), counted(512), counted(5000)} {
			wantRequest(t, api.Call{Op: op, Policy: 31, Key: key, N: 1}, nil, api.ErrLong)
		}
		c := api.Call{Op: op, Policy: 31, Key: fine, N: Max}
		wantRequest(t, c, written(c), api.OK)
	}
	for _, n := range []int64{-1, math.MinInt64, Max + 1, math.MaxInt64} {
		for _, key := range [][]byte{nil, fine, long} {
			wantRequest(t, api.Call{Op: 1, Key: key, N: n}, nil, api.ErrArg)
			wantRequest(t, api.Call{Op: 3, Key: key, N: n}, nil, api.ErrArg)
		}
	}
	wantRequest(t, api.Call{Op: 3, Key: fine, N: 0}, nil, api.ErrArg)
	wantRequest(t, api.Call{Op: 3, Key: long, N: 0}, nil, api.ErrArg)
	for op := range 256 {
		if op == 0 || op > 6 {
			wantRequest(t, api.Call{Op: byte(op), Key: []byte("a"), N: 1}, nil, api.ErrArg)
			wantRequest(t, api.Call{Op: byte(op), Key: long}, nil, api.ErrArg)
		}
	}
}

func TestRequestFieldsNotLookedAt(t *testing.T) {
	long := counted(300)
	for _, n := range []int64{-1, math.MinInt64, math.MaxInt64, 5} {
		for _, op := range []byte{2, 4} {
			c := api.Call{Op: op, Policy: 3, Key: []byte("a"), N: n}
			wantRequest(t, c, written(c), api.OK)
		}
		for _, op := range []byte{5, 6} {
			wantRequest(t, api.Call{Op: op, Policy: int(n), Key: long, N: n}, []byte{op}, api.OK)
			wantRequest(t, api.Call{Op: op, Policy: 32, Key: []byte("a"), N: 1}, []byte{op}, api.OK)
		}
	}
}

func TestReadRequestExamples(t *testing.T) {
	noRequest(t, nil)
	noRequest(t, []byte{})
	for _, text := range []string{
		"0600", "07", "00", "ff", "0500", "03", "0353", "01", "0100", "02", "0200", "04", "0400",
		"01 20 00 0000000000000001", // there is no policy 32
		"02 20 00", "04 ff 00",
		"01 00 00 00000000000001",     // seven bytes of a number
		"01 00 00 000000000000000001", // nine
		"01 00 00 4000000000000000",   // no tick
		"01 00 00 8000000000000001", "01 00 00 ffffffffffffffff",
		"02 00 01", "02 00 00 61", "02 00 02 61", "04 01 01 6161",
		"01 00 09 0000000000000001", // the number would be the key
	} {
		noRequest(t, unhex(t, text))
	}
}

func TestReadRequestTokens(t *testing.T) {
	of := func(policy byte, key []byte, serial uint64) []byte {
		return append([]byte{3}, tokenOf(policy, key, serial)...)
	}
	wantRead(t, of(31, []byte("k"), Max), api.Call{Op: 3, Policy: 31, Key: []byte("k"), N: Max}, api.OK)
	noRequest(t, of(32, []byte("k"), 1))
	noRequest(t, of(1, []byte("k"), 0))
	noRequest(t, of(1, []byte("k"), Max+1))
	noRequest(t, of(1, []byte("k"), 1<<63))
	noRequest(t, of(1, []byte("k"), 1)[1:])
	noRequest(t, append([]byte{2}, of(1, []byte("k"), 1)[1:]...))
}

func TestReadRequestLong(t *testing.T) {
	for op := range 8 {
		p := make([]byte, 4097)
		p[0] = byte(op)
		wantRead(t, p, api.Call{}, api.ErrLong)
		noRequest(t, p[:4096])
		wantRead(t, make([]byte, 1<<20), api.Call{}, api.ErrLong)
	}
}

// Every beginning of a request, what has one more byte, and every request with
// one byte changed.
func TestReadRequestNeighbours(t *testing.T) {
	for _, c := range []api.Call{
		{Op: 1, Policy: 3, Key: []byte("abc"), N: 0x3fffffffffffffff}, {Op: 1, Key: nil, N: 0},
		{Op: 2, Policy: 31, Key: []byte("abc")}, {Op: 4, Policy: 1},
		{Op: 3, Policy: 3, Key: []byte("abc"), N: 5}, {Op: 3, N: 1}, {Op: 5}, {Op: 6},
		{Op: 1, Policy: 1, Key: counted(255), N: 9}, {Op: 3, Policy: 1, Key: counted(255), N: 9},
	} {
		p := written(c)
		for cut := range len(p) {
			noRequest(t, p[:cut])
		}
		for more := range 256 {
			noRequest(t, append(bytes.Clone(p), byte(more)))
		}
		for i := range p {
			for value := range 256 {
				other := bytes.Clone(p)
				other[i] = byte(value)
				wantAsModel(t, other)
			}
		}
	}
}

// wantAsModel: p is read, or isn't, as the chapter's words say; and what is read
// is made again.
func wantAsModel(t *testing.T, p []byte) bool {
	t.Helper()
	c, ok := read(p)
	if !ok {
		noRequest(t, p)
		return false
	}
	wantRead(t, p, c, api.OK)
	wantRequest(t, c, p, api.OK)
	return true
}

func TestReadRequestByChance(t *testing.T) {
	by := rand.New(rand.NewSource(21))
	seen := [7]int{}
	for range 300000 {
		p := make([]byte, by.Intn(24))
		for i := range p {
			p[i] = byte(by.Intn(1 + by.Intn(256)))
		}
		if len(p) > 2 && by.Intn(2) == 0 {
			p[0], p[1], p[2] = byte(by.Intn(8)), byte(by.Intn(34)), byte(by.Intn(len(p)))
		}
		if wantAsModel(t, p) {
			seen[p[0]]++
		}
		if t.Failed() {
			return
		}
	}
	for _, op := range []int{1, 2, 4, 5, 6} {
		if seen[op] < 50 {
			t.Errorf("too few requests of the kind %d: %d", op, seen[op])
		}
	}
}

func TestRequestMemory(t *testing.T) {
	for _, op := range []byte{1, 2, 3, 4} {
		c := api.Call{Op: op, Policy: 1, Key: roomy([]byte("abc")), N: 5}
		want := written(c)
		first, _ := Request(c)
		second, _ := Request(c)
		overwrite(second)
		room := c.Key[:cap(c.Key)]
		if !bytes.Equal(room, roomy([]byte("abc"))[:cap(room)]) {
			t.Fatalf("Request changed the key, or shares it: % x", room)
		}
		overwrite(c.Key)
		if !bytes.Equal(first, want) {
			t.Fatalf("a request changed behind the call: % x", first)
		}
	}
	for _, op := range []byte{5, 6} {
		first, _ := Request(api.Call{Op: op})
		second, _ := Request(api.Call{Op: op})
		overwrite(second)
		if !bytes.Equal(first, []byte{op}) {
			t.Fatalf("two requests share their memory")
		}
	}
}

func TestReadRequestMemory(t *testing.T) {
	for _, op := range []byte{1, 2, 3, 4} {
		p := roomy(written(api.Call{Op: op, Policy: 1, Key: []byte("abc"), N: 5}))
		before := bytes.Clone(p[:cap(p)])
		first, _ := ReadRequest(p)
		second, _ := ReadRequest(p)
		overwrite(second.Key)
		if !bytes.Equal(p[:cap(p)], before) {
			t.Fatalf("ReadRequest changed its argument, or the key shares it")
		}
		overwrite(p)
		if string(first.Key) != "abc" {
			t.Fatalf("a key changed behind the call: % x", first.Key)
		}
	}
}

// P21.2

// spelt: the bytes of the chapter's reply, whatever numbers stand in them.
func spelt(e, granted byte, numbers ...uint64) []byte {
	p := []byte{e, granted}
	for _, n := range numbers {
		p = binary.BigEndian.AppendUint64(p, n)
	}
	return p
}

func wantReply(t *testing.T, r api.Reply, want []byte, fault api.Errno) {
	got, e := Reply(r)
	if e != fault || !bytes.Equal(got, want) || e != api.OK && got != nil {
		t.Helper()
		t.Errorf("Reply(%v) = % x, %d, not % x, %d", r, got, e, want, fault)
	}
}

func wantReadReply(t *testing.T, p []byte, want api.Reply, fault api.Errno) {
	got, e := ReadReply(p)
	if e != fault || got != want {
		t.Helper()
		t.Errorf("ReadReply(% x) = %v, %d, not %v, %d", p, got, e, want, fault)
	}
}

func TestReplyExamples(t *testing.T) {
	r := api.Reply{Granted: true, Left: 2, Now: 100}
	p := unhex(t, "00 01 0000000000000002 0000000000000000 0000000000000000 0000000000000064")
	wantReply(t, r, p, api.OK)
	wantReadReply(t, p, r, api.OK)
	wantReadReply(t, p[:33], api.Reply{}, api.ErrForm)
	p[1] = 2
	wantReadReply(t, p, api.Reply{}, api.ErrForm)
	wantReply(t, api.Reply{E: 17}, nil, api.ErrArg)

	r = api.Reply{E: api.ErrName, Left: 0x0102030405060708, Wait: Max, Serial: 0x1112131415161718, Now: 1}
	p = unhex(t, "10 00 0102030405060708 3fffffffffffffff 1112131415161718 0000000000000001")
	wantReply(t, r, p, api.OK)
	wantReadReply(t, p, r, api.OK)
}

// ticks are numbers of every length, at both ends and between them.
func ticks() []int64 {
	list := []int64{0, Max, Max - 1, 0x0123456789abcdef}
	for bit := range 62 {
		list = append(list, 1<<bit)
	}
	return list
}

func noTicks() []int64 {
	return []int64{-1, -2, Max + 1, Max + 2, math.MinInt64, math.MinInt64 + 1, math.MaxInt64, -Max}
}

// withNumber: r with n as its number at the place.
func withNumber(r api.Reply, place int, n int64) api.Reply {
	switch place {
	case 0:
		r.Left = n
	case 1:
		r.Wait = n
	case 2:
		r.Serial = n
	case 3:
		r.Now = n
	}
	return r
}

// P21.3 too: there and back.
func TestReplies(t *testing.T) {
	for e := api.Errno(-3); e < 300; e++ {
		for granted := range 2 {
			r := api.Reply{E: e, Granted: granted == 1, Left: 1, Wait: 2, Serial: 3, Now: 4}
			if e < 0 || e > 16 {
				wantReply(t, r, nil, api.ErrArg)
				continue
			}
			p := spelt(byte(e), byte(granted), 1, 2, 3, 4)
			wantReply(t, r, p, api.OK)
			wantReadReply(t, p, r, api.OK)
		}
	}
	for _, e := range []api.Errno{math.MinInt, math.MaxInt, 256, -256} {
		wantReply(t, api.Reply{E: e}, nil, api.ErrArg)
	}
	for place := range 4 {
		for _, n := range ticks() {
			numbers := []uint64{5, 6, 7, 8}
			numbers[place] = uint64(n)
			r := withNumber(api.Reply{Left: 5, Wait: 6, Serial: 7, Now: 8}, place, n)
			p := spelt(0, 0, numbers...)
			wantReply(t, r, p, api.OK)
			wantReadReply(t, p, r, api.OK)
		}
		for _, n := range noTicks() {
			numbers := []uint64{5, 6, 7, 8}
			numbers[place] = uint64(n)
			wantReply(t, withNumber(api.Reply{Left: 5, Wait: 6, Serial: 7, Now: 8}, place, n), nil, api.ErrArg)
			wantReadReply(t, spelt(0, 1, numbers...), api.Reply{}, api.ErrForm)
		}
	}
}

func TestReadReplyLengths(t *testing.T) {
	wantReadReply(t, nil, api.Reply{}, api.ErrForm)
	for length := range 4200 {
		fault := api.ErrForm
		switch {
		case length == 34:
			fault = api.OK
		case length > 4096:
			fault = api.ErrLong
		}
		wantReadReply(t, make([]byte, length), api.Reply{}, fault)
	}
}

func TestReadReplyNeighbours(t *testing.T) {
	want := api.Reply{E: 9, Granted: true, Left: 1, Wait: 2, Serial: 3, Now: 4}
	p := spelt(9, 1, 1, 2, 3, 4)
	for i := range p {
		for value := range 256 {
			other := bytes.Clone(p)
			other[i] = byte(value)
			high := i >= 2 && (i-2)%8 == 0
			if i == 0 && value > 16 || i == 1 && value > 1 || high && value > 0x3f {
				wantReadReply(t, other, api.Reply{}, api.ErrForm)
				continue
			}
			r := want
			switch i {
			case 0:
				r.E = api.Errno(value)
			case 1:
				r.Granted = value == 1
			default:
				place := (i - 2) / 8
				r = withNumber(r, place, int64(binary.BigEndian.Uint64(other[2+8*place:])))
			}
			wantReadReply(t, other, r, api.OK)
			wantReply(t, r, other, api.OK)
		}
	}
}

func TestReplyMemory(t *testing.T) {
	r := api.Reply{Granted: true, Left: 2}
	first, _ := Reply(r)
	second, _ := Reply(r)
	overwrite(second)
	if !bytes.Equal(first, spelt(0, 1, 2, 0, 0, 0)) {
		t.Errorf("two replies share their memory")
	}
	p := roomy(first)
	before := bytes.Clone(p[:cap(p)])
	wantReadReply(t, p, r, api.OK)
	if !bytes.Equal(p[:cap(p)], before) {
		t.Errorf("ReadReply changed its argument")
	}
}
