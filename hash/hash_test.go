package hash

import (
	"bytes"
	"hash/fnv"
	"math"
	"testing"

	"spigot/api"
)

// samples are bytes of many lengths, with every byte among them.
func samples() [][]byte {
	all := make([]byte, 256)
	for i := range all {
		all[i] = byte(i)
	}
	list := [][]byte{nil, {}, {0}, {0, 0}, {0xff}, {0xff, 0xff}, []byte("a"), []byte("ab"), []byte("foobar"), all}
	for i := range all {
		list = append(list, []byte{byte(i)}, all[:i], all[i:])
	}
	return append(list, bytes.Repeat(all, 40))
}

// roomy is p with spare room behind it, all of that filled with one byte.
func roomy(p []byte) []byte {
	room := append(bytes.Clone(p), bytes.Repeat([]byte{0x5a}, 300)...)
	return room[:len(p)]
}

// P2.1

func TestSum(t *testing.T) {
	for _, c := range []struct {
		p    string
		want uint64
	}{
		{"", 14695981039346656037},
		{"", 0xcbf29ce484222325},
		{"a", 0xaf63dc4c8601ec8c},
		{"foobar", 0x85944171f73967e8},
		{"\x00", 0xaf63bd4c8601b7df},
	} {
		if got := Sum([]byte(c.p)); got != c.want {
			t.Errorf("Sum(%q) = %x, not %x", c.p, got, c.want)
		}
	}
	if Sum(nil) != Sum([]byte{}) {
		t.Error("Sum of nil and of an empty list")
	}
	for _, p := range samples() {
		h := fnv.New64a()
		h.Write(p)
		if got := Sum(p); got != h.Sum64() {
			t.Errorf("Sum(%x) = %x, not %x", p, got, h.Sum64())
		}
	}
}

func TestUpdate(t *testing.T) {
	for _, h := range []uint64{0, 1, 14695981039346656037, 1 << 63, math.MaxUint64} {
		if Update(h, nil) != h || Update(h, []byte{}) != h {
			t.Errorf("Update(%x, none)", h)
		}
		for b := range 256 {
			if got, want := Update(h, []byte{byte(b)}), (h^uint64(b))*1099511628211; got != want {
				t.Errorf("Update(%x, %x) = %x, not %x", h, b, got, want)
			}
		}
	}
	p := []byte("one behind the other")
	for i := range len(p) + 1 {
		if Update(Sum(p[:i]), p[i:]) != Sum(p) {
			t.Errorf("cut at %d", i)
		}
	}
	if Update(0, []byte("ab")) == Update(0, []byte("ba")) {
		t.Error("the front goes first")
	}
}

// P2.2

func TestIdent(t *testing.T) {
	full := bytes.Repeat([]byte{0xff}, 255)
	for _, c := range []struct {
		policy int
		key    []byte
		want   []byte
		fault  api.Errno
	}{
		{3, []byte("ab"), []byte{3, 'a', 'b'}, api.OK},
		{0, nil, []byte{0}, api.OK},
		{0, []byte{}, []byte{0}, api.OK},
		{31, []byte{0}, []byte{31, 0}, api.OK},
		{31, full, append([]byte{31}, full...), api.OK},
		{0, make([]byte, 255), make([]byte, 256), api.OK},
		{32, []byte("ab"), nil, api.ErrArg},
		{-1, []byte("ab"), nil, api.ErrArg},
		{256, []byte("ab"), nil, api.ErrArg},
		{259, nil, nil, api.ErrArg},
		{math.MaxInt, nil, nil, api.ErrArg},
		{math.MinInt, nil, nil, api.ErrArg},
		{0, make([]byte, 256), nil, api.ErrLong},
		{31, make([]byte, 5000), nil, api.ErrLong},
		{32, make([]byte, 256), nil, api.ErrArg},
		{-1, make([]byte, 256), nil, api.ErrArg},
	} {
		got, e := Ident(c.policy, c.key)
		if !bytes.Equal(got, c.want) || e != c.fault {
			t.Errorf("Ident(%d, %x) = %x, %d", c.policy, c.key, got, e)
		}
	}
}

func TestParts(t *testing.T) {
	for _, c := range []struct {
		id     []byte
		policy int
		key    []byte
		fault  api.Errno
	}{
		{[]byte{3, 'a', 'b'}, 3, []byte("ab"), api.OK},
		{[]byte{0}, 0, nil, api.OK},
		{[]byte{31, 0xff}, 31, []byte{0xff}, api.OK},
		{make([]byte, 256), 0, make([]byte, 255), api.OK},
		{nil, 0, nil, api.ErrForm},
		{[]byte{}, 0, nil, api.ErrForm},
		{[]byte{32}, 0, nil, api.ErrForm},
		{[]byte{0x20, 'a'}, 0, nil, api.ErrForm},
		{[]byte{0xff, 'a'}, 0, nil, api.ErrForm},
		{make([]byte, 257), 0, nil, api.ErrForm},
		{append([]byte{32}, make([]byte, 300)...), 0, nil, api.ErrForm},
	} {
		policy, key, e := Parts(c.id)
		if policy != c.policy || !bytes.Equal(key, c.key) || e != c.fault {
			t.Errorf("Parts(%x) = %d, %x, %d", c.id, policy, key, e)
		}
	}
}

func TestPartsOfIdent(t *testing.T) {
	for policy := range 32 {
		for _, key := range samples() {
			if len(key) > 255 {
				continue
			}
			id, e := Ident(policy, key)
			if e != api.OK {
				t.Fatalf("Ident(%d, %x): %d", policy, key, e)
			}
			if p, k, e := Parts(id); p != policy || !bytes.Equal(k, key) || e != api.OK {
				t.Errorf("Parts(%x) = %d, %x, %d", id, p, k, e)
			}
		}
	}
}

// overwrite fills p and its spare room.
func overwrite(p []byte) {
	p = p[:cap(p)]
	for i := range p {
		p[i] = 0xee
	}
}

func TestAnswersAreNewMemory(t *testing.T) {
	key := roomy([]byte("key"))
	id, _ := Ident(7, key)
	other, _ := Ident(7, key)
	overwrite(id)
	if string(key) != "key" || key[:300][299] != 0x5a || !bytes.Equal(other, []byte("\x07key")) {
		t.Error("Ident's answer shares memory")
	}
	id, _ = Ident(7, key)
	overwrite(key)
	if !bytes.Equal(id, []byte("\x07key")) {
		t.Error("Ident keeps its argument")
	}

	id = roomy([]byte("\x07key"))
	_, got, _ := Parts(id)
	_, again, _ := Parts(id)
	overwrite(got)
	if !bytes.Equal(id, []byte("\x07key")) || id[:300][299] != 0x5a || string(again) != "key" {
		t.Error("Parts' answer shares memory")
	}
	_, got, _ = Parts(id)
	overwrite(id)
	if string(got) != "key" {
		t.Error("Parts keeps its argument")
	}
}

func TestArgumentsStay(t *testing.T) {
	for _, p := range samples() {
		handed := roomy(p)
		kept := bytes.Clone(handed[:cap(handed)])
		Sum(handed)
		Update(5, handed)
		Ident(1, handed)
		Parts(handed)
		Shard(handed, 3)
		Order(handed, handed)
		if !bytes.Equal(handed[:cap(handed)], kept) {
			t.Errorf("%x was changed", p)
		}
	}
}

// P2.3

func TestShard(t *testing.T) {
	for _, c := range []struct {
		id    string
		level int
		want  int
		fault api.Errno
	}{
		{"a", 0, 0, api.OK},
		{"a", 1, 0, api.OK},
		{"a", 2, 0, api.OK},
		{"a", 3, 4, api.OK},
		{"a", 4, 12, api.OK},
		{"", 4, 5, api.OK},
		{"", 1, 1, api.OK},
		{"a", 5, 0, api.ErrArg},
		{"a", -1, 0, api.ErrArg},
		{"", 64, 0, api.ErrArg},
		{"", math.MaxInt, 0, api.ErrArg},
		{"", math.MinInt, 0, api.ErrArg},
	} {
		if got, e := Shard([]byte(c.id), c.level); got != c.want || e != c.fault {
			t.Errorf("Shard(%q, %d) = %d, %d", c.id, c.level, got, e)
		}
	}
	for _, p := range samples() {
		for level, shards := range []uint64{1, 2, 4, 8, 16} {
			if got, e := Shard(p, level); uint64(got) != Sum(p)%shards || e != api.OK {
				t.Errorf("Shard(%x, %d) = %d, %d", p, level, got, e)
			}
		}
	}
}

// P2.4

func TestOrder(t *testing.T) {
	// Each stands ahead of all those behind it.
	rising := []string{
		"", "\x00", "\x00\x00", "\x00\xff", "\x01", "a", "a\x00", "a\x00\x00", "aa",
		"ab", "abc", "ac", "a\xff", "b", "\x7f", "\x7f\xff", "\x80", "\xff", "\xff\x00", "\xff\xff",
	}
	for i, a := range rising {
		for j, b := range rising {
			want := 0
			if i < j {
				want = -1
			}
			if i > j {
				want = 1
			}
			if got := Order([]byte(a), []byte(b)); got != want {
				t.Errorf("Order(%q, %q) = %d, not %d", a, b, got, want)
			}
		}
	}
	if Order(nil, []byte{}) != 0 || Order([]byte{}, nil) != 0 || Order(nil, nil) != 0 {
		t.Error("nil and empty are the same")
	}
	long := make([]byte, 5000)
	if Order(long, long[:4999]) != 1 || Order(long[:4999], long) != -1 {
		t.Error("the shorter goes first")
	}
}
