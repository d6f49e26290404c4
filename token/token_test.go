package token

import (
	"bytes"
	"encoding/binary"
	"encoding/hex"
	"hash/fnv"
	"math"
	"strings"
	"testing"

	"spigot/api"
)

const Max = 4611686018427387903

// summed: p with the end of its sum behind it.
func summed(p []byte) []byte {
	h := fnv.New64a()
	h.Write(p)
	return binary.BigEndian.AppendUint32(bytes.Clone(p), uint32(h.Sum64()))
}

// written: bytes of the chapter's form, whatever numbers stand in them.
func written(policy, keyLen byte, key []byte, serial uint64) []byte {
	p := append([]byte{0x53, 0x47, policy, keyLen}, key...)
	return summed(binary.BigEndian.AppendUint64(p, serial))
}

func same(a, b api.Token) bool {
	return a.Policy == b.Policy && bytes.Equal(a.Key, b.Key) && a.Serial == b.Serial
}

// roomy: p with spare room behind it, all of that filled with one byte.
func roomy(p []byte) []byte {
	room := append(bytes.Clone(p), bytes.Repeat([]byte{0x5a}, 300)...)
	return room[:len(p)]
}

// overwrite fills p and its spare room.
func overwrite(p []byte) {
	p = p[:cap(p)]
	for i := range p {
		p[i] = 0xee
	}
}

// allBytes: the bytes 0, 1, .. 255, 0, .., so many of them.
func allBytes(n int) []byte {
	p := make([]byte, n)
	for i := range p {
		p[i] = byte(i)
	}
	return p
}

// tokens are some of every policy, with keys and serials of every length.
func tokens() []api.Token {
	list := []api.Token{
		{Policy: 0, Key: nil, Serial: 1}, {Policy: 0, Key: []byte{}, Serial: Max}, {Policy: 31, Key: []byte("SG"), Serial: Max},
		{Policy: 7, Key: allBytes(255), Serial: Max - 1}, {Policy: 31, Key: bytes.Repeat([]byte{0xff}, 255), Serial: Max},
	}
	for policy := range 32 {
		list = append(list, api.Token{Policy: policy, Key: []byte("bob"), Serial: int64(policy) + 1})
	}
	for length := range 256 {
		list = append(list, api.Token{Policy: 3, Key: allBytes(length), Serial: 0x0123456789abcdef})
	}
	for bit := range 62 {
		list = append(list, api.Token{Policy: 5, Key: []byte{0}, Serial: 1 << bit})
	}
	return list
}

// P7.1

func TestEncode(t *testing.T) {
	for _, c := range []struct {
		token api.Token
		want  string
	}{
		// The sums are worked out without this program.
		{api.Token{Serial: 1}, "534700000000000000000001" + "865f9bc4"},
		{api.Token{Policy: 3, Key: []byte("ab"), Serial: 0x0102030405060708}, "5347030261620102030405060708" + "e705ea09"},
		{api.Token{Policy: 31, Key: []byte{0xff}, Serial: Max}, "53471f01ff3fffffffffffffff" + "bad0837c"},
	} {
		got, fault := Encode(c.token)
		if hex.EncodeToString(got) != c.want || fault != api.OK {
			t.Errorf("Encode(%v) = %x, %d", c.token, got, fault)
		}
	}
	for _, token := range tokens() {
		want := written(byte(token.Policy), byte(len(token.Key)), token.Key, uint64(token.Serial))
		if got, fault := Encode(token); !bytes.Equal(got, want) || fault != api.OK {
			t.Errorf("Encode(%v) = %x, %d, not %x", token, got, fault, want)
		}
	}
	for length, want := range map[int]int{0: 16, 1: 17, 255: 271} {
		if got, _ := Encode(api.Token{Key: make([]byte, length), Serial: 1}); len(got) != want {
			t.Errorf("a key of %d bytes: %d bytes", length, len(got))
		}
	}
}

func TestEncodeWrong(t *testing.T) {
	long := make([]byte, 256)
	for _, c := range []struct {
		token api.Token
		fault api.Errno
	}{
		{api.Token{Policy: 32, Serial: 1}, api.ErrArg},
		{api.Token{Policy: -1, Serial: 1}, api.ErrArg},
		{api.Token{Policy: 256, Serial: 1}, api.ErrArg},
		{api.Token{Policy: math.MaxInt, Serial: 1}, api.ErrArg},
		{api.Token{Policy: math.MinInt, Serial: 1}, api.ErrArg},
		{api.Token{}, api.ErrArg},
		{api.Token{Key: []byte("bob")}, api.ErrArg},
		{api.Token{Serial: -1}, api.ErrArg},
		{api.Token{Serial: math.MinInt64}, api.ErrArg},
		{api.Token{Serial: Max + 1}, api.ErrArg},
		{api.Token{Serial: math.MaxInt64}, api.ErrArg},
		{api.Token{Key: long, Serial: 1}, api.ErrLong},
		{api.Token{Policy: 31, Key: make([]byte, 5000), Serial: Max}, api.ErrLong},
		// The lesser number of two.
		{api.Token{Policy: 32, Key: long, Serial: 1}, api.ErrArg},
		{api.Token{Key: long}, api.ErrArg},
	} {
		if got, fault := Encode(c.token); len(got) != 0 || fault != c.fault {
			t.Errorf("Encode of %d, a key of %d, %d = %x, %d", c.token.Policy, len(c.token.Key), c.token.Serial, got, fault)
		}
	}
}

func TestDecode(t *testing.T) {
	for _, token := range tokens() {
		p := written(byte(token.Policy), byte(len(token.Key)), token.Key, uint64(token.Serial))
		if got, fault := Decode(p); !same(got, token) || fault != api.OK {
			t.Errorf("Decode(%x) = %v, %d", p, got, fault)
		}
	}
}

func checkNoToken(t *testing.T, p []byte, want api.Errno) {
	t.Helper()
	if got, fault := Decode(p); !same(got, api.Token{}) || fault != want {
		t.Errorf("Decode(%x) = %v, %d, not %d", p, got, fault, want)
	}
}

// Of bytes whose sum is right, one thing is wrong.
func TestDecodeWrong(t *testing.T) {
	key := []byte("bob")
	good := written(3, 3, key, 9)
	for _, p := range [][]byte{
		nil, {}, {0x53}, {0x53, 0x47}, {0x53, 0x47, 0}, {0x53, 0x47, 0, 0}, {0x53, 0x47, 0, 255}, summed(nil), make([]byte, 16), make([]byte, 271),
		written(32, 3, key, 9), written(255, 3, key, 9),
		written(3, 3, key, 0), written(3, 3, key, Max+1), written(3, 3, key, math.MaxInt64), written(3, 3, key, 1<<63), written(3, 3, key, 1<<63+9), written(3, 3, key, math.MaxUint64),
		written(3, 2, key, 9), written(3, 4, key, 9), written(3, 0, key, 9), written(3, 255, key, 9), written(3, 3, nil, 9), written(3, 0, make([]byte, 256), 9),
		summed(append([]byte{0x47, 0x53}, good[2:15]...)), summed(append([]byte{0x53, 0x46}, good[2:15]...)), summed(append([]byte{0x73, 0x47}, good[2:15]...)),
		// The sum is another end, or the other way round, or of all the bytes.
		append(good[:15:15], good[18], good[17], good[16], good[15]), summed(good), append(good[:15:15], 0, 0, 0, 0),
	} {
		checkNoToken(t, p, api.ErrForm)
	}
}

// All of them, and none beside them: no bit may be another.
func TestDecodeLooksAtAll(t *testing.T) {
	for _, token := range []api.Token{
		{Serial: 1}, {Policy: 31, Key: []byte("bob"), Serial: Max}, {Policy: 8, Key: allBytes(255), Serial: 77},
	} {
		p := written(byte(token.Policy), byte(len(token.Key)), token.Key, uint64(token.Serial))
		for n := range p {
			checkNoToken(t, p[:n], api.ErrForm)
			checkNoToken(t, p[n+1:], api.ErrForm)
			for bit := range 8 {
				other := bytes.Clone(p)
				other[n] ^= 1 << bit
				checkNoToken(t, other, api.ErrForm)
			}
		}
		for b := range 256 {
			checkNoToken(t, append(bytes.Clone(p), byte(b)), api.ErrForm)
			checkNoToken(t, append([]byte{byte(b)}, p...), api.ErrForm)
		}
		checkNoToken(t, append(bytes.Clone(p), p...), api.ErrForm)
	}
}

func TestDecodeLong(t *testing.T) {
	p := written(0, 0, nil, 1)
	for length, want := range map[int]api.Errno{
		272: api.ErrForm, 4095: api.ErrForm, 4096: api.ErrForm, 4097: api.ErrLong, 5000: api.ErrLong, 70000: api.ErrLong,
	} {
		long := make([]byte, length)
		checkNoToken(t, long, want)
		copy(long, p)
		checkNoToken(t, long, want)
	}
}

// P7.2

func TestHex(t *testing.T) {
	for _, c := range []struct {
		p    []byte
		want string
	}{
		{nil, ""}, {[]byte{}, ""}, {[]byte{0}, "00"}, {[]byte{0, 0xff, 0x1a}, "00ff1a"}, {[]byte("SG"), "5347"},
		{[]byte{0x01, 0x23, 0x45, 0x67, 0x89, 0xab, 0xcd, 0xef}, "0123456789abcdef"}, {[]byte{0xa0, 0x0a}, "a00a"},
	} {
		if got := Hex(c.p); got != c.want {
			t.Errorf("Hex(%x) = %q", c.p, got)
		}
	}
	// Any bytes: more than MaxFrame, and a text of more than MaxText.
	for _, n := range []int{255, 256, 4097, 32769, 100000} {
		p := allBytes(n)
		if got := Hex(p); got != hex.EncodeToString(p) {
			t.Errorf("Hex of %d bytes", n)
		}
	}
}

func TestUnhex(t *testing.T) {
	for _, c := range []struct {
		s     string
		want  []byte
		fault api.Errno
	}{
		{"", nil, api.OK},
		{"00", []byte{0}, api.OK},
		{"00ff1a", []byte{0, 0xff, 0x1a}, api.OK},
		{"0123456789abcdef", []byte{0x01, 0x23, 0x45, 0x67, 0x89, 0xab, 0xcd, 0xef}, api.OK},
		{"00FF", nil, api.ErrForm},
		{"0", nil, api.ErrForm},
		{"000", nil, api.ErrForm},
		{"00f", nil, api.ErrForm},
		{"0x00", nil, api.ErrForm},
		{" 00 ", nil, api.ErrForm},
		{"00 f", nil, api.ErrForm},
		{"+1", nil, api.ErrForm},
		{"é", nil, api.ErrForm},
		{"１２", nil, api.ErrForm},
		{"0g", nil, api.ErrForm},
		{"ffffg0", nil, api.ErrForm},
	} {
		if got, fault := Unhex(c.s); !bytes.Equal(got, c.want) || fault != c.fault {
			t.Errorf("Unhex(%q) = %x, %d", c.s, got, fault)
		}
	}
}

// Every two bytes: the digits are 0 to 9 and a to f alone.
func TestUnhexOfAnyTwo(t *testing.T) {
	for high := range 256 {
		for low := range 256 {
			s := string([]byte{byte(high), byte(low)})
			want, fault := []byte(nil), api.ErrForm
			if p, err := hex.DecodeString(s); err == nil && s == strings.ToLower(s) {
				want, fault = p, api.OK
			}
			if got, e := Unhex(s); !bytes.Equal(got, want) || e != fault {
				t.Errorf("Unhex(%q) = %x, %d", s, got, e)
			}
		}
	}
}

func TestUnhexLong(t *testing.T) {
	p := allBytes(32768)
	if got, fault := Unhex(hex.EncodeToString(p)); !bytes.Equal(got, p) || fault != api.OK {
		t.Errorf("65536 digits: %d bytes, %d", len(got), fault)
	}
	for _, c := range []struct {
		s    string
		want api.Errno
	}{
		{strings.Repeat("0", 65535), api.ErrForm}, {strings.Repeat("g", 65536), api.ErrForm}, {strings.Repeat("0", 65535) + "G", api.ErrForm},
		{strings.Repeat("0", 65537), api.ErrLong}, {strings.Repeat("0", 65538), api.ErrLong}, {strings.Repeat("g", 65537), api.ErrLong}, {strings.Repeat("G", 200000), api.ErrLong},
	} {
		if got, fault := Unhex(c.s); len(got) != 0 || fault != c.want {
			t.Errorf("%d times %q: %d bytes, %d", len(c.s), c.s[:1], len(got), fault)
		}
	}
}

func TestUnhexOfHex(t *testing.T) {
	for _, token := range tokens() {
		p, _ := Encode(token)
		back, fault := Unhex(Hex(p))
		if !bytes.Equal(back, p) || fault != api.OK {
			t.Errorf("Unhex(%q) = %x, %d", Hex(p), back, fault)
		}
	}
}

// The rules of memory

func TestArgumentsStay(t *testing.T) {
	for _, token := range tokens() {
		handed := token
		handed.Key = roomy(token.Key)
		kept := bytes.Clone(handed.Key[:cap(handed.Key)])
		p, _ := Encode(handed)
		if !bytes.Equal(handed.Key[:cap(handed.Key)], kept) {
			t.Errorf("Encode changed %x", token.Key)
		}
		p = roomy(p)
		kept = bytes.Clone(p[:cap(p)])
		Decode(p)
		Hex(p)
		if !bytes.Equal(p[:cap(p)], kept) {
			t.Errorf("%x was changed", p)
		}
	}
}

func TestAnswersAreNewMemory(t *testing.T) {
	key := roomy([]byte("key"))
	token := api.Token{Policy: 7, Key: key, Serial: 9}
	want := written(7, 3, []byte("key"), 9)
	p, _ := Encode(token)
	other, _ := Encode(token)
	overwrite(p)
	if string(key) != "key" || key[:cap(key)][299] != 0x5a || !bytes.Equal(other, want) {
		t.Error("Encode's answer shares memory")
	}
	overwrite(key)
	if !bytes.Equal(other, want) {
		t.Error("Encode keeps its argument")
	}

	p = roomy(want)
	got, _ := Decode(p)
	again, _ := Decode(p)
	overwrite(got.Key)
	if !bytes.Equal(p, want) || p[:cap(p)][len(p)] != 0x5a || string(again.Key) != "key" {
		t.Error("Decode's answer shares memory")
	}
	text := Hex(p)
	overwrite(p)
	if string(again.Key) != "key" || text != hex.EncodeToString(want) {
		t.Error("Decode or Hex keeps its argument")
	}

	first, _ := Unhex("00ff1a")
	second, _ := Unhex("00ff1a")
	overwrite(first)
	if !bytes.Equal(second, []byte{0, 0xff, 0x1a}) {
		t.Error("Unhex's answers share memory")
	}
}
