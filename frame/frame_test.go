package frame

import (
	"bytes"
	"encoding/binary"
	"math/rand"
	"runtime"
	"slices"
	"testing"

	"spigot/api"
)

// framed: a frame of the chapter's form, whatever length it tells.
func framed(length uint32, payload []byte) []byte {
	return append(binary.BigEndian.AppendUint32(nil, length), payload...)
}

// whole: the frames of these payloads, one behind the other.
func whole(payloads ...[]byte) []byte {
	var stream []byte
	for _, p := range payloads {
		stream = append(stream, framed(uint32(len(p)), p)...)
	}
	return stream
}

// counted: n bytes, each of another number than those about it.
func counted(n int) []byte {
	p := make([]byte, n)
	for i := range p {
		p[i] = byte(i*7 + n)
	}
	return p
}

// roomy: p with spare room behind it, all of that filled with one byte.
func roomy(p []byte) []byte {
	room := append(bytes.Clone(p), bytes.Repeat([]byte{0x5a}, 300)...)
	return room[:len(p)]
}

// overwrite fills p and its spare room.
func overwrite(p []byte) {
	p = p[:cap(p)]
	for i := range p {
		p[i] = 0xee
	}
}

// told is what a reader is to answer for all of a stream.
type told struct {
	payloads [][]byte
	waiting  int
	broken   bool
}

// model: the chapter's words, told of a stream at once.
func model(stream []byte) told {
	var all told
	for len(stream) >= 4 {
		length := binary.BigEndian.Uint32(stream)
		if length == 0 || length > 4096 {
			return told{payloads: all.payloads, broken: true}
		}
		if len(stream)-4 < int(length) {
			break
		}
		all.payloads = append(all.payloads, stream[4:4+length])
		stream = stream[4+length:]
	}
	all.waiting = len(stream)
	return all
}

func samePayloads(a, b [][]byte) bool { return slices.EqualFunc(a, b, bytes.Equal) }

func wantFeed(t *testing.T, r *Reader, piece []byte, want [][]byte, fault api.Errno) {
	got, e := r.Feed(piece)
	if e != fault || !samePayloads(got, want) {
		t.Helper()
		t.Fatalf("Feed(% x) = % x, %d, not % x, %d", piece, got, e, want, fault)
	}
}

func wantWaiting(t *testing.T, r *Reader, want int) {
	if got := r.Waiting(); got != want {
		t.Helper()
		t.Fatalf("Waiting() = %d, not %d", got, want)
	}
}

func wantEnd(t *testing.T, r *Reader, want int, fault api.Errno) {
	if got, e := r.End(); got != want || e != fault {
		t.Helper()
		t.Fatalf("End() = %d, %d, not %d, %d", got, e, want, fault)
	}
}

// wantClosed: whatever comes, nothing more is answered.
func wantClosed(t *testing.T, r *Reader) {
	t.Helper()
	for _, piece := range [][]byte{nil, {0}, {0, 0, 0, 0}, whole([]byte("a")), whole([]byte("a"), nil), {0xff, 0xff, 0xff, 0xff}} {
		wantFeed(t, r, piece, nil, api.ErrClosed)
		wantWaiting(t, r, 0)
		wantEnd(t, r, 0, api.ErrClosed)
	}
}

// P20.1

func TestEncode(t *testing.T) {
	for length := range 4300 {
		p := counted(length)
		var want []byte
		fault := api.OK
		switch {
		case length == 0:
			fault = api.ErrForm
		case length > 4096:
			fault = api.ErrLong
		default:
			want = framed(uint32(length), p)
		}
		if got, e := Encode(p); e != fault || !bytes.Equal(got, want) {
			t.Fatalf("Encode of %d bytes = %d bytes, %d, not %d bytes, %d", length, len(got), e, len(want), fault)
		}
	}
	if got, e := Encode([]byte("a")); e != api.OK || !bytes.Equal(got, []byte{0, 0, 0, 1, 0x61}) {
		t.Errorf("Encode(61) = % x, %d", got, e)
	}
	if got, e := Encode(nil); e != api.ErrForm || got != nil {
		t.Errorf("Encode(none) = % x, %d", got, e)
	}
	if got, e := Encode(make([]byte, 1<<20)); e != api.ErrLong || got != nil {
		t.Errorf("Encode of 2^20 bytes = %d bytes, %d", len(got), e)
	}
}

func TestEncodeMemory(t *testing.T) {
	p := roomy([]byte("abc"))
	first, _ := Encode(p)
	second, _ := Encode(p)
	overwrite(second)
	if !bytes.Equal(p[:cap(p)], roomy([]byte("abc"))[:cap(p)]) {
		t.Errorf("Encode changed its argument, or shares it: % x", p[:cap(p)])
	}
	overwrite(p)
	if !bytes.Equal(first, whole([]byte("abc"))) {
		t.Errorf("a frame changed behind the call: % x", first)
	}
}

// P20.2

func TestFeedExamples(t *testing.T) {
	r := New()
	wantFeed(t, r, []byte{0, 0}, nil, api.OK)
	wantFeed(t, r, []byte{0, 1, 0x61, 0}, [][]byte{{0x61}}, api.OK)
	wantWaiting(t, r, 1)

	r = New()
	wantFeed(t, r, []byte{0, 0, 0, 1, 0x61, 0, 0, 0, 0, 5}, [][]byte{{0x61}}, api.ErrFrame)
	wantClosed(t, r)

	wantFeed(t, New(), []byte{0, 0, 0x10, 1}, nil, api.ErrFrame)
	wantFeed(t, New(), append([]byte{0, 0, 0x10, 0}, counted(4096)...), [][]byte{counted(4096)}, api.OK)
}

func TestFeedNothing(t *testing.T) {
	r := New()
	for range 3 {
		wantFeed(t, r, nil, nil, api.OK)
		wantFeed(t, r, []byte{}, nil, api.OK)
		wantWaiting(t, r, 0)
	}
	wantFeed(t, r, []byte{0, 0, 0, 2, 9}, nil, api.OK)
	wantFeed(t, r, nil, nil, api.OK)
	wantWaiting(t, r, 5)
	wantFeed(t, r, []byte{8}, [][]byte{{9, 8}}, api.OK)
	wantFeed(t, r, nil, nil, api.OK)
	wantEnd(t, r, 0, api.OK)
}

func TestFeedLengths(t *testing.T) {
	for length := uint32(1); length <= 4096; length++ {
		r := New()
		wantFeed(t, r, framed(length, counted(int(length))), [][]byte{counted(int(length))}, api.OK)
		wantWaiting(t, r, 0)
	}
	wrong := []uint32{0, 4097, 4098, 8192, 0xffff, 1 << 16, 1<<16 + 1, 1 << 24, 1<<24 + 1, 1 << 31, 1<<31 + 1, 1<<32 - 1}
	for _, length := range wrong {
		for _, behind := range [][]byte{nil, {5}, whole([]byte("a")), counted(5000)} {
			r := New()
			wantFeed(t, r, framed(length, behind), nil, api.ErrFrame)
			wantClosed(t, r)
		}
	}
}

// The fault comes with the fourth byte, though the first may tell it.
func TestFeedFourthByte(t *testing.T) {
	for _, length := range []uint32{0, 4097, 1 << 24, 1<<32 - 1} {
		for _, ahead := range [][]byte{nil, whole([]byte("a")), whole(counted(4096), []byte("b"))} {
			bad := framed(length, nil)
			for cut := range 4 {
				r := New()
				wantFeed(t, r, slices.Concat(ahead, bad[:cut]), model(ahead).payloads, api.OK)
				wantWaiting(t, r, cut)
				wantFeed(t, r, bad[cut:], nil, api.ErrFrame)
				wantClosed(t, r)
			}
			r := New()
			wantFeed(t, r, slices.Concat(ahead, bad, ahead), model(ahead).payloads, api.ErrFrame)
			wantClosed(t, r)
		}
	}
}

func TestFeedMany(t *testing.T) {
	var payloads [][]byte
	for i := range 3000 {
		payloads = append(payloads, counted(1+i*i%4096))
	}
	r := New()
	wantFeed(t, r, append(whole(payloads...), 0, 0, 1), payloads, api.OK)
	wantWaiting(t, r, 3)
	wantFeed(t, r, append([]byte{0}, counted(255)...), nil, api.OK)
	wantFeed(t, r, []byte{7}, [][]byte{append(counted(255), 7)}, api.OK)
}

// What a few bytes came with isn't kept for them.
func TestKeepsLittle(t *testing.T) {
	piece := append(bytes.Repeat(whole(counted(1000)), 1000), 0)
	readers := make([]*Reader, 40)
	before := heap()
	for i := range readers {
		readers[i] = New()
		if got, e := readers[i].Feed(piece); len(got) != 1000 || e != api.OK {
			t.Fatal(len(got), e)
		}
	}
	if kept := heap() - before; kept > 4<<20 {
		t.Errorf("for %d bytes that wait %d are kept", len(readers), kept)
	}
	for _, r := range readers {
		wantEnd(t, r, 1, api.OK)
	}
}

// heap: the bytes that somebody still reaches.
func heap() int64 {
	var now runtime.MemStats
	runtime.GC()
	runtime.ReadMemStats(&now)
	return int64(now.HeapAlloc)
}

// P20.3

func TestWaitingAndEnd(t *testing.T) {
	stream := whole([]byte("a"), counted(300), []byte("bc"))
	for cut := range len(stream) + 1 {
		want := model(stream[:cut])
		r := New()
		wantFeed(t, r, stream[:cut], want.payloads, api.OK)
		wantWaiting(t, r, want.waiting)
		wantWaiting(t, r, want.waiting)
		wantEnd(t, r, want.waiting, api.OK)
		wantClosed(t, r)
	}
	r := New()
	wantFeed(t, r, framed(4096, counted(4095)), nil, api.OK)
	wantWaiting(t, r, 4099)
	wantEnd(t, r, 4099, api.OK)
	r = New()
	wantWaiting(t, r, 0)
	wantEnd(t, r, 0, api.OK)
	wantClosed(t, r)
}

func TestNil(t *testing.T) {
	var r *Reader
	wantFeed(t, r, nil, nil, api.ErrNone)
	wantFeed(t, r, whole([]byte("a"), nil), nil, api.ErrNone)
	wantEnd(t, r, 0, api.ErrNone)
	wantWaiting(t, r, 0)
}

// P20.4

// feedAll feeds the pieces, and then an end; it is held against want.
func feedAll(t *testing.T, pieces [][]byte, want told) {
	t.Helper()
	r := New()
	var got [][]byte
	broken := false
	for _, piece := range pieces {
		payloads, e := r.Feed(piece)
		switch {
		case broken && (e != api.ErrClosed || len(payloads) > 0):
			t.Fatalf("% x: behind ErrFrame: % x, %d", pieces, payloads, e)
		case !broken && e == api.ErrFrame:
			broken = true
		case !broken && e != api.OK:
			t.Fatalf("% x: %d", pieces, e)
		}
		got = append(got, payloads...)
	}
	if broken != want.broken || !samePayloads(got, want.payloads) {
		t.Fatalf("% x: % x, broken %v, not % x, broken %v", pieces, got, broken, want.payloads, want.broken)
	}
	wantWaiting(t, r, want.waiting)
	if want.broken {
		wantEnd(t, r, 0, api.ErrClosed)
	} else {
		wantEnd(t, r, want.waiting, api.OK)
	}
	wantEnd(t, r, 0, api.ErrClosed)
	wantWaiting(t, r, 0)
}

// cutBy: the pieces of a stream that is cut behind the byte i where the bit i of
// cuts is set.
func cutBy(stream []byte, cuts int) [][]byte {
	var pieces [][]byte
	from := 0
	for i := 1; i < len(stream); i++ {
		if cuts>>(i-1)&1 == 1 {
			pieces = append(pieces, stream[from:i])
			from = i
		}
	}
	return append(pieces, stream[from:])
}

func TestEveryCut(t *testing.T) {
	streams := [][]byte{
		whole([]byte("a"), []byte("bc"), []byte("d"))[:15],
		append(whole([]byte("a")), 0, 0, 0, 0, 0, 0, 0, 1, 'b'),
		append(whole([]byte("abc")), 0, 0, 0x10, 1, 0, 0),
		{0xff, 0, 0, 1, 0, 0, 0, 1, 'a'},
		{0, 0, 0, 4, 0, 0, 0, 1, 0, 0, 0, 1, 0, 0},
	}
	for _, stream := range streams {
		want := model(stream)
		for cuts := range 1 << (len(stream) - 1) {
			feedAll(t, cutBy(stream, cuts), want)
		}
	}
}

// aStream: some frames by chance, at times with a wrong length among them, at
// times cut off.
func aStream(by *rand.Rand) []byte {
	var stream []byte
	for range by.Intn(6) {
		length := 1 + by.Intn(12)
		if by.Intn(5) == 0 {
			length = 4090 + by.Intn(7)
		}
		stream = append(stream, framed(uint32(length), counted(length))...)
		if by.Intn(9) == 0 {
			wrong := []uint32{0, 4097, by.Uint32() | 1<<13}
			stream = append(stream, framed(wrong[by.Intn(3)], nil)...)
		}
	}
	if by.Intn(2) == 0 {
		stream = stream[:by.Intn(len(stream)+1)]
	}
	return stream
}

func cutByChance(by *rand.Rand, stream []byte, most int) [][]byte {
	var pieces [][]byte
	for len(stream) > 0 {
		size := min(by.Intn(most+1), len(stream))
		pieces = append(pieces, stream[:size])
		stream = stream[size:]
	}
	return pieces
}

func TestCutsByChance(t *testing.T) {
	by := rand.New(rand.NewSource(20))
	seen := map[bool]int{}
	for range 1500 {
		stream := aStream(by)
		want := model(stream)
		seen[want.broken]++
		feedAll(t, [][]byte{stream}, want)
		feedAll(t, cutByChance(by, stream, 1), want)
		feedAll(t, cutByChance(by, stream, 9), want)
		feedAll(t, cutByChance(by, stream, 5000), want)
	}
	if seen[true] < 100 || seen[false] < 100 {
		t.Errorf("too few of a kind: %v", seen)
	}
}

// Memory

func TestFeedMemory(t *testing.T) {
	stream := whole([]byte("abc"), []byte("d"), counted(40), []byte("efgh"))
	for size := 1; size <= len(stream); size++ {
		r := New()
		var kept, copies [][]byte
		for from := 0; from < len(stream); from += size {
			piece := roomy(stream[from:min(from+size, len(stream))])
			before := bytes.Clone(piece[:cap(piece)])
			payloads, e := r.Feed(piece)
			if e != api.OK || !bytes.Equal(piece[:cap(piece)], before) {
				t.Fatalf("Feed changed its argument, or %d", e)
			}
			overwrite(piece)
			for _, p := range payloads {
				copies = append(copies, bytes.Clone(p))
			}
			kept = append(kept, payloads...)
		}
		if !samePayloads(kept, copies) || !samePayloads(kept, model(stream).payloads) {
			t.Fatalf("pieces of %d: % x", size, kept)
		}
		for i := range kept {
			overwrite(kept[i])
			if !samePayloads(kept[i+1:], copies[i+1:]) {
				t.Fatalf("pieces of %d: the payload %d shares another's memory", size, i)
			}
		}
	}
}

// Who writes over a payload doesn't write over what waits.
func TestPayloadIsNotWhatWaits(t *testing.T) {
	r := New()
	stream := whole([]byte("abc"), []byte("defgh"))
	payloads, _ := r.Feed(stream[:10])
	overwrite(payloads[0])
	wantWaiting(t, r, 3)
	more, e := r.Feed(stream[10:])
	if e != api.OK || !samePayloads(more, [][]byte{[]byte("defgh")}) {
		t.Errorf("% x, %d", more, e)
	}
}

func TestReadersApart(t *testing.T) {
	a, b := New(), New()
	wantFeed(t, a, []byte{0, 0, 0, 2, 1}, nil, api.OK)
	wantFeed(t, b, []byte{0, 0, 0, 0}, nil, api.ErrFrame)
	wantWaiting(t, a, 5)
	wantFeed(t, a, []byte{2}, [][]byte{{1, 2}}, api.OK)
	wantClosed(t, b)
	wantFeed(t, a, nil, nil, api.OK)
}
