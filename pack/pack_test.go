package pack

import (
	"bytes"
	"encoding/binary"
	"testing"
)

func TestAppend(t *testing.T) {
	numbers := []uint64{0, 1, 0x61, 0xff, 0x100, 0x0102030405060708, 1<<62 - 1, 1 << 63, 1<<64 - 1}
	for _, n := range numbers {
		whole := binary.BigEndian.AppendUint64(nil, n)
		for size := 0; size <= 8; size++ {
			want := append([]byte("ab"), whole[8-size:]...)
			if got := Append([]byte("ab"), n, size); !bytes.Equal(got, want) {
				t.Errorf("Append(ab, %#x, %d) = % x, not % x", n, size, got, want)
			}
			mask := uint64(1)<<(8*size) - 1
			if got := Number(whole[8-size:]); got != n&mask {
				t.Errorf("Number(% x) = %#x, not %#x", whole[8-size:], got, n&mask)
			}
		}
	}
}

// short: does do panic with Short? Any other panic goes out.
func short(do func()) (was bool) {
	defer func() {
		if end := recover(); end != nil {
			_, was = end.(Short)
			if !was {
				panic(end)
			}
		}
	}()
	do()
	return false
}

func TestReader(t *testing.T) {
	r := Read([]byte{1, 2, 3, 4, 5, 6})
	if got := r.Number(2); got != 0x0102 {
		t.Fatalf("Number(2) = %#x", got)
	}
	if got := r.Take(3); !bytes.Equal(got, []byte{3, 4, 5}) {
		t.Fatalf("Take(3) = % x", got)
	}
	if !short(func() { r.Take(2) }) || !short(func() { r.Number(2) }) {
		t.Fatal("two bytes were read, where one is left")
	}
	if !bytes.Equal(r.Rest(), []byte{6}) {
		t.Fatalf("Rest() = % x: a piece that isn't there took some", r.Rest())
	}
	if got := r.Take(1); !bytes.Equal(got, []byte{6}) {
		t.Fatalf("Take(1) = % x", got)
	}
	if len(r.Take(0)) != 0 || r.Number(0) != 0 || len(r.Rest()) != 0 {
		t.Fatal("at the end there is something left")
	}
	if !short(func() { r.Take(1) }) {
		t.Fatal("a byte was read behind the end")
	}
	if !short(func() { Read(nil).Number(1) }) {
		t.Fatal("a byte was read, of none")
	}
}
