// Package pack writes whole numbers as bytes, the highest byte first, and reads
// bytes from the front, piece by piece.
package pack

// Append: p with the lowest size bytes of n behind it.
func Append(p []byte, n uint64, size int) []byte {
	for i := size - 1; i >= 0; i-- {
		p = append(p, byte(n>>(8*i)))
	}
	return p
}

// Number: what at most eight bytes tell.
func Number(p []byte) uint64 {
	n := uint64(0)
	for _, b := range p {
		n = n<<8 | uint64(b)
	}
	return n
}

// Short is the panic of a Reader that has too few bytes. So a form is read
// straight on, and whoever shows a face to callers recovers once for all of it.
type Short struct{}

// Reader has the bytes that were not read yet.
type Reader struct {
	rest []byte
}

// Read: a reader of p, which it looks at where it lies.
func Read(p []byte) *Reader { return &Reader{p} }

// Take: the next n bytes, a piece of what is read. It panics if there are fewer,
// and nothing is read then.
func (r *Reader) Take(n int) []byte {
	if n > len(r.rest) {
		panic(Short{})
	}
	piece := r.rest[:n]
	r.rest = r.rest[n:]
	return piece
}

// Number: of the next size bytes. It panics as Take does.
func (r *Reader) Number(size int) uint64 { return Number(r.Take(size)) }

// Rest: what was not read yet.
func (r *Reader) Rest() []byte { return r.rest }
