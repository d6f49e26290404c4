package wide

import (
	"math"
	"math/big"
	"testing"

	"spigot/api"
)

var words = []uint64{
	0, 1, 2, 3, 5, 10, 1<<31 - 1, 1 << 32, 1<<53 - 1, 1<<53 + 1, 1<<62 - 1, 1 << 62,
	1<<63 - 1, 1 << 63, 1<<63 + 1, 0x5555555555555555, 0xaaaaaaaaaaaaaaab, math.MaxUint64 - 1, math.MaxUint64,
}

// eachNum hands every pair of words to f as one number, and the same as a big one.
func eachNum(f func(n Num, b *big.Int)) {
	for _, hi := range words {
		for _, lo := range words {
			n := Num{hi, lo}
			f(n, toBig(n))
		}
	}
}

func toBig(n Num) *big.Int {
	b := new(big.Int).SetUint64(n.Hi)
	return b.Lsh(b, 64).Or(b, new(big.Int).SetUint64(n.Lo))
}

// rounded: a / b, rounded by how.
func rounded(a, b *big.Int, how int) *big.Int {
	q, rest := new(big.Int).QuoRem(a, b, new(big.Int))
	side := new(big.Int).Lsh(rest, 1).Cmp(b)
	switch {
	case how == Up && rest.Sign() > 0,
		how == Nearest && (side > 0 || side == 0 && q.Bit(0) == 1):
		q.Add(q, big.NewInt(1))
	}
	return q
}

func TestProduct(t *testing.T) {
	for _, a := range words {
		for _, b := range words {
			want := new(big.Int).Mul(new(big.Int).SetUint64(a), new(big.Int).SetUint64(b))
			if got := Product(a, b); toBig(got).Cmp(want) != 0 {
				t.Errorf("Product(%d, %d) = %v", a, b, got)
			}
		}
	}
}

func TestScale(t *testing.T) {
	one := big.NewInt(1)
	exps := []int{-1074, -200, -129, -128, -127, -65, -64, -63, -62, -3, -2, -1, 0, 1, 2, 63, 64, 65, 127, 128, 200, 971, 1074}
	eachNum(func(n Num, b *big.Int) {
		for _, e := range exps {
			for how := Down; how <= Nearest; how++ {
				over, under := new(big.Int).Set(b), one
				if e < 0 {
					under = new(big.Int).Lsh(one, uint(-e))
				} else {
					over.Lsh(over, uint(e))
				}
				want := rounded(over, under, how)
				fits := want.BitLen() <= 128
				if !fits {
					want = new(big.Int)
				}
				if got, ok := n.Scale(e, how); ok != fits || toBig(got).Cmp(want) != 0 {
					t.Errorf("%x.Scale(%d, %d) = %x, %v", n, e, how, got, ok)
				}
			}
		}
	})
}

func TestCeil(t *testing.T) {
	eachNum(func(n Num, b *big.Int) {
		for _, d := range words[1:] {
			want := rounded(b, new(big.Int).SetUint64(d), Up)
			if got := n.Ceil(d); toBig(got).Cmp(want) != 0 {
				t.Errorf("%x.Ceil(%d) = %x", n, d, got)
			}
		}
	})
}

func TestTick(t *testing.T) {
	eachNum(func(n Num, b *big.Int) {
		fits := b.Cmp(big.NewInt(api.Max)) <= 0
		want := int64(0)
		if fits {
			want = b.Int64()
		}
		if got, ok := n.Tick(); got != want || ok != fits {
			t.Errorf("%x.Tick() = %d, %v", n, got, ok)
		}
	})
}
