package conf

import (
	"math"
	"math/big"
	"math/rand"
	"regexp"
	"strings"
	"testing"

	"spigot/api"
)

// number is the chapter's form of a number's text: what the words aside are told by.
const number = `(-?)([0-9]+)(?:\.([0-9]+))?(?:e(-?[0-9]+))?`

var numberForm = regexp.MustCompile(`^` + number + `\z`)

// modelFloat: the chapter's words, by whole numbers of any length.
func modelFloat(s string) (float64, api.Errno) {
	if len(s) > api.MaxLine {
		return 0, api.ErrLong
	}
	switch s {
	case "nan":
		return math.NaN(), api.OK
	case "inf":
		return math.Inf(1), api.OK
	case "-inf":
		return math.Inf(-1), api.OK
	}
	parts := numberForm.FindStringSubmatch(s)
	if parts == nil {
		return 0, api.ErrText
	}
	digits, _ := new(big.Int).SetString(parts[2]+parts[3], 10)
	tens := new(big.Int)
	if parts[4] != "" {
		tens.SetString(parts[4], 10)
	}
	x := nearest(digits, tens.Sub(tens, big.NewInt(int64(len(parts[3])))))
	if parts[1] == "-" {
		x = math.Copysign(x, -1)
	}
	return x, api.OK
}

// nearest: digits times ten to tens. No text has as many digits as would bring a
// number back that is farther out than these.
func nearest(digits, tens *big.Int) float64 {
	far := big.NewInt(1000)
	switch {
	case digits.Sign() == 0 || tens.CmpAbs(far) > 0 && tens.Sign() < 0:
		return 0
	case tens.CmpAbs(far) > 0:
		return math.Inf(1)
	}
	power := new(big.Int).Exp(big.NewInt(10), new(big.Int).Abs(tens), nil)
	over, under := new(big.Int).Set(digits), big.NewInt(1)
	if tens.Sign() < 0 {
		under = power
	} else {
		over.Mul(over, power)
	}
	return split(over, under)
}

// split: the float64 nearest to over / under, found between all float64s of plus by
// halving: of the two about it the nearer one, or the one whose bits are even.
func split(over, under *big.Int) float64 {
	// Beyond the greatest one the next would be two to the 1024th.
	least, most := uint64(0), math.Float64bits(math.Inf(1))
	for most-least > 1 {
		middle := least + (most-least)/2
		if twice(middle, under).Cmp(new(big.Int).Lsh(over, unit+1)) <= 0 {
			least = middle
		} else {
			most = middle
		}
	}
	// Twice the number against the sum of the two.
	sum := new(big.Int).Add(twice(least, under), twice(most, under))
	side := new(big.Int).Lsh(over, unit+2).Cmp(sum)
	if side > 0 || side == 0 && most%2 == 0 {
		least = most
	}
	return math.Float64frombits(least)
}

// unit: the least float64 is two to minus this.
const unit = 1074

// twice: two times the float64 of these bits, in units of the least one, times under.
func twice(bits uint64, under *big.Int) *big.Int {
	exponent, fraction := bits>>52, bits&(1<<52-1)
	if exponent > 0 {
		fraction |= 1 << 52
		exponent--
	}
	n := new(big.Int).SetUint64(fraction)
	n.Lsh(n, uint(exponent)+1)
	return n.Mul(n, under)
}

// sameFloat: the same bits, or both NaNs.
func sameFloat(x, y float64) bool {
	return math.Float64bits(x) == math.Float64bits(y) || x != x && y != y
}

func checkFloat(t *testing.T, s string) {
	t.Helper()
	want, fault := modelFloat(s)
	if x, e := Float(s); !sameFloat(x, want) || e != fault {
		t.Errorf("Float(%q) = %v, %v; want %v, %v", s, x, e, want, fault)
	}
}

func TestFloatExamples(t *testing.T) {
	minusNought := math.Copysign(0, -1)
	for _, c := range []struct {
		s string
		x float64
		e api.Errno
	}{
		{"0.1", 0.1, 0}, {"1e400", math.Inf(1), 0}, {"-1e400", math.Inf(-1), 0},
		{"-0", minusNought, 0}, {"0", 0, 0}, {"1e-400", 0, 0}, {"-1e-400", minusNought, 0},
		{"007.50", 7.5, 0}, {"9007199254740993", 9007199254740992, 0}, {"9007199254740995", 9007199254740996, 0},
		{"nan", math.NaN(), 0}, {"inf", math.Inf(1), 0}, {"-inf", math.Inf(-1), 0},
		{"1e5", 100000, 0}, {"1e-5", 0.00001, 0}, {"1e0005", 100000, 0}, {"1e-0", 1, 0}, {"-2.5e01", -25, 0},
		{"00", 0, 0}, {"0e9", 0, 0}, {"-0.0e-9", minusNought, 0}, {"0e99999999999999999999", 0, 0},
		{"5e-324", 5e-324, 0}, {"2.5e-324", 5e-324, 0}, {"2.4e-324", 0, 0}, {"-2.4e-324", minusNought, 0},
		{"1.7976931348623157e308", math.MaxFloat64, 0},
		{"1.7976931348623158e308", math.MaxFloat64, 0}, {"1.7976931348623159e308", math.Inf(1), 0},
		{"2.2250738585072011e-308", 0x0.fffffffffffffp-1022, 0}, {"2.2250738585072014e-308", 0x1p-1022, 0},
	} {
		if x, e := Float(c.s); !sameFloat(x, c.x) || e != c.e {
			t.Errorf("Float(%q) = %v, %v; want %v, %v", c.s, x, e, c.x, c.e)
		}
		checkFloat(t, c.s)
	}
}

func TestFloatWrongTexts(t *testing.T) {
	for _, s := range []string{
		"", ".", "-", "e", ".5", "5.", "1e", "1e-", "1e+1", "+1", "+0", "--1", "1-", "-.5", "-5.", "1.e1", ".1e1", "e1", "-e1",
		"Inf", "INF", "-Inf", "+inf", "infinity", "-infinity", "NaN", "NAN", "-nan", "+nan", "nan0", "inf.0", "infe1", "1inf", "in", "na",
		"0x1", "0x1p4", "1p4", "0b1", "0o7", "1_0", "1_000", "1e1_0", "1E5", "1e5e6", "1e5.0", "1.2.3", "1..2", "1,5",
		" 1", "1 ", "1 2", "\n", "1\n", "\t1", "1\x00", "\xff", "١", "1f", "1d", "é",
	} {
		if x, e := Float(s); x != 0 || e != api.ErrText {
			t.Errorf("Float(%q) = %v, %v", s, x, e)
		}
		checkFloat(t, s)
	}
}

func TestFloatLength(t *testing.T) {
	for _, part := range []string{"0", "1", "9", "a", "-", "\xff"} {
		checkFloat(t, strings.Repeat(part, api.MaxLine))
		checkFloat(t, strings.Repeat(part, api.MaxLine+1))
		checkFloat(t, strings.Repeat(part, api.MaxText))
	}
	if _, e := Float(strings.Repeat("a", api.MaxLine+1)); e != api.ErrLong {
		t.Error(e)
	}
	if x, e := Float(strings.Repeat("0", api.MaxLine-1) + "7"); x != 7 || e != api.OK {
		t.Error(x, e)
	}
	// What stands in front, or behind, may be brought back by ten to a great number.
	for n := 300; n <= 392; n++ {
		noughts := strings.Repeat("0", n)
		for _, s := range []string{"0." + noughts + "1e", "1" + noughts + "e-", "1." + noughts + "1e", "1e" + noughts, "1e-" + noughts} {
			for _, tens := range []string{"0", "9", "323", "324", "325", "393", "9999"} {
				checkFloat(t, s+tens)
			}
		}
	}
	for n := 1; n < api.MaxLine; n++ {
		checkFloat(t, "1e"+strings.Repeat("9", n))
		checkFloat(t, "-1e-"+strings.Repeat("9", n))
	}
}

// tie: the number in the middle of a float64 and the next one, with all its digits.
func tie(bits uint64) string {
	over := twice(bits, big.NewInt(1))
	over.Add(over, twice(bits+1, big.NewInt(1)))
	// over is in quarters of the least float64: five to the same number brings
	// these to tens.
	const places = unit + 2
	over.Mul(over, new(big.Int).Exp(big.NewInt(5), big.NewInt(places), nil))
	s := over.String()
	if len(s) <= places {
		s = strings.Repeat("0", places+1-len(s)) + s
	}
	ahead, behind := s[:len(s)-places], strings.TrimRight(s[len(s)-places:], "0")
	if behind == "" {
		return ahead
	}
	return ahead + "." + behind
}

// scaled: a text of digits and a point as one without noughts in front, with an e.
func scaled(s string) (string, int) {
	ahead, behind, _ := strings.Cut(s, ".")
	digits := strings.TrimLeft(ahead+behind, "0")
	return digits, -len(behind)
}

// about: texts of a number, cut to what a text may have, and of those beside it.
func about(s string) []string {
	digits, tens := scaled(s)
	const room = api.MaxLine - 8
	if len(digits) > room {
		tens += len(digits) - room
		digits = digits[:room]
	}
	n, _ := new(big.Int).SetString(digits, 10)
	texts := []string{s}
	for by := int64(-1); by <= 1; by++ {
		beside := new(big.Int).Add(n, big.NewInt(by)).String()
		texts = append(texts, beside+"e"+big.NewInt(int64(tens)).String(), "-"+beside+"e"+big.NewInt(int64(tens)).String())
	}
	for _, last := range []string{"0", "1", "0000000000000000000000001"} {
		if len(digits) < room-30 {
			texts = append(texts, digits+"."+last+"e"+big.NewInt(int64(tens)).String())
		}
	}
	return texts
}

func TestFloatTies(t *testing.T) {
	chance := rand.New(rand.NewSource(1))
	edges := []uint64{0, 1, 2, 1<<52 - 2, 1<<52 - 1, 1 << 52, 1<<52 + 1, 0x7feffffffffffffe, 0x7fefffffffffffff,
		math.Float64bits(1) - 1, math.Float64bits(1), 1023<<52 + 52<<52, 1023<<52 + 53<<52, 1023<<52 + 64<<52}
	for range 600 {
		edges = append(edges, chance.Uint64()%0x7ff0000000000000)
		// Those with few digits have their ties told whole.
		edges = append(edges, math.Float64bits(float64(1+chance.Int63n(1<<chance.Intn(62)+1))))
		edges = append(edges, math.Float64bits(float64(1+chance.Int63())*math.Ldexp(1, chance.Intn(900)-300)))
	}
	for _, bits := range edges {
		for _, s := range about(tie(bits)) {
			checkFloat(t, s)
		}
	}
	// Where the greatest one ends, all digits fit.
	last := tie(math.Float64bits(math.MaxFloat64))
	if x, e := Float(last); !math.IsInf(x, 1) || e != api.OK || len(last) > api.MaxLine {
		t.Error(x, e)
	}
	if x, e := Float("-" + last); !math.IsInf(x, -1) || e != api.OK {
		t.Error(x, e)
	}
	n, _ := new(big.Int).SetString(last, 10)
	below := n.Sub(n, big.NewInt(1)).String() + "." + strings.Repeat("9", 80)
	if x, e := Float(below); x != math.MaxFloat64 || e != api.OK {
		t.Error(x, e)
	}
}

// chanceNumber: a text that often is a number's.
func chanceNumber(chance *rand.Rand) string {
	digits := func(most int) string {
		s := []byte{}
		for range 1 + chance.Intn(most) {
			s = append(s, "0123456789"[chance.Intn(10)])
		}
		return string(s)
	}
	s := ""
	if chance.Intn(3) == 0 {
		s = "-"
	}
	s += digits(1 << chance.Intn(9))
	if chance.Intn(2) == 0 {
		s += "." + digits(1<<chance.Intn(9))
	}
	if chance.Intn(2) == 0 {
		s += "e"
		if chance.Intn(2) == 0 {
			s += "-"
		}
		s += digits(4)
	}
	if chance.Intn(8) == 0 {
		at := chance.Intn(len(s) + 1)
		s = s[:at] + []string{".", "e", "-", "+", " ", "_", "x", "nan", "inf"}[chance.Intn(9)] + s[at:]
	}
	return s
}

func TestFloatByChance(t *testing.T) {
	chance := rand.New(rand.NewSource(2))
	for range 10000 {
		checkFloat(t, chanceNumber(chance))
	}
	pieces := []string{"nan", "inf", "-", "e", ".", "0", "1", "9", "00", "+", "E", "_"}
	for range 10000 {
		s := ""
		for range chance.Intn(6) {
			s += pieces[chance.Intn(len(pieces))]
		}
		checkFloat(t, s)
	}
}
