package word

import (
	"math/big"
	"regexp"
	"strings"
	"testing"

	"spigot/api"
)

// eachText hands f all texts of up to three of the bytes that stand about the
// edges, and some longer ones.
func eachText(f func(s string)) {
	bytes := "/019:`azA{-+. _\n\x00\xff"
	f("")
	for _, a := range []byte(bytes) {
		f(string([]byte{a}))
		for _, b := range []byte(bytes) {
			f(string([]byte{a, b}))
			for _, c := range []byte(bytes) {
				f(string([]byte{a, b, c}))
			}
		}
	}
	for n := range 40 {
		for _, part := range []string{"0", "1", "9", "z", "9a"} {
			f(strings.Repeat(part, n))
		}
	}
	for _, s := range []string{
		"4611686018427387902", "4611686018427387903", "4611686018427387904", "04611686018427387903",
		"9223372036854775807", "9223372036854775808", "18446744073709551615", "18446744073709551617",
		"é", "٣", "1é", "aé", "abcdefghijklmnop", "abcdefghijklmnopq", "0123456789012345", "01234567890123456",
	} {
		f(s)
	}
}

func TestDigits(t *testing.T) {
	form := regexp.MustCompile(`^[0-9]+\z`)
	eachText(func(s string) {
		if got := Digits(s); got != form.MatchString(s) {
			t.Errorf("Digits(%q) = %v", s, got)
		}
	})
}

func TestWhole(t *testing.T) {
	form := regexp.MustCompile(`^(0|[1-9][0-9]{0,18})\z`)
	eachText(func(s string) {
		want, fits := int64(0), false
		if form.MatchString(s) {
			n, _ := new(big.Int).SetString(s, 10)
			if fits = n.Cmp(big.NewInt(api.Max)) <= 0; fits {
				want = n.Int64()
			}
		}
		if got, ok := Whole(s); got != want || ok != fits {
			t.Errorf("Whole(%q) = %d, %v", s, got, ok)
		}
	})
}

func TestName(t *testing.T) {
	form := regexp.MustCompile(`^[a-z0-9]{1,16}\z`)
	eachText(func(s string) {
		if got := Name(s); got != form.MatchString(s) {
			t.Errorf("Name(%q) = %v", s, got)
		}
	})
}
