package conf

import (
	"math/big"
	"math/rand"
	"regexp"
	"strconv"
	"strings"
	"testing"

	"spigot/api"
	"spigot/rate"
)

// The chapter's form of the three lines, told by patterns.
const (
	name   = `([a-z0-9]{1,16})`
	whole  = `(0|[1-9][0-9]{0,18})`
	float  = `(nan|inf|-inf|-?[0-9]+(?:\.[0-9]+)?(?:e-?[0-9]+)?)`
	ending = `\n\z`
)

var (
	rateForm  = regexp.MustCompile(`^rate ` + name + ` ` + float + ` ` + float + ` ` + whole + ending)
	limitForm = regexp.MustCompile(`^limit ` + name + ` ` + whole + ` ` + whole + ending)
	semaForm  = regexp.MustCompile(`^sema ` + name + ` ` + whole + ending)
)

// modelParse: the chapter's words, line by line.
func modelParse(s string) ([]Named, int, api.Errno) {
	if len(s) > api.MaxText || len(strings.Split(s, "\n")) > api.MaxPolicies+1 {
		return nil, 0, api.ErrLong
	}
	var list []Named
	names := map[string]int{}
	for i, line := range strings.SplitAfter(s, "\n") {
		if line == "" {
			continue
		}
		named, fault := modelLine(line)
		if _, had := names[named.Name]; had && fault == api.OK {
			fault = api.ErrExists
		}
		if fault != api.OK {
			return nil, i + 1, fault
		}
		names[named.Name] = i
		list = append(list, named)
	}
	return list, 0, api.OK
}

// tickOf: a whole number of the form; -1, if it is above api.Max.
func tickOf(s string) int64 {
	n, _ := new(big.Int).SetString(s, 10)
	if n.Cmp(big.NewInt(api.Max)) > 0 {
		return -1
	}
	return n.Int64()
}

func modelLine(line string) (Named, api.Errno) {
	if w := rateForm.FindStringSubmatch(line); w != nil {
		many, e := modelFloat(w[2])
		more, f := modelFloat(w[3])
		hz := tickOf(w[4])
		if e != api.OK || f != api.OK || hz < 0 {
			return Named{}, api.ErrText
		}
		l, fault := rate.Of(rate.Rate{PerSecond: many, Burst: more, Hz: hz})
		return limited(w[1], l.T, l.Tau), fault
	}
	if w := limitForm.FindStringSubmatch(line); w != nil {
		gap, ahead := tickOf(w[2]), tickOf(w[3])
		switch {
		case gap < 0 || ahead < 0:
			return Named{}, api.ErrText
		case gap == 0:
			return Named{}, api.ErrForm
		}
		return limited(w[1], gap, ahead), api.OK
	}
	if w := semaForm.FindStringSubmatch(line); w != nil {
		n := tickOf(w[2])
		switch {
		case n < 0:
			return Named{}, api.ErrText
		case n == 0 || n > api.MaxPermits:
			return Named{}, api.ErrForm
		}
		return permits(w[1], int(n)), api.OK
	}
	return Named{}, api.ErrText
}

// chanceWhole: a number of a line, seldom one that is none.
func chanceWhole(chance *rand.Rand) string {
	words := []string{"0", "1", "2", "64", "65", "1000", "1000000000", "1000000001", "4611686018427387903", "4611686018427387904", "01", "-1", "x"}
	if chance.Intn(3) > 0 {
		return strconv.Itoa(1 + chance.Intn(64))
	}
	return words[chance.Intn(len(words))]
}

func chanceFloat(chance *rand.Rand) string {
	words := []string{"0", "-0", "1", "nan", "inf", "-inf", "-1", "1e300", "1e-300", "1e400", ".5", "1e", "2.50", "007"}
	switch chance.Intn(6) {
	case 0:
		return words[chance.Intn(len(words))]
	case 1:
		return chanceNumber(chance)
	}
	return strconv.Itoa(1+chance.Intn(99)) + "." + strconv.Itoa(chance.Intn(1000))
}

// chanceLine: a line that mostly is of the form.
func chanceLine(chance *rand.Rand) string {
	named := "n" + strconv.Itoa(chance.Intn(40))
	if chance.Intn(30) == 0 {
		named = []string{"", "A", "abcdefghijklmnop", "abcdefghijklmnopq", "a b", "é", "0"}[chance.Intn(7)]
	}
	line := ""
	switch chance.Intn(3) {
	case 0:
		line = "rate " + named + " " + chanceFloat(chance) + " " + chanceFloat(chance) + " " + chanceWhole(chance)
	case 1:
		line = "limit " + named + " " + chanceWhole(chance) + " " + chanceWhole(chance)
	case 2:
		line = "sema " + named + " " + chanceWhole(chance)
	}
	if chance.Intn(25) == 0 {
		at := chance.Intn(len(line) + 1)
		line = line[:at] + []string{" ", "\n", "\r", "0", "", "\x00", "-"}[chance.Intn(7)] + line[at:]
	}
	if chance.Intn(25) == 0 {
		line = line[:chance.Intn(len(line)+1)]
	}
	return line
}

func TestParseByChance(t *testing.T) {
	chance := rand.New(rand.NewSource(3))
	seen := map[api.Errno]int{}
	for range 20000 {
		text := ""
		for range chance.Intn(1 + chance.Intn(36)) {
			text += chanceLine(chance) + "\n"
		}
		if chance.Intn(10) == 0 && text != "" {
			text = text[:len(text)-1]
		}
		list, line, fault := modelParse(text)
		checkParse(t, text, list, line, fault)
		seen[fault]++
		if fault == api.OK {
			back, e := Write(list)
			if e != api.OK {
				t.Fatalf("Write(%v): %v", list, e)
			}
			checkWrite(t, list, back, api.OK)
		}
	}
	for _, e := range []api.Errno{api.OK, api.ErrArg, api.ErrLong, api.ErrForm, api.ErrNaN, api.ErrRange, api.ErrExists, api.ErrText} {
		if seen[e] < 20 {
			t.Errorf("the error %d came %d times", e, seen[e])
		}
	}
}

// TestWriteByChance: what is written is what the list tells, and comes back.
func TestWriteByChance(t *testing.T) {
	chance := rand.New(rand.NewSource(4))
	for range 5000 {
		list, want := []Named{}, ""
		for i := range chance.Intn(api.MaxPolicies + 1) {
			named := strconv.FormatInt(int64(i)<<chance.Intn(40), 36) + "x" + strconv.Itoa(i)
			n := Named{named, api.Policy{
				Kind:    byte(1 + chance.Intn(2)),
				Limit:   api.Limit{T: 1 + chance.Int63n(1<<chance.Intn(62)), Tau: chance.Int63n(1 << chance.Intn(62))},
				Permits: 1 + chance.Intn(api.MaxPermits),
			}}
			if n.Policy.Kind == api.KindRate {
				want += "limit " + named + " " + digits(n.Policy.Limit.T) + " " + digits(n.Policy.Limit.Tau) + "\n"
			} else {
				want += "sema " + named + " " + strconv.Itoa(n.Policy.Permits) + "\n"
			}
			list = append(list, n)
		}
		checkWrite(t, list, want, api.OK)
		for i, n := range list {
			if at, e := Find(list, n.Name); at != i || e != api.OK {
				t.Fatal(at, e)
			}
		}
	}
}
