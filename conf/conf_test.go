package conf

import (
	"math"
	"reflect"
	"slices"
	"strconv"
	"strings"
	"testing"

	"spigot/api"
)

func limited(name string, t, tau int64) Named {
	return Named{name, api.Policy{Kind: api.KindRate, Limit: api.Limit{T: t, Tau: tau}}}
}

func permits(name string, n int) Named {
	return Named{name, api.Policy{Kind: api.KindSema, Permits: n}}
}

// sameList: nil and empty lists are the same.
func sameList(a, b []Named) bool { return slices.Equal(a, b) }

func checkParse(t *testing.T, s string, list []Named, line int, fault api.Errno) {
	t.Helper()
	got, at, e := Parse(s)
	if !sameList(got, list) || at != line || e != fault {
		t.Errorf("Parse(%.200q) = %v, %d, %v; want %v, %d, %v", s, got, at, e, list, line, fault)
	}
}

func TestParseExamples(t *testing.T) {
	checkParse(t, "rate api 2.5 3 1000\nsema db 4\n", []Named{limited("api", 400, 1200), permits("db", 4)}, 0, api.OK)
	checkParse(t, "rate api 2.5 3 1000\nsema db 4", nil, 2, api.ErrText)
	checkParse(t, "rate api 2.5 3 1000\nsema api 4\n", nil, 2, api.ErrExists)
	checkParse(t, "rate a 0 1 1\n", nil, 1, api.ErrRange)
	checkParse(t, "rate a nan 1 1\n", nil, 1, api.ErrNaN)
	checkParse(t, "sema a 0\n", nil, 1, api.ErrForm)
	checkParse(t, "sema a 04\n", nil, 1, api.ErrText)
	checkParse(t, "sema A 4\n", nil, 1, api.ErrText)
	checkParse(t, "\n", nil, 1, api.ErrText)
	checkParse(t, "", nil, 0, api.OK)
}

func TestParseLines(t *testing.T) {
	for s, want := range map[string]Named{
		"rate a 1 0 1\n":          limited("a", 1, 0),
		"rate a 3 0 1000\n":       limited("a", 334, 0),
		"rate a 1e300 1 1\n":      limited("a", 1, 1),
		"rate a 0.1 0.5 10\n":     limited("a", 100, 50),
		"rate a 1 -0 1\n":         limited("a", 1, 0),
		"rate a 1 -0.0e5 1\n":     limited("a", 1, 0),
		"rate a 1e-400 1 1\n":     {},
		"rate a 1 1 1000000000\n": limited("a", 1000000000, 1000000000),
		"rate rate 1 0 1\n":       limited("rate", 1, 0),
		"rate 0 1 0 1\n":          limited("0", 1, 0),
		"rate a 001.0 000 1\n":    limited("a", 1, 0),
		"limit a 1 0\n":           limited("a", 1, 0),
		"limit limit 400 1200\n":  limited("limit", 400, 1200),
		"limit a 4611686018427387903 4611686018427387903\n": limited("a", api.Max, api.Max),
		"sema a 1\n":                permits("a", 1),
		"sema sema 64\n":            permits("sema", 64),
		"sema abcdefghijklmnop 2\n": permits("abcdefghijklmnop", 2),
		"sema qrstuvwxyz012345 2\n": permits("qrstuvwxyz012345", 2),
		"sema 6789 2\n":             permits("6789", 2),
		"rate a " + strings.Repeat("0", api.MaxLine-1) + "1 0 1\n":  limited("a", 1, 0),
		"rate a 1 " + strings.Repeat("0", api.MaxLine-1) + "7 10\n": limited("a", 10, 70),
	} {
		if want == (Named{}) {
			// Below half the least float64 it is nought, and that is no rate.
			checkParse(t, s, nil, 1, api.ErrRange)
			continue
		}
		checkParse(t, s, []Named{want}, 0, api.OK)
		// The same where it is not the first one, and where it has no end.
		checkParse(t, "sema ahead 1\n"+s, []Named{permits("ahead", 1), want}, 0, api.OK)
		checkParse(t, strings.TrimSuffix(s, "\n"), nil, 1, api.ErrText)
		checkParse(t, s+s, nil, 2, api.ErrExists)
		checkParse(t, s+"\n", nil, 2, api.ErrText)
	}
}

func TestParseWrongForm(t *testing.T) {
	for _, s := range []string{
		"rate", "limit", "sema", "rate a", "rate a 1", "rate a 1 1", "rate a 1 1 1 1", "rate a 1 1 1 ", "rate a 1 1  1",
		"limit a", "limit a 1", "limit a 1 1 1", "sema a", "sema a 1 1", "sema a 1 ", " sema a 1", "sema  a 1", "sema a  1",
		"sema\ta 1", "sema a\t1", "sema a 1\r", "sema a 1\x00", "sema a\x00 1", "sema a\xa01", " ", "  ", "a", "a a", "a a 1", "x a 1 1", "x a 1 1 1",
		"Sema a 1", "SEMA a 1", "semas a 1", "sem a 1", "rates a 1 1 1", "Rate a 1 1 1", "limits a 1 1", "policy a 1",
		"sema abcdefghijklmnopq 1", "sema a- 1", "sema a_b 1", "sema aB 1", "sema é 1", "sema a/ 1", "sema a: 1", "sema ` 1", "sema { 1", "sema  1",
		"sema a -1", "sema a +1", "sema a 1.0", "sema a 1e0", "sema a x", "sema a 00", "sema a 01", "sema a 0x1", "sema a 1_0", "sema a nan",
		"sema a 4611686018427387904", "sema a 9223372036854775808", "sema a 18446744073709551617", "sema a 10000000000000000000",
		"limit a 01 1", "limit a 1 01", "limit a -1 1", "limit a 1 -1", "limit a 1 -0", "limit a 1.5 1", "limit a 1 1.5",
		"limit a 4611686018427387904 1", "limit a 1 4611686018427387904", "limit a inf 1", "limit a 1 nan", "limit a  1",
		"rate a .5 1 1", "rate a 1 5. 1", "rate a 1 1 1.0", "rate a 1 1 01", "rate a 1 1 1e3", "rate a 1 1 -1", "rate a 1 1 4611686018427387904",
		"rate a +1 1 1", "rate a 1 1e 1", "rate a Inf 1 1", "rate a NaN 1 1", "rate a 1 -nan 1", "rate a 1 1 nan", "rate A 1 1 1", "rate  1 1 1",
		"rate a " + strings.Repeat("1", api.MaxLine+1) + " 1 1", "rate a 1 " + strings.Repeat("0", api.MaxLine+1) + " 1",
	} {
		checkParse(t, s+"\n", nil, 1, api.ErrText)
		checkParse(t, s, nil, 1, api.ErrText)
		checkParse(t, "sema a1 1\n"+s+"\n", nil, 2, api.ErrText)
	}
}

// What a line would be told of, were it of the form, is not asked of one that isn't.
func TestParseFormFirst(t *testing.T) {
	for _, s := range []string{
		"rate a nan 1 1", "rate a nan 1 01\n", "rate A nan 1 1\n", "rate a 1 1 0", "rate a 0 .5 1\n", "rate a 1 inf 1 \n",
		"sema A 0\n", "sema a 0", "sema a 65 \n", "limit a 0 01\n", "limit A 0 1\n", "limit a 0 1",
		"sema api 1", "sema api 04\n", "sema api\n", "rate api 1 1\n",
	} {
		checkParse(t, "sema api 4\n"+s, nil, 2, api.ErrText)
	}
}

func TestParseLeastError(t *testing.T) {
	for s, fault := range map[string]api.Errno{
		"rate a 1 1 0":              api.ErrArg,
		"rate a 1 1 1000000001":     api.ErrArg,
		"rate a nan inf 0":          api.ErrArg,
		"rate api nan -1 0":         api.ErrArg,
		"rate a 0 nan 1":            api.ErrNaN,
		"rate api nan nan 1":        api.ErrNaN,
		"rate api inf nan 1":        api.ErrNaN,
		"rate a inf 1 1":            api.ErrRange,
		"rate a -inf 1 1":           api.ErrRange,
		"rate a 1e309 1 1":          api.ErrRange,
		"rate a -1 1 1":             api.ErrRange,
		"rate a -0 1 1":             api.ErrRange,
		"rate a 1 -1 1":             api.ErrRange,
		"rate a 1 -1e-300 1":        api.ErrRange,
		"rate a 1 inf 1":            api.ErrRange,
		"rate a 1 1e300 1":          api.ErrRange,
		"rate a 1e-300 0 1":         api.ErrRange,
		"rate api 0 0 1":            api.ErrRange,
		"rate api 1 0 1":            api.ErrExists,
		"limit a 0 0":               api.ErrForm,
		"limit api 0 5":             api.ErrForm,
		"limit api 1 0":             api.ErrExists,
		"sema a 0":                  api.ErrForm,
		"sema a 65":                 api.ErrForm,
		"sema a 4294967297":         api.ErrForm,
		"sema a " + digits(api.Max): api.ErrForm,
		"sema api 0":                api.ErrForm,
		"sema api 65":               api.ErrForm,
		"sema api 64":               api.ErrExists,
	} {
		checkParse(t, "rate api 2.5 3 1000\n"+s+"\n", nil, 2, fault)
		// The first line that has an error, whatever those behind it have.
		checkParse(t, "rate api 2.5 3 1000\n"+s+"\nrate b 1 1 0\n", nil, 2, fault)
		checkParse(t, "rate api 2.5 3 1000\nsema\n"+s+"\n", nil, 2, api.ErrText)
	}
}

func digits(n int64) string { return strconv.FormatInt(n, 10) }

func TestParseLength(t *testing.T) {
	checkParse(t, strings.Repeat("a", api.MaxText), nil, 1, api.ErrText)
	checkParse(t, strings.Repeat("a", api.MaxText+1), nil, 0, api.ErrLong)
	full := strings.Repeat("0", api.MaxText-len("rate a 1 0 1\n"))
	checkParse(t, "rate a 1 "+full+"0 1\n", nil, 1, api.ErrText)
	checkParse(t, "rate a 1 "+full+"00 1\n", nil, 0, api.ErrLong)
	checkParse(t, strings.Repeat("\n", api.MaxPolicies), nil, 1, api.ErrText)
	checkParse(t, strings.Repeat("\n", api.MaxPolicies+1), nil, 0, api.ErrLong)

	text, list := "", []Named{}
	for i := range api.MaxPolicies {
		name := "p" + strconv.Itoa(i)
		text += "sema " + name + " 1\n"
		list = append(list, permits(name, 1))
	}
	checkParse(t, text, list, 0, api.OK)
	checkParse(t, text+"x", nil, api.MaxPolicies+1, api.ErrText)
	checkParse(t, text+"sema q 1", nil, api.MaxPolicies+1, api.ErrText)
	checkParse(t, text+"sema q 1\n", nil, 0, api.ErrLong)
	checkParse(t, text+"\n", nil, 0, api.ErrLong)
	last := strings.LastIndex(text, "sema")
	checkParse(t, text[:last]+"sema p0 1\n", nil, api.MaxPolicies, api.ErrExists)
}

func TestParseAnswersAreNew(t *testing.T) {
	text := "limit a 1 2\nsema b 3\n"
	first, _, _ := Parse(text)
	second, _, _ := Parse(text)
	clear(first[:cap(first)])
	checkParse(t, text, second, 0, api.OK)
}

func TestWriteExamples(t *testing.T) {
	list, _, _ := Parse("rate api 2.5 3 1000\nsema db 4\n")
	checkWrite(t, list, "limit api 400 1200\nsema db 4\n", api.OK)
	checkWrite(t, nil, "", api.OK)
	checkWrite(t, []Named{}, "", api.OK)
	checkWrite(t, []Named{limited("a", api.Max, 0)}, "limit a 4611686018427387903 0\n", api.OK)
	checkWrite(t, []Named{limited("a", 1, api.Max), permits("0z", 64), permits("limit", 1)}, "limit a 1 4611686018427387903\nsema 0z 64\nsema limit 1\n", api.OK)
	// Fields of the other kind are not looked at.
	checkWrite(t, []Named{
		{"a", api.Policy{Kind: api.KindRate, Limit: api.Limit{T: 1, Tau: 2}, Permits: -7}},
		{"b", api.Policy{Kind: api.KindSema, Limit: api.Limit{T: -1, Tau: -2}, Permits: 7}},
	}, "limit a 1 2\nsema b 7\n", api.OK)
}

func checkWrite(t *testing.T, list []Named, text string, fault api.Errno) {
	t.Helper()
	before := slices.Clone(list)
	if s, e := Write(list); s != text || e != fault {
		t.Errorf("Write(%v) = %q, %v; want %q, %v", list, s, e, text, fault)
	}
	if !slices.Equal(list, before) {
		t.Errorf("Write made %v of %v", list, before)
	}
	if fault != api.OK {
		return
	}
	for i, n := range before {
		if n.Policy.Kind == api.KindRate {
			before[i].Policy.Permits = 0
		} else {
			before[i].Policy.Limit = api.Limit{}
		}
	}
	checkParse(t, text, before, 0, api.OK)
}

func TestWriteErrors(t *testing.T) {
	many := []Named{}
	for i := range api.MaxPolicies + 1 {
		many = append(many, permits("p"+strconv.Itoa(i), i%api.MaxPermits+1))
	}
	if _, e := Write(many[:api.MaxPolicies]); e != api.OK {
		t.Error(e)
	}
	checkWrite(t, many, "", api.ErrLong)
	checkWrite(t, make([]Named, api.MaxPolicies+1), "", api.ErrLong)
	checkWrite(t, make([]Named, api.MaxPolicies), "", api.ErrForm)
	good := limited("a", 1, 2)
	for _, bad := range []Named{
		limited("b", 0, 0), limited("b", -1, 0), limited("b", api.Max+1, 0), limited("b", 1, -1), limited("b", 1, api.Max+1), limited("b", math.MinInt64, math.MaxInt64),
		permits("b", 0), permits("b", -1), permits("b", 65), permits("b", math.MaxInt), permits("b", math.MinInt),
		{"b", api.Policy{}}, {"b", api.Policy{Kind: 3, Limit: good.Policy.Limit, Permits: 1}}, {"b", api.Policy{Kind: 255, Limit: good.Policy.Limit, Permits: 1}},
		permits("", 1), permits("A", 1), permits("a b", 1), permits("b\n", 1), permits("b ", 1), permits("abcdefghijklmnopq", 1), permits("é", 1), permits("\xff", 1),
		limited("", 1, 1), limited("a-", 1, 1), limited(strings.Repeat("a", 70000), 1, 1),
	} {
		checkWrite(t, []Named{bad}, "", api.ErrForm)
		checkWrite(t, []Named{good, bad}, "", api.ErrForm)
		checkWrite(t, []Named{bad, good}, "", api.ErrForm)
		checkWrite(t, []Named{good, good, bad}, "", api.ErrForm)
		checkWrite(t, []Named{bad, bad}, "", api.ErrForm)
	}
	checkWrite(t, []Named{good, good}, "", api.ErrExists)
	checkWrite(t, []Named{good, permits("a", 1)}, "", api.ErrExists)
	checkWrite(t, []Named{good, permits("b", 1), permits("c", 1), permits("b", 2)}, "", api.ErrExists)
}

func TestFind(t *testing.T) {
	list := []Named{limited("api", 400, 1200), permits("db", 4), permits("db", 5), {}, {Name: "A b", Policy: api.Policy{Kind: 9}}}
	before := slices.Clone(list)
	for _, c := range []struct {
		list []Named
		name string
		i    int
		e    api.Errno
	}{
		{list, "api", 0, api.OK}, {list, "db", 1, api.OK}, {list, "", 3, api.OK}, {list, "A b", 4, api.OK},
		{list, "ap", 0, api.ErrNone}, {list, "apis", 0, api.ErrNone}, {list, "API", 0, api.ErrNone}, {list, "c", 0, api.ErrNone},
		{nil, "", 0, api.ErrNone}, {nil, "api", 0, api.ErrNone}, {[]Named{}, "api", 0, api.ErrNone}, {list[2:], "db", 0, api.OK},
	} {
		if i, e := Find(c.list, c.name); i != c.i || e != c.e {
			t.Errorf("Find(%v, %q) = %d, %v; want %d, %v", c.list, c.name, i, e, c.i, c.e)
		}
	}
	if !slices.Equal(list, before) {
		t.Error(list)
	}
}

func TestTable(t *testing.T) {
	list := []Named{
		limited("a", 1, 2), permits("b", 3), permits("b", 3), {}, limited("?", -1, -2),
		{"c", api.Policy{Kind: api.KindSema, Limit: api.Limit{T: 7, Tau: 8}, Permits: 9}},
	}
	before := slices.Clone(list)
	want := []api.Policy{}
	for _, n := range list {
		want = append(want, n.Policy)
	}
	got := Table(list)
	if !reflect.DeepEqual(got, want) {
		t.Errorf("Table(%v) = %v", list, got)
	}
	clear(got[:cap(got)])
	if again := Table(list); !reflect.DeepEqual(again, want) || !slices.Equal(list, before) {
		t.Error(again, list)
	}
	if got := Table(nil); len(got) != 0 {
		t.Error(got)
	}
	if got := Table(make([]Named, 1000)); len(got) != 1000 || got[999] != (api.Policy{}) {
		t.Error(len(got))
	}
}
