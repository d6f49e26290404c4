package shell

import (
	"reflect"
	"slices"
	"strconv"
	"strings"
	"testing"

	"spigot/api"
	"spigot/conf"
	"spigot/token"
)

// The table of chapter 24's second example.
const example = "rate api 2.5 3 1000\nsema db 4\n"

// textOf is the text of a token.
func textOf(t *testing.T, policy int, key string, serial int64) string {
	t.Helper()
	p, fault := token.Encode(api.Token{Policy: policy, Key: []byte(key), Serial: serial})
	if fault != api.OK {
		t.Fatal(fault)
	}
	return token.Hex(p)
}

func listOf(t *testing.T, table string) []conf.Named {
	t.Helper()
	list, _, fault := conf.Parse(table)
	if fault != api.OK {
		t.Fatal(fault)
	}
	return list
}

// plays runs a script that is told line by line, each with its answer behind it.
func plays(t *testing.T, table string, cells int, pairs ...string) {
	t.Helper()
	script, want := "", ""
	for i := 0; i < len(pairs); i += 2 {
		script += pairs[i] + "\n"
		want += pairs[i+1] + "\n"
	}
	got, fault := Run(table, script, cells)
	if fault != api.OK {
		t.Fatal(fault)
	}
	if got == want {
		return
	}
	lines, wants := strings.Split(got, "\n"), strings.Split(want, "\n")
	for i := range min(len(lines), len(wants)) {
		if lines[i] != wants[i] {
			t.Fatalf("line %d, %.80q: %q, not %q", i, pairs[2*i], lines[i], wants[i])
		}
	}
	t.Fatalf("%d answers, not %d", len(lines)-1, len(wants)-1)
}

func TestExamples(t *testing.T) {
	held := textOf(t, 1, "k", 1)
	plays(t, example, 9,
		"allow api bob 4", "yes 0",
		"allow api bob 1", "no 400",
		"allow api bob 5", "no never",
		"tick 400", "now 400",
		"allow api bob 1", "yes 0",
		"peek api bob", "left 0 wait 1600",
		"acquire db k", held,
		"release "+held, "free 4",
		"release "+held, "error 11",
		"peek db k", "free 4",
		"acquire api k", "error 6",
		"allow nobody k 1", "error 16",
		"allow api", "error 15",
		"", "error 15",
		"cells", "cells 2",
		"tick 1600", "now 2000",
		"evict", "gone 2",
		"split", "level 1",
		"count", "count 0",
	)
	if got, fault := Run("x", "cells\n", 5); got != "" || fault != api.ErrText {
		t.Error(got, fault)
	}
	if got, fault := Run(example, "cells\n", 0); got != "" || fault != api.ErrArg {
		t.Error(got, fault)
	}
}

func TestLineTellsTheCall(t *testing.T) {
	list := listOf(t, example)
	longest := strings.Repeat("~", api.MaxKey)
	all := "!\"#$%&'()*+,-./0123456789:;<=>?@ABCDEFGHIJKLMNOPQRSTUVWXYZ[\\]^_`abcdefghijklmnopqrstuvwxyz{|}~"
	for _, c := range []struct {
		line string
		want api.Call
	}{
		{"allow api bob 4", api.Call{Op: api.OpAllow, Policy: 0, Key: []byte("bob"), N: 4}},
		{"allow api bob 0", api.Call{Op: api.OpAllow, Policy: 0, Key: []byte("bob"), N: 0}},
		{"allow api 1 4611686018427387903", api.Call{Op: api.OpAllow, Policy: 0, Key: []byte("1"), N: api.Max}},
		{"allow api " + all + " 1", api.Call{Op: api.OpAllow, Policy: 0, Key: []byte(all), N: 1}},
		{"allow api " + longest + " 1", api.Call{Op: api.OpAllow, Policy: 0, Key: []byte(longest), N: 1}},
		{"allow api allow 7", api.Call{Op: api.OpAllow, Policy: 0, Key: []byte("allow"), N: 7}},
		{"acquire db k", api.Call{Op: api.OpAcquire, Policy: 1, Key: []byte("k")}},
		{"acquire db " + longest, api.Call{Op: api.OpAcquire, Policy: 1, Key: []byte(longest)}},
		{"peek api bob", api.Call{Op: api.OpPeek, Policy: 0, Key: []byte("bob")}},
		{"peek db !", api.Call{Op: api.OpPeek, Policy: 1, Key: []byte("!")}},
		{"evict", api.Call{Op: api.OpEvict}},
		{"split", api.Call{Op: api.OpSplit}},
		{"release " + textOf(t, 1, "k", 1), api.Call{Op: api.OpRelease, Policy: 1, Key: []byte("k"), N: 1}},
		{"release " + textOf(t, 0, "", api.Max), api.Call{Op: api.OpRelease, Policy: 0, N: api.Max}},
		{"release " + textOf(t, 31, "a \n\x00\xff", 258), api.Call{Op: api.OpRelease, Policy: 31, Key: []byte("a \n\x00\xff"), N: 258}},
		{"release " + textOf(t, 1, longest, 3), api.Call{Op: api.OpRelease, Policy: 1, Key: []byte(longest), N: 3}},
		// It is not asked whether book.Check takes them.
		{"allow db k 1", api.Call{Op: api.OpAllow, Policy: 1, Key: []byte("k"), N: 1}},
		{"acquire api k", api.Call{Op: api.OpAcquire, Policy: 0, Key: []byte("k")}},
	} {
		got, fault := Line(list, c.line)
		if fault != api.OK || !same(got, c.want) {
			t.Errorf("%.60q: %v %v, not %v", c.line, got, fault, c.want)
		}
	}
}

// same: are the calls the same, no key and the empty one too?
func same(a, b api.Call) bool {
	return a.Op == b.Op && a.Policy == b.Policy && string(a.Key) == string(b.Key) && a.N == b.N
}

func TestLineFaults(t *testing.T) {
	list := listOf(t, example)
	held := textOf(t, 1, "k", 1)
	key256 := strings.Repeat("k", api.MaxKey+1)
	for fault, lines := range map[api.Errno][]string{
		api.ErrText: {
			// words
			"", " ", "\n", "x", "Allow api bob 1", "allo api bob 1", "allowed api bob 1", "open api bob",
			"allow", "allow ", "allow api", "allow api bob", "allow api bob ", "allow api bob 1 ", "allow api bob 1 1",
			" allow api bob 1", "allow  api bob 1", "allow api  bob 1", "allow api bob  1", "allow\tapi bob 1",
			"allow api bob 1\n", "allow api bob 1\r", "\nallow api bob 1", "allow api\nbob 1",
			"acquire", "acquire db", "acquire db ", "acquire db k ", "acquire db k 1", "acquire  db k", "acquire db\tk",
			"release", "release ", "release " + held + " ", "release  " + held, "release " + held + " 1", "release " + held + "\n",
			"release db k 1", held,
			"peek", "peek db", "peek db ", "peek db k ", "peek db k 1", "peek db k\n",
			"evict ", " evict", "evict 1", "evict\n", "Evict", "evic", "evicts",
			"split ", " split", "split 1", "split\n", "Split", "spli", "splits",
			// lines that are no calls
			"tick 1", "tick", "tick ", "tick 01", "cells", "cells ", "count", "count ",
			// N
			"allow api bob x", "allow api bob -1", "allow api bob +1", "allow api bob 01", "allow api bob 00", "allow api bob 1.0",
			"allow api bob 1e1", "allow api bob 0x1", "allow api bob 1_0", "allow api bob 4611686018427387904",
			"allow api bob 9223372036854775808", "allow api bob 18446744073709551617", "allow api bob 10000000000000000000", "allow api bob \u0661",
			// KEY
			"allow api " + key256 + " 1", "acquire db " + key256, "peek api " + key256, "peek api \x7f", "peek api \x80", "peek api \x1f",
			"peek api \x00", "peek api é", "peek api a\x7f", "peek api \x7fa", "acquire db a\xff", "allow api a\tb 1",
			// NAME
			"allow API bob 1", "allow Api bob 1", "acquire d-b k", "peek db. k", "peek db\x00 k", "peek " + strings.Repeat("a", api.MaxName+1) + " k",
			// T
			"release 0", "release 00", "release x", "release " + strings.ToUpper(held), "release " + held[:len(held)-1], "release " + held[:len(held)-2],
			"release " + held + "0", "release " + held + "00", "release " + held[2:], "release " + strings.Repeat("0", 2*api.MaxFrame),
			"release " + strings.Repeat("0", 2*api.MaxFrame+2), "release " + strings.Replace(held, "01", "02", 1), "release g" + held[1:],
			"release 0" + held[1:], "release " + strings.Repeat("0", api.MaxText-len("release ")), strings.Repeat(" ", api.MaxText),
			strings.Repeat("a", api.MaxText),
			// ErrText and ErrName: the lesser one
			"allow nobody k x", "allow nobody " + key256 + " 1", "peek nobody \x7f", "acquire nobody ", "allow nobody k 1 ",
		},
		api.ErrName: {
			"allow nobody k 1", "allow nobody k 4611686018427387903", "acquire nobody k", "peek nobody k", "peek ap k", "peek apii k",
			"peek 0 k", "peek " + strings.Repeat("a", api.MaxName) + " k", "peek a0z9 k",
		},
		api.ErrLong: {strings.Repeat(" ", api.MaxText+1), "evict" + strings.Repeat(" ", api.MaxText), "release " + strings.Repeat("0", api.MaxText)},
	} {
		for _, line := range lines {
			if got, e := Line(list, line); e != fault || !reflect.DeepEqual(got, api.Call{}) {
				t.Errorf("%.60q: %v %v, not %v", line, got, e, fault)
			}
		}
	}
}

// A list needs be none that Parse has answered.
func TestLineOfAnyList(t *testing.T) {
	var long []conf.Named
	for i := range 100 {
		long = append(long, conf.Named{Name: "n" + strconv.Itoa(i)})
	}
	for _, c := range []struct {
		list []conf.Named
		line string
		want api.Call
		e    api.Errno
	}{
		{nil, "peek a k", api.Call{}, api.ErrName},
		{nil, "evict", api.Call{Op: api.OpEvict}, api.OK},
		{nil, "release " + textOf(t, 7, "k", 1), api.Call{Op: api.OpRelease, Policy: 7, Key: []byte("k"), N: 1}, api.OK},
		{long, "peek n99 k", api.Call{Op: api.OpPeek, Policy: 99, Key: []byte("k")}, api.OK},
		{[]conf.Named{{Name: "b"}, {Name: "a"}, {Name: "a"}}, "acquire a k", api.Call{Op: api.OpAcquire, Policy: 1, Key: []byte("k")}, api.OK},
		{[]conf.Named{{Name: "A"}, {Name: ""}}, "acquire A k", api.Call{}, api.ErrText},
		{[]conf.Named{{Name: "A"}, {Name: ""}}, "acquire  k", api.Call{}, api.ErrText},
	} {
		if got, e := Line(c.list, c.line); e != c.e || !same(got, c.want) {
			t.Errorf("%q: %v %v, not %v %v", c.line, got, e, c.want, c.e)
		}
	}
}

func TestLineMemory(t *testing.T) {
	list := listOf(t, example)
	before := slices.Clone(list)
	for _, line := range []string{"allow api bob 1", "acquire db bob", "peek api bob", "release " + textOf(t, 1, "bob", 1)} {
		first, _ := Line(list, line)
		second, _ := Line(list, line)
		spare := first.Key[:cap(first.Key)]
		for i := range spare {
			spare[i] = 'x'
		}
		if string(second.Key) != "bob" {
			t.Errorf("%q: answers share their keys: %q", line, second.Key)
		}
	}
	if !slices.Equal(list, before) {
		t.Error("the list was changed")
	}
}

func TestRunErrors(t *testing.T) {
	long := strings.Repeat("\n", api.MaxText+1)
	tooLong := strings.Repeat("x", api.MaxText+1)
	for _, c := range []struct {
		table, script string
		cells         int
		want          api.Errno
	}{
		{example, "", 1, api.OK},
		{example, "", api.MaxCells, api.OK},
		{example, "", 0, api.ErrArg},
		{example, "", -1, api.ErrArg},
		{example, "", -1 << 63, api.ErrArg},
		{example, "", api.MaxCells + 1, api.ErrArg},
		{example, "", 1<<63 - 1, api.ErrArg},
		{example, strings.Repeat("\n", api.MaxText), 9, api.OK},
		{example, strings.Repeat("x", api.MaxText), 9, api.OK},
		{example, long, 9, api.ErrLong},
		{example, tooLong, 9, api.ErrLong},
		// the table's
		{tooLong, "", 9, api.ErrLong},
		{strings.Repeat("sema a 1\n", api.MaxPolicies+1), "", 9, api.ErrLong},
		{"x", "", 9, api.ErrText},
		{"sema db 4", "", 9, api.ErrText},
		{"sema db 0\n", "", 9, api.ErrForm},
		{"limit a 0 0\n", "", 9, api.ErrForm},
		{"rate a nan 1 1\n", "", 9, api.ErrNaN},
		{"rate a 0 1 1\n", "", 9, api.ErrRange},
		{"rate a 1 1 0\n", "", 9, api.ErrArg},
		{"sema a 1\nsema a 1\n", "", 9, api.ErrExists},
		// of several the least
		{"rate a 1 1 0\n", long, 9, api.ErrArg},
		{"sema db 0\n", long, 9, api.ErrLong},
		{"x", long, 9, api.ErrLong},
		{tooLong, long, 9, api.ErrLong},
		{"x", "", 0, api.ErrArg},
		{tooLong, long, 0, api.ErrArg},
		{example, long, api.MaxCells + 1, api.ErrArg},
		{"rate a 1 1 0\n", long, 0, api.ErrArg},
	} {
		got, e := Run(c.table, c.script, c.cells)
		if e != c.want || e != api.OK && got != "" {
			t.Errorf("%.30q, %d bytes, %d: %v, not %v", c.table, len(c.script), c.cells, e, c.want)
		}
	}
}

func TestRunLines(t *testing.T) {
	for script, want := range map[string]string{
		"":                    "",
		"cells":               "cells 0\n",
		"cells\n":             "cells 0\n",
		"\n":                  "error 15\n",
		"\n\n":                "error 15\nerror 15\n",
		"cells\n\n":           "cells 0\nerror 15\n",
		"\ncells":             "error 15\ncells 0\n",
		" ":                   "error 15\n",
		"cells\n ":            "cells 0\nerror 15\n",
		"cells\ncount":        "cells 0\ncount 0\n",
		"cells\r\ncount\r":    "error 15\nerror 15\n",
		"cells \n count\n":    "error 15\nerror 15\n",
		"cells 0\ncount 0\n":  "error 15\nerror 15\n",
		"Cells\nCount\nTick":  "error 15\nerror 15\nerror 15\n",
		"tick\ntick \ntick  ": "error 15\nerror 15\nerror 15\n",
		"tick 1 1\n tick 1":   "error 15\nerror 15\n",
		"\x00\n\xff":          "error 15\nerror 15\n",
	} {
		if got, e := Run(example, script, 5); got != want || e != api.OK {
			t.Errorf("%q: %q %v, not %q", script, got, e, want)
		}
	}
}

func TestRunEmptyTable(t *testing.T) {
	plays(t, "", 1,
		"allow api k 1", "error 16",
		"acquire api k", "error 16",
		"peek api k", "error 16",
		"release "+textOf(t, 0, "k", 1), "error 6",
		"evict", "gone 0",
		"split", "level 1",
		"tick 3", "now 3",
		"cells", "cells 0",
		"count", "count 0",
	)
}

func TestRunClock(t *testing.T) {
	plays(t, "limit a 10 20\n", 4,
		"tick 0", "now 0",
		"tick 1", "now 1",
		"tick 01", "error 15",
		"tick -1", "error 15",
		"tick x", "error 15",
		"tick 4611686018427387904", "error 15",
		"tick 9223372036854775808", "error 15",
		"tick 99", "now 100",
		"allow a k 1", "yes 2",
		"allow a k 3", "no 10",
		"tick 10", "now 110",
		"allow a k 3", "yes 0",
		"peek a k", "left 0 wait 30",
		"tick 4611686018427387903", "now 4611686018427387903",
		"tick 4611686018427387903", "now 4611686018427387903",
		"peek a k", "left 0 wait 0",
		"evict", "gone 1",
	)
}

func TestRunRates(t *testing.T) {
	const most = "4611686018427387903"
	plays(t, "limit a 10 20\nlimit max "+most+" 0\nlimit wide 1 "+most+"\n", 3,
		// a cost of 0 is granted, and makes no cell
		"allow a k 0", "yes 3",
		"cells", "cells 0",
		"peek a k", "left 3 wait 0",
		"allow a k 4", "no never",
		"allow a k 2", "yes 1",
		"allow a k 2", "no 10",
		"allow a k 3", "no 20",
		"allow a k 4", "no never",
		"allow a k 0", "yes 1",
		"allow a k "+most, "no never",
		"peek a k", "left 1 wait 20",
		// a wait is told by its number, as far as it may be; never is of an Allow
		"allow max k 1", "yes 0",
		"peek max k", "left 0 wait "+most,
		"allow max k 1", "no never",
		"peek wide k", "left "+most+" wait 0",
		"allow wide k "+most, "yes 0",
		"peek wide k", "left 0 wait "+most,
		"allow wide k 1", "no never",
		"cells", "cells 3",
		"count", "count 3",
		// no more room
		"allow a j 1", "error 10",
		"allow a j 0", "yes 3",
		"cells", "cells 3",
		"count", "count 3",
		"evict", "gone 0",
		"tick 20", "now 20",
		"evict", "gone 1",
		"count", "count 2",
		"allow a j 1", "yes 2",
		"count", "count 3",
	)
}

func TestRunSemaphores(t *testing.T) {
	plays(t, "limit a 1 0\nsema db 2\nsema io 1\n", 3,
		"peek db k", "free 2",
		"acquire db k", textOf(t, 1, "k", 1),
		"peek db k", "free 1",
		"acquire io k", textOf(t, 2, "k", 2),
		"acquire io k", "error 9",
		"acquire db k", textOf(t, 1, "k", 3),
		"acquire db k", "error 9",
		"peek db k", "free 0",
		"peek db j", "free 2",
		"cells", "cells 2",
		// tokens that stand for nothing
		"release "+textOf(t, 1, "k", 2), "error 11",
		"release "+textOf(t, 1, "j", 1), "error 11",
		"release "+textOf(t, 2, "k", 1), "error 11",
		"release "+textOf(t, 1, "", 1), "error 11",
		"release "+textOf(t, 1, "k", api.Max), "error 11",
		"release "+textOf(t, 1, "k", 1), "free 1",
		"release "+textOf(t, 1, "k", 1), "error 11",
		"release "+textOf(t, 1, "k", 3), "free 2",
		"release "+textOf(t, 2, "k", 2), "free 1",
		// of a rate, and of no policy
		"release "+textOf(t, 0, "k", 1), "error 6",
		"release "+textOf(t, 3, "k", 1), "error 6",
		"release "+textOf(t, 31, "k", 1), "error 6",
		"allow db k 1", "error 6",
		"acquire a k", "error 6",
		// no more room; the serial was taken ahead of it
		"allow a k 1", "yes 0",
		"acquire db j", "error 10",
		"acquire db k", textOf(t, 1, "k", 5),
		"evict", "gone 1",
		"acquire db j", textOf(t, 1, "j", 6),
		"cells", "cells 3",
		"count", "count 3",
	)
}

func TestRunSplits(t *testing.T) {
	plays(t, "limit a 1 0\n", 3,
		"allow a x 1", "yes 0",
		"split", "level 1",
		"allow a y 1", "yes 0",
		"split", "level 2",
		"split", "level 3",
		"allow a z 1", "yes 0",
		"split", "level 4",
		"split", "error 5",
		"split", "error 5",
		"peek a x", "left 0 wait 1",
		"cells", "cells 3",
		"tick 1", "now 1",
		"evict", "gone 3",
		"evict", "gone 0",
		"count", "count 0",
	)
}

// One run knows nothing of another one.
func TestRunsApart(t *testing.T) {
	for range 2 {
		plays(t, example, 1,
			"acquire db k", textOf(t, 1, "k", 1),
			"tick 5", "now 5",
			"split", "level 1",
			"count", "count 1",
		)
	}
}

// As many answers as a script can have, and as long ones.
func TestRunLongScripts(t *testing.T) {
	got, e := Run(example, strings.Repeat("\n", api.MaxText), 1)
	if want := strings.Repeat("error 15\n", api.MaxText); e != api.OK || got != want {
		t.Error(len(got), e)
	}
	key := strings.Repeat("k", api.MaxKey)
	line := "acquire db " + key + "\n"
	many := api.MaxText / len(line)
	got, e = Run("sema db 64\n", strings.Repeat(line, many), 1)
	var want strings.Builder
	for i := range many {
		if i < api.MaxPermits {
			want.WriteString(textOf(t, 0, key, int64(i+1)) + "\n")
		} else {
			want.WriteString("error 9\n")
		}
	}
	if many <= api.MaxPermits || e != api.OK || got != want.String() {
		t.Error(many, len(got), e)
	}
	// as many cells as there may be, and one more than there is room for
	var script strings.Builder
	for i := range api.MaxCells + 1 {
		script.WriteString("acquire a " + strconv.FormatInt(int64(i), 36) + "\n")
	}
	script.WriteString("cells\ncount")
	got, e = Run("sema a 1\n", script.String(), api.MaxCells)
	if e != api.OK || !strings.HasSuffix(got, "\nerror 10\ncells 4096\ncount 4096\n") {
		t.Error(got[max(0, len(got)-60):], e)
	}
}
