package guard

import (
	"fmt"
	"math"
	"math/rand"
	"slices"
	"strings"
	"testing"

	"spigot/api"
	"spigot/cause"
)

// f is a function.
func f(acts ...cause.Act) []cause.Act { return acts }

// a is an act; without a number it has 0.
func a(kind byte, n ...int) cause.Act {
	if len(n) == 0 {
		return cause.Act{Kind: kind}
	}
	return cause.Act{Kind: kind, N: n[0]}
}

func hook(name string, prog ...[]cause.Act) Hook { return Hook{name, prog} }

func noted(n int) cause.Mark { return cause.Mark{Kind: cause.Note, N: n} }

func recovered(class byte, n int) cause.Mark {
	return cause.Mark{Kind: cause.Recover, Class: class, N: n}
}

func same(x, y Report) bool {
	return x.Name == y.Name && slices.Equal(x.Marks, y.Marks) && x.End == y.End && x.Off == y.Off
}

// made: New, which must not fail.
func made(t *testing.T, strikes int, hooks ...Hook) *Ring {
	t.Helper()
	r, fault := New(hooks, strikes)
	if r == nil || fault != api.OK {
		t.Fatalf("New(%v, %d) = %v, %d", hooks, strikes, r, fault)
	}
	return r
}

// wantFire holds Fire against reports, wantOne One against one.
func wantFire(t *testing.T, r *Ring, want ...Report) {
	t.Helper()
	if got, fault := r.Fire(); !slices.EqualFunc(got, want, same) || fault != api.OK {
		t.Errorf("Fire = %v, %d, not %v", got, fault, want)
	}
}

func wantOne(t *testing.T, r *Ring, name string, want Report, fault api.Errno) {
	t.Helper()
	if got, gotFault := r.One(name); !same(got, want) || gotFault != fault {
		t.Errorf("One(%q) = %v, %d, not %v, %d", name, got, gotFault, want, fault)
	}
}

func wantStrikes(t *testing.T, r *Ring, name string, want int, fault api.Errno) {
	t.Helper()
	if got, gotFault := r.Strikes(name); got != want || gotFault != fault {
		t.Errorf("Strikes(%q) = %d, %d, not %d, %d", name, got, gotFault, want, fault)
	}
}

func wantLive(t *testing.T, r *Ring, want ...string) {
	t.Helper()
	if got := r.Live(); !slices.Equal(got, want) {
		t.Errorf("Live = %v, not %v", got, want)
	}
}

// sound and broken are programs without a panic, and with one.
var (
	sound  = [][]cause.Act{f(a(cause.Note, 1))}
	broken = [][]cause.Act{f(a(cause.Note, 2), a(cause.Text, 3))}
)

func soundly(name string) Report { return Report{Name: name, Marks: []cause.Mark{noted(1)}} }

func brokenly(name string, off bool) Report {
	return Report{Name: name, Marks: []cause.Mark{noted(2)}, End: cause.End{Class: cause.Text, N: 3}, Off: off}
}

// P10.1

func TestNew(t *testing.T) {
	wide := make([][]cause.Act, 32)
	for i := range wide {
		wide[i] = slices.Repeat(f(a(cause.Note, 1)), 64)
	}
	for _, strikes := range []int{1, 2, 999, 1000} {
		for _, names := range [][]string{nil, {"a"}, {"0"}, {"9", "z"}, {"b", "a", "ab", "aa"}, {"abcdefghijklmnop", "abcdefghijklmno", "qrstuvwxyz012345", "6789"}} {
			var hooks []Hook
			for _, name := range names {
				hooks = append(hooks, Hook{name, wide})
			}
			r := made(t, strikes, hooks...)
			wantLive(t, r, names...)
			for _, name := range names {
				wantStrikes(t, r, name, 0, api.OK)
			}
		}
	}
	wantLive(t, made(t, 5, slices.Collect(func(yield func(Hook) bool) {
		for i := range 32 {
			yield(Hook{fmt.Sprint("h", i), broken})
		}
	})...), strings.Fields("h0 h1 h2 h3 h4 h5 h6 h7 h8 h9 h10 h11 h12 h13 h14 h15 h16 h17 h18 h19 h20 h21 h22 h23 h24 h25 h26 h27 h28 h29 h30 h31")...)
	// Two rings know nothing of each other.
	x, y := made(t, 1, Hook{"a", broken}), made(t, 1, Hook{"a", broken})
	x.Fire()
	wantLive(t, x)
	wantLive(t, y, "a")
}

// hooks: so many that are named h0, h1 and so on.
func hooks(n int, prog [][]cause.Act) []Hook {
	list := make([]Hook, n)
	for i := range list {
		list[i] = Hook{fmt.Sprint("h", i), prog}
	}
	return list
}

func TestNewWrong(t *testing.T) {
	var (
		long  = [][]cause.Act{slices.Repeat(f(a(cause.Note)), 65)}
		wide  = make([][]cause.Act, 33)
		wrong = [][]cause.Act{f(a(cause.Call, 0))}
		odd   = [][]cause.Act{f(a(6))}
	)
	for i, c := range []struct {
		hooks   []Hook
		strikes int
		fault   api.Errno
	}{
		// The chapter's examples.
		{[]Hook{{"A", sound}}, 1, api.ErrName},
		{[]Hook{{"a", [][]cause.Act{nil}}, {"a", [][]cause.Act{nil}}}, 1, api.ErrExists},
		{[]Hook{{"a", nil}}, 1, api.ErrForm},
		{nil, 0, api.ErrArg},
		// ErrArg goes ahead of all others.
		{nil, 1001, api.ErrArg}, {nil, -1, api.ErrArg}, {nil, math.MinInt, api.ErrArg}, {nil, math.MaxInt, api.ErrArg}, {hooks(2, sound), 1 << 32, api.ErrArg},
		{hooks(33, nil), 0, api.ErrArg}, {[]Hook{{"A", long}, {"A", nil}}, 1001, api.ErrArg},
		// ErrLong: hooks, functions, acts; ahead of the form and the names.
		{hooks(33, sound), 1, api.ErrLong}, {make([]Hook, 10000), 1, api.ErrLong}, {hooks(33, wrong), 1000, api.ErrLong},
		{[]Hook{{"a", long}}, 1, api.ErrLong}, {[]Hook{{"a", wide}}, 1, api.ErrLong}, {[]Hook{{"a", sound}, {"b", wide}}, 1, api.ErrLong},
		{[]Hook{{"a", nil}, {"b", long}}, 1, api.ErrLong}, {[]Hook{{"b", long}, {"a", nil}}, 1, api.ErrLong},
		{[]Hook{{"A", long}, {"A", wrong}}, 1, api.ErrLong}, {append(hooks(31, odd), Hook{"h0", wide}), 1, api.ErrLong},
		// ErrForm: of any hook; ahead of the names.
		{[]Hook{{"a", wrong}}, 1, api.ErrForm}, {[]Hook{{"a", odd}}, 1, api.ErrForm}, {[]Hook{{"a", sound}, {"b", [][]cause.Act{}}}, 1, api.ErrForm},
		{[]Hook{{"a", sound}, {"a", wrong}}, 1, api.ErrForm}, {[]Hook{{"a b", wrong}}, 1, api.ErrForm}, {append(hooks(31, sound), Hook{"z", odd}), 1, api.ErrForm},
		{make([]Hook, 32), 1, api.ErrForm},
		// ErrExists: wherever they stand; ahead of a name that is none, and where it is such a name that is there twice.
		{[]Hook{{"a", sound}, {"b", sound}, {"a", broken}}, 1, api.ErrExists}, {append(hooks(31, sound), Hook{"h30", sound}), 9, api.ErrExists},
		{[]Hook{{"A", sound}, {"b", sound}, {"b", sound}}, 1, api.ErrExists}, {[]Hook{{"b", sound}, {"b", sound}, {"A", sound}}, 1, api.ErrExists},
		{[]Hook{{"A", sound}, {"A", sound}}, 1, api.ErrExists}, {[]Hook{{"", sound}, {"", sound}}, 1, api.ErrExists},
		// ErrName
		{append(hooks(31, sound), Hook{"", sound}), 1, api.ErrName}, {[]Hook{{"A", sound}, {"a", sound}}, 1000, api.ErrName},
	} {
		if r, fault := New(c.hooks, c.strikes); r != nil || fault != c.fault {
			t.Errorf("%d: New = %v, %d, not %d", i, r, fault, c.fault)
		}
	}
}

func TestNames(t *testing.T) {
	for c := range 256 {
		want := api.ErrName
		if c >= 'a' && c <= 'z' || c >= '0' && c <= '9' {
			want = api.OK
		}
		for _, name := range []string{string([]byte{byte(c)}), string([]byte{'a', byte(c)}), string([]byte{byte(c), '0'})} {
			if _, fault := New([]Hook{{name, sound}}, 1); fault != want {
				t.Errorf("the name %q: %d", name, fault)
			}
		}
	}
	for _, name := range []string{"", " ", "a ", " a", "a b", "a_b", "ab\n", "\x00", "Ab", "é", "aé", "ａ", "٣", "\xff", "abcdefghijklmnopq", strings.Repeat("a", 17), strings.Repeat("a", 1000), strings.Repeat("é", 8)} {
		if r, fault := New([]Hook{{"x", sound}, {name, sound}}, 1); r != nil || fault != api.ErrName {
			t.Errorf("the name %q: %v, %d", name, r, fault)
		}
	}
}

// P10.2, P10.3

// The chapter's first example.
func TestFire(t *testing.T) {
	r := made(t, 2, hook("a", f(a(cause.Note, 1))), hook("b", f(a(cause.Divide))))
	divide := cause.End{Class: cause.Divide}
	wantFire(t, r, soundly("a"), Report{Name: "b", End: divide})
	wantFire(t, r, soundly("a"), Report{Name: "b", End: divide, Off: true})
	wantFire(t, r, soundly("a"))
	wantStrikes(t, r, "b", 2, api.OK)
	wantLive(t, r, "a")
	wantOne(t, r, "b", Report{}, api.ErrClosed)
	if fault := r.Again("b"); fault != api.OK {
		t.Error(fault)
	}
	wantLive(t, r, "a", "b")
	wantStrikes(t, r, "b", 0, api.OK)
	wantFire(t, r, soundly("a"), Report{Name: "b", End: divide})
}

func TestFireInOrder(t *testing.T) {
	r := made(t, 1, Hook{"z", sound}, Hook{"m", broken}, Hook{"a", sound}, Hook{"0", broken}, Hook{"b", sound})
	wantFire(t, r, soundly("z"), brokenly("m", true), soundly("a"), brokenly("0", true), soundly("b"))
	wantFire(t, r, soundly("z"), soundly("a"), soundly("b"))
	wantLive(t, r, "z", "a", "b")
	if fault := r.Again("0"); fault != api.OK {
		t.Error(fault)
	}
	wantLive(t, r, "z", "a", "0", "b")
	wantFire(t, r, soundly("z"), soundly("a"), brokenly("0", true), soundly("b"))
	wantFire(t, made(t, 1))
	wantLive(t, made(t, 1))
	off := made(t, 1, Hook{"a", broken})
	wantFire(t, off, brokenly("a", true))
	wantFire(t, off)
	wantLive(t, off)
}

func TestOne(t *testing.T) {
	r := made(t, 3, Hook{"a", broken}, Hook{"b", sound}, hook("c", f(a(cause.Note, 1), a(cause.Defer, 1), a(cause.Int, 7)), f(a(cause.Recover))))
	wantOne(t, r, "a", brokenly("a", false), api.OK)
	wantStrikes(t, r, "a", 1, api.OK)
	wantFire(t, r, brokenly("a", false), soundly("b"), Report{Name: "c", Marks: []cause.Mark{noted(1), recovered(cause.Int, 7)}})
	wantOne(t, r, "a", brokenly("a", true), api.OK)
	for range 3 {
		wantOne(t, r, "a", Report{}, api.ErrClosed)
		wantStrikes(t, r, "a", 3, api.OK)
		wantOne(t, r, "b", soundly("b"), api.OK)
		wantOne(t, r, "c", Report{Name: "c", Marks: []cause.Mark{noted(1), recovered(cause.Int, 7)}}, api.OK)
	}
	// A panic that is recovered is no strike.
	wantStrikes(t, r, "b", 0, api.OK)
	wantStrikes(t, r, "c", 0, api.OK)
	wantLive(t, r, "b", "c")
}

// Each class is a strike, and goes no farther.
func TestEachClass(t *testing.T) {
	for kind := cause.Int; kind <= cause.Make; kind++ {
		r := made(t, 2, hook("p", f(a(kind, 4))), Hook{"s", sound})
		end := cause.End{Class: kind}
		if kind <= cause.Error {
			end.N = 4
		}
		wantFire(t, r, Report{Name: "p", End: end}, soundly("s"))
		wantOne(t, r, "p", Report{Name: "p", End: end, Off: true}, api.OK)
		wantFire(t, r, soundly("s"))
	}
}

func TestStrikes(t *testing.T) {
	for _, strikes := range []int{1, 2, 3, 999, 1000} {
		r := made(t, strikes, Hook{"s", sound}, Hook{"p", broken})
		for round := range 2 {
			for n := 1; n <= strikes; n++ {
				wantOne(t, r, "p", brokenly("p", n == strikes), api.OK)
				wantStrikes(t, r, "p", n, api.OK)
			}
			wantLive(t, r, "s")
			wantOne(t, r, "p", Report{}, api.ErrClosed)
			if fault := r.Again("p"); fault != api.OK {
				t.Errorf("the round %d: %d", round, fault)
			}
			wantStrikes(t, r, "p", 0, api.OK)
			wantLive(t, r, "s", "p")
		}
		wantStrikes(t, r, "s", 0, api.OK)
	}
}

// Again of a hook that is on takes its strikes, and those of no other.
func TestAgain(t *testing.T) {
	r := made(t, 2, Hook{"p", broken}, Hook{"q", broken})
	wantFire(t, r, brokenly("p", false), brokenly("q", false))
	if fault := r.Again("p"); fault != api.OK {
		t.Error(fault)
	}
	wantStrikes(t, r, "p", 0, api.OK)
	wantStrikes(t, r, "q", 1, api.OK)
	wantFire(t, r, brokenly("p", false), brokenly("q", true))
	wantLive(t, r, "p")
}

func TestNoHook(t *testing.T) {
	r := made(t, 2, Hook{"a", broken}, Hook{"b", broken})
	r.Fire()
	for _, ring := range []*Ring{r, made(t, 1), nil} {
		for _, name := range []string{"", "c", "A", "aa", "ab", "a ", "a\x00", strings.Repeat("a", 10000)} {
			wantOne(t, ring, name, Report{}, api.ErrNone)
			wantStrikes(t, ring, name, 0, api.ErrNone)
			if fault := ring.Again(name); fault != api.ErrNone {
				t.Errorf("Again(%q) = %d", name, fault)
			}
		}
	}
	wantStrikes(t, r, "a", 1, api.OK)
	wantStrikes(t, r, "b", 1, api.OK)
	wantLive(t, r, "a", "b")
}

func TestNilRing(t *testing.T) {
	var r *Ring
	if reports, fault := r.Fire(); len(reports) != 0 || fault != api.ErrNone {
		t.Errorf("Fire = %v, %d", reports, fault)
	}
	wantOne(t, r, "a", Report{}, api.ErrNone)
	wantStrikes(t, r, "a", 0, api.ErrNone)
	if fault := r.Again("a"); fault != api.ErrNone {
		t.Errorf("Again = %d", fault)
	}
	wantLive(t, r)
}

// kept is what the chapter's words keep of a hook.
type kept struct {
	Hook
	strikes int
	on      bool
}

func (k *kept) run(limit int) Report {
	marks, end, _ := cause.Run(k.Prog)
	if end.Class != 0 {
		k.strikes++
		k.on = k.strikes < limit
	}
	return Report{k.Name, marks, end, !k.on}
}

// Many calls by chance, held against what the chapter's words keep.
func TestManyCalls(t *testing.T) {
	r := rand.New(rand.NewSource(10))
	progs := [][][]cause.Act{
		sound, broken, {nil}, {f(a(cause.Close))},
		{f(a(cause.Defer, 1), a(cause.Map)), f(a(cause.Recover))}, {f(a(cause.Defer, 1)), f(a(cause.Recover), a(cause.Error, 9))},
	}
	for range 300 {
		limit := 1 + r.Intn(4)
		var (
			told []Hook
			list []*kept
		)
		for i := range r.Intn(8) {
			h := Hook{fmt.Sprint(10 - i), progs[r.Intn(len(progs))]}
			told, list = append(told, h), append(list, &kept{h, 0, true})
		}
		ring := made(t, limit, told...)
		for range 60 {
			step(t, r, ring, list, limit)
		}
	}
}

// step does one call on both sides.
func step(t *testing.T, r *rand.Rand, ring *Ring, list []*kept, limit int) {
	t.Helper()
	var (
		names   []string
		reports []Report
	)
	for _, k := range list {
		if k.on {
			names = append(names, k.Name)
		}
		wantStrikes(t, ring, k.Name, k.strikes, api.OK)
	}
	wantLive(t, ring, names...)
	if len(list) == 0 || r.Intn(4) == 0 {
		for _, k := range list {
			if k.on {
				reports = append(reports, k.run(limit))
			}
		}
		wantFire(t, ring, reports...)
		return
	}
	k := list[r.Intn(len(list))]
	switch {
	case r.Intn(4) == 0:
		k.strikes, k.on = 0, true
		if fault := ring.Again(k.Name); fault != api.OK {
			t.Errorf("Again(%q) = %d", k.Name, fault)
		}
	case k.on:
		wantOne(t, ring, k.Name, k.run(limit), api.OK)
	default:
		wantOne(t, ring, k.Name, Report{}, api.ErrClosed)
	}
}

// P10.4

func TestTry(t *testing.T) {
	for _, c := range []struct {
		prog  [][]cause.Act
		marks []cause.Mark
		fault api.Errno
	}{
		{[][]cause.Act{f(a(cause.Note, 1), a(cause.Text, 2))}, []cause.Mark{noted(1)}, api.ErrPanic},
		{sound, []cause.Mark{noted(1)}, api.OK},
		{[][]cause.Act{nil}, nil, api.OK},
		{[][]cause.Act{f(a(cause.Nil))}, nil, api.ErrPanic},
		{[][]cause.Act{f(a(cause.Int, 0))}, nil, api.ErrPanic},
		{[][]cause.Act{f(a(cause.Defer, 1), a(cause.Error, 2)), f(a(cause.Note, 5), a(cause.Recover))}, []cause.Mark{noted(5), recovered(cause.Error, 2)}, api.OK},
		{[][]cause.Act{f(a(cause.Defer, 1), a(cause.Error, 2)), f(a(cause.Recover), a(cause.Send))}, []cause.Mark{recovered(cause.Error, 2)}, api.ErrPanic},
		{nil, nil, api.ErrForm},
		{[][]cause.Act{}, nil, api.ErrForm},
		{[][]cause.Act{f(a(cause.Note, 1), a(cause.Int, 1), a(cause.Call, 0))}, nil, api.ErrForm},
		{[][]cause.Act{f(a(cause.Note, 1)), f(a(25))}, nil, api.ErrForm},
		{make([][]cause.Act, 33), nil, api.ErrLong},
		{[][]cause.Act{f(a(cause.Call, 0)), slices.Repeat(f(a(cause.Note)), 65)}, nil, api.ErrLong},
	} {
		if marks, fault := Try(c.prog); !slices.Equal(marks, c.marks) || fault != c.fault {
			t.Errorf("Try(%v) = %v, %d", c.prog, marks, fault)
		}
	}
	for kind := cause.Int; kind <= cause.Make; kind++ {
		if marks, fault := Try([][]cause.Act{f(a(cause.Note, 3), a(kind, 1))}); !slices.Equal(marks, []cause.Mark{noted(3)}) || fault != api.ErrPanic {
			t.Errorf("Try of the kind %d = %v, %d", kind, marks, fault)
		}
	}
}

// The rules that hold everywhere

// New keeps nothing of what it was handed, and changes none of it.
func TestNewKeepsNothing(t *testing.T) {
	room := append(f(a(cause.Note, 2), a(cause.Text, 3)), slices.Repeat(f(a(cause.Note, 77)), 9)...)
	progs := append([][]cause.Act{room[:2]}, f(a(cause.Note, 78)))
	told := append([]Hook{{"p", progs[:1]}, {"s", sound}}, Hook{"spare", sound})
	r := made(t, 2, told[:2]...)
	if room[2] != a(cause.Note, 77) || len(progs[1]) != 1 || told[2].Name != "spare" || told[0].Name != "p" {
		t.Error("what was handed in is changed")
	}
	wantFire(t, r, brokenly("p", false), soundly("s"))
	for i := range room {
		room[i] = a(cause.Divide)
	}
	progs[0], told[0], told[1] = nil, Hook{}, Hook{"p", nil}
	wantFire(t, r, brokenly("p", true), soundly("s"))
	wantLive(t, r, "s")
}

// Answers may be overwritten, their spare room too.
func TestAnswersAreNew(t *testing.T) {
	r := made(t, 1000, Hook{"p", broken}, Hook{"s", sound}, Hook{"q", broken})
	for range 3 {
		reports, _ := r.Fire()
		for i := range reports {
			overwrite(reports[i].Marks)
			for j, other := range reports {
				if j > i && other.Marks[0].Kind != cause.Note {
					t.Error("two reports share their marks")
				}
			}
		}
		reports = reports[:cap(reports)]
		for i := range reports {
			reports[i] = Report{Name: "x"}
		}
		names := r.Live()
		names = names[:cap(names)]
		for i := range names {
			names[i] = "x"
		}
		one, _ := r.One("s")
		overwrite(one.Marks)
		marks, _ := Try(broken)
		overwrite(marks)
		wantLive(t, r, "p", "s", "q")
		wantFire(t, r, brokenly("p", false), soundly("s"), brokenly("q", false))
	}
}

func overwrite(marks []cause.Mark) {
	marks = marks[:cap(marks)]
	for i := range marks {
		marks[i] = cause.Mark{Kind: 99}
	}
}
