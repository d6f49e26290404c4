package cause

import (
	"math"
	"math/rand"
	"slices"
	"strings"
	"testing"

	"spigot/api"
)

// f is a function.
func f(acts ...Act) []Act { return acts }

// a is an act; without a number it has 0.
func a(kind byte, n ...int) Act {
	if len(n) == 0 {
		return Act{Kind: kind}
	}
	return Act{kind, n[0]}
}

// many: so many of an act.
func many(count int, act Act) []Act { return slices.Repeat([]Act{act}, count) }

func noted(n int) Mark { return Mark{Note, 0, n} }

func recovered(class byte, n int) Mark { return Mark{Recover, class, n} }

var nothing = recovered(0, 0)

// roomy: p with spare room behind its functions and their acts, filled with acts.
func roomy(p [][]Act) [][]Act {
	wide := make([][]Act, 0, len(p)+3)
	for _, acts := range p {
		wide = append(wide, append(slices.Clone(acts), many(20, a(Note, 77))...)[:len(acts)])
	}
	return append(wide, f(a(Note, 78)), f(a(Note, 79)))[:len(p)]
}

// whole: all that stands in p and its spare room.
func whole(p [][]Act) [][]Act {
	var all [][]Act
	for _, acts := range p[:cap(p)] {
		all = append(all, slices.Clone(acts[:cap(acts)]))
	}
	return all
}

func same(p, q [][]Act) bool { return slices.EqualFunc(p, q, slices.Equal[[]Act]) }

// endOf: the class and the number of a panic act.
func endOf(act Act) End {
	if act.Kind == Int || act.Kind == Text || act.Kind == Error {
		return End{act.Kind, act.N}
	}
	return End{act.Kind, 0}
}

// judge works programs out by the chapter's words, without a panic.
type judge struct {
	prog  [][]Act
	fuel  int
	marks []Mark
}

// run answers the panic that goes out; because is the one for which it is run.
// The class 0 is none.
func (j *judge) run(number int, because *End) End {
	var (
		remembered []int
		end        End
	)
acts:
	for _, act := range j.prog[number] {
		if j.fuel == 0 {
			continue
		}
		j.fuel--
		switch act.Kind {
		case Note:
			j.marks = append(j.marks, noted(act.N))
		case Call:
			if end = j.run(act.N, &End{}); end.Class != 0 {
				break acts
			}
		case Defer:
			remembered = append(remembered, act.N)
		case Return:
			break acts
		case Recover:
			j.marks = append(j.marks, recovered(because.Class, because.N))
			*because = End{}
		default:
			end = endOf(act)
			break acts
		}
	}
	for _, number := range slices.Backward(remembered) {
		if out := j.run(number, &end); out.Class != 0 {
			end = out
		}
	}
	return end
}

func judged(p [][]Act) ([]Mark, End) {
	j := &judge{prog: p, fuel: 4096}
	end := j.run(0, &End{})
	return j.marks, end
}

// native works programs out by Go itself: each run is a call of Go's, what is
// remembered is deferred as it stands, and a Recover is Go's own.
type native struct {
	prog  [][]Act
	fuel  int
	marks []Mark
}

func (o *native) run(number int) {
	for _, act := range o.prog[number] {
		if o.fuel == 0 {
			return
		}
		o.fuel--
		switch act.Kind {
		case Note:
			o.marks = append(o.marks, noted(act.N))
		case Call:
			o.run(act.N)
		case Defer:
			defer o.run(act.N)
		case Return:
			return
		case Recover:
			end, _ := recover().(End)
			o.marks = append(o.marks, recovered(end.Class, end.N))
		default:
			panic(endOf(act))
		}
	}
}

func (o *native) ended() (end End) {
	defer func() { end, _ = recover().(End) }()
	o.run(0)
	return
}

// hold holds Run against the judge, and where it is told so against Go.
func hold(t *testing.T, p [][]Act, byGo bool) {
	t.Helper()
	marks, end, fault := Run(p)
	wantMarks, wantEnd := judged(p)
	if !slices.Equal(marks, wantMarks) || end != wantEnd || fault != api.OK {
		t.Fatalf("Run(%v) = %v, %v, %d, not %v, %v", p, marks, end, fault, wantMarks, wantEnd)
	}
	if !byGo {
		return
	}
	o := &native{prog: p, fuel: 4096}
	if goEnd := o.ended(); !slices.Equal(marks, o.marks) || end != goEnd {
		t.Fatalf("Run(%v) = %v, %v; Go says %v, %v", p, marks, end, o.marks, goEnd)
	}
}

func TestKinds(t *testing.T) {
	kinds := []byte{Note, Call, Defer, Return, Recover, Int, Text, Error, Nil, Divide, Index, Slice, Map, Pointer, Assert, Convert, Close, Send, Make}
	want := []byte{1, 2, 3, 4, 5, 11, 12, 13, 14, 15, 16, 17, 18, 19, 20, 21, 22, 23, 24}
	if !slices.Equal(kinds, want) {
		t.Errorf("the kinds are %v", kinds)
	}
}

// P9.1

func TestCheck(t *testing.T) {
	var chain [][]Act
	for i := range 31 {
		chain = append(chain, f(a(Call, i+1), a(Defer, 31)))
	}
	chain = append(chain, many(64, a(Return)))
	for _, p := range [][][]Act{
		{nil}, {{}}, {nil, {}}, make([][]Act, 32), chain,
		{f(a(Call, 1)), nil}, {f(a(Defer, 1)), nil}, {f(a(Call, 2), a(Defer, 2)), f(a(Call, 2)), nil},
		{many(64, a(Note, 1))}, slices.Repeat([][]Act{many(64, a(Recover))}, 32),
		// Numbers of other acts are free.
		{f(a(Note, -1), a(Note, math.MaxInt), a(Note, math.MinInt), a(Return, 40), a(Recover, -5), a(Index, 9), a(Int, math.MinInt), a(Divide, 99))},
	} {
		if fault := Check(p); fault != api.OK {
			t.Errorf("Check(%v) = %d", p, fault)
		}
	}
	for kind := range 256 {
		want := api.ErrForm
		if kind >= 1 && kind <= 5 || kind >= 11 && kind <= 24 {
			want = api.OK
		}
		if fault := Check([][]Act{f(a(byte(kind), 1)), nil}); fault != want {
			t.Errorf("the kind %d: %d", kind, fault)
		}
	}
}

var noForm = [][][]Act{
	nil, {},
	{f(a(Call, 0))}, {f(a(Defer, 0))}, {f(a(Call))}, {f(a(Call, 1))}, {f(a(Defer, 1))},
	{f(a(Call, -1))}, {f(a(Call, math.MinInt))}, {f(a(Defer, math.MaxInt))}, {f(a(Defer, 1<<32)), nil}, {f(a(Call, 257)), nil},
	{f(a(Call, 2)), nil}, {nil, f(a(Call, 0))}, {nil, f(a(Call, 1))}, {nil, f(a(Defer, 1)), nil}, {nil, f(a(Defer, 0)), nil},
	{nil, nil, f(a(Call, 1))}, {nil, nil, f(a(Note, 1), a(Note, 2), a(Defer, 2))},
	{f(a(0))}, {f(a(6))}, {f(a(10))}, {f(a(25))}, {f(a(255))}, {f(a(Note, 1), a(0))}, {f(a(Return), a(7))}, {nil, nil, f(a(8))},
	// What is never reached is looked at, too.
	{f(a(Int, 1), a(Call, 0))}, {nil, f(a(99))},
	append(make([][]Act, 31), f(a(Call, 31))), append(make([][]Act, 31), f(a(Defer, 32))),
}

var tooLong = [][][]Act{
	make([][]Act, 33), make([][]Act, 100000), {many(65, a(Note))}, {nil, many(1000, a(Note))}, append(make([][]Act, 31), many(65, a(Int))),
	// ErrLong goes first, wherever it stands.
	{f(a(Call, 0)), many(65, a(Note))}, {f(a(0)), nil, many(66, a(0))}, {many(65, a(99))}, {many(65, a(Call, 0))},
	append(make([][]Act, 32), f(a(0))), slices.Repeat([][]Act{f(a(Call))}, 33),
}

func TestWrong(t *testing.T) {
	for want, list := range map[api.Errno][][][]Act{api.ErrForm: noForm, api.ErrLong: tooLong} {
		for i, p := range list {
			if fault := Check(p); fault != want {
				t.Errorf("%d, %d: Check = %d", want, i, fault)
			}
			if marks, end, fault := Run(p); len(marks) != 0 || end != (End{}) || fault != want {
				t.Errorf("%d, %d: Run = %v, %v, %d", want, i, marks, end, fault)
			}
		}
	}
	// An act before the wrong one isn't run.
	if marks, end, fault := Run([][]Act{f(a(Note, 1), a(Int, 1), a(0))}); len(marks) != 0 || end != (End{}) || fault != api.ErrForm {
		t.Error(marks, end, fault)
	}
}

// P9.2, P9.3, P9.4

type story struct {
	prog  [][]Act
	marks []Mark
	end   End
}

// told are the chapter's examples.
var told = []story{
	{[][]Act{f(a(Note, 1), a(Defer, 1), a(Int, 7), a(Note, 2)), f(a(Recover), a(Note, 3))}, []Mark{noted(1), recovered(Int, 7), noted(3)}, End{}},
	{[][]Act{f(a(Defer, 1), a(Divide)), f(a(Call, 2)), f(a(Recover))}, []Mark{nothing}, End{Divide, 0}},
	{[][]Act{f(a(Defer, 1), a(Defer, 2), a(Text, 1)), f(a(Recover)), f(a(Index, 9))}, []Mark{recovered(Index, 0)}, End{}},
	{[][]Act{f(a(Defer, 1), a(Text, 1)), f(a(Defer, 2), a(Send)), f(a(Recover))}, []Mark{recovered(Send, 0)}, End{Text, 1}},
	{[][]Act{f(a(Defer, 1), a(Nil)), f(a(Recover), a(Recover), a(Error, 4))}, []Mark{recovered(Nil, 0), nothing}, End{Error, 4}},
	{[][]Act{f(a(Defer, 1)), f(a(Recover))}, []Mark{nothing}, End{}},
	{[][]Act{nil}, nil, End{}},
}

// more are further ones, a rule each.
var more = []story{
	// The order of notes; what stands behind a Return or a panic isn't begun.
	{[][]Act{f(a(Note, 3), a(Note, -1), a(Note, 3), a(Note))}, []Mark{noted(3), noted(-1), noted(3), noted(0)}, End{}},
	{[][]Act{f(a(Note, math.MaxInt), a(Return), a(Note, 2), a(Int, 3))}, []Mark{noted(math.MaxInt)}, End{}},
	{[][]Act{f(a(Int, 1), a(Note, 2), a(Int, 2))}, nil, End{Int, 1}},
	{[][]Act{nil, f(a(Note, 1))}, nil, End{}},
	// Call: its Return ends it alone, its panic ends the caller.
	{[][]Act{f(a(Call, 1), a(Note, 2)), f(a(Note, 1), a(Return), a(Note, 9))}, []Mark{noted(1), noted(2)}, End{}},
	{[][]Act{f(a(Call, 1), a(Note, 2)), f(a(Note, 1), a(Map))}, []Mark{noted(1)}, End{Map, 0}},
	{[][]Act{f(a(Call, 1), a(Call, 1)), f(a(Note, 1))}, []Mark{noted(1), noted(1)}, End{}},
	{[][]Act{f(a(Call, 1), a(Note, 9)), f(a(Call, 2), a(Note, 9)), f(a(Text, -3))}, nil, End{Text, -3}},
	{[][]Act{f(a(Defer, 2), a(Call, 1), a(Note, 9)), f(a(Pointer)), f(a(Recover))}, []Mark{recovered(Pointer, 0)}, End{}},
	{[][]Act{f(a(Call, 1), a(Note, 4)), f(a(Defer, 2), a(Close)), f(a(Recover))}, []Mark{recovered(Close, 0), noted(4)}, End{}},
	// What is remembered is run when its run has ended, the last one first, each as often as it was remembered.
	{[][]Act{f(a(Defer, 1), a(Defer, 2), a(Defer, 1), a(Note, 5)), f(a(Note, 1)), f(a(Note, 2))}, []Mark{noted(5), noted(1), noted(2), noted(1)}, End{}},
	{[][]Act{f(a(Defer, 1), a(Return), a(Defer, 1)), f(a(Note, 1))}, []Mark{noted(1)}, End{}},
	{[][]Act{f(a(Defer, 1), a(Int, 2), a(Defer, 1)), f(a(Note, 1))}, []Mark{noted(1)}, End{Int, 2}},
	{[][]Act{f(a(Call, 1), a(Note, 3)), f(a(Defer, 2), a(Note, 1)), f(a(Note, 2))}, []Mark{noted(1), noted(2), noted(3)}, End{}},
	{[][]Act{f(a(Defer, 1), a(Note, 1)), f(a(Defer, 2), a(Note, 2)), f(a(Note, 3))}, []Mark{noted(1), noted(2), noted(3)}, End{}},
	// Recover: at once, in the function 0, in a called one, in a remembered one that is run because of none.
	{[][]Act{f(a(Recover), a(Int, 1))}, []Mark{nothing}, End{Int, 1}},
	{[][]Act{f(a(Call, 1), a(Int, 1)), f(a(Recover))}, []Mark{nothing}, End{Int, 1}},
	{[][]Act{f(a(Defer, 1), a(Return)), f(a(Recover), a(Note, 1))}, []Mark{nothing, noted(1)}, End{}},
	{[][]Act{f(a(Defer, 1), a(Int, 5)), f(a(Defer, 2)), f(a(Recover))}, []Mark{nothing}, End{Int, 5}},
	{[][]Act{f(a(Defer, 1), a(Int, 5)), f(a(Recover), a(Defer, 2)), f(a(Recover))}, []Mark{recovered(Int, 5), nothing}, End{}},
	{[][]Act{f(a(Defer, 1), a(Int, 5)), f(a(Defer, 2), a(Recover)), f(a(Recover))}, []Mark{recovered(Int, 5), nothing}, End{}},
	{[][]Act{f(a(Defer, 1), a(Int, 5)), f(a(Call, 2), a(Recover)), f(a(Recover))}, []Mark{nothing, recovered(Int, 5)}, End{}},
	// A recovered panic is over: those that remain are run because of none.
	{[][]Act{f(a(Defer, 1), a(Defer, 1), a(Text, 6)), f(a(Recover))}, []Mark{recovered(Text, 6), nothing}, End{}},
	{[][]Act{f(a(Defer, 1), a(Defer, 2), a(Text, 6)), f(a(Recover)), f(a(Note, 1))}, []Mark{noted(1), recovered(Text, 6)}, End{}},
	// A new panic takes the place of the old one, or of none.
	{[][]Act{f(a(Defer, 1)), f(a(Int, 1))}, nil, End{Int, 1}},
	{[][]Act{f(a(Defer, 1), a(Int, 1)), f(a(Int, 2))}, nil, End{Int, 2}},
	{[][]Act{f(a(Defer, 1), a(Defer, 2)), f(a(Recover)), f(a(Error, 2))}, []Mark{recovered(Error, 2)}, End{}},
	{[][]Act{f(a(Defer, 1), a(Defer, 2), a(Defer, 3), a(Int, 1)), f(a(Recover)), f(a(Int, 2)), f(a(Recover))}, []Mark{recovered(Int, 1), recovered(Int, 2)}, End{}},
	{[][]Act{f(a(Defer, 1), a(Defer, 1), a(Int, 1)), f(a(Recover), a(Int, 2))}, []Mark{recovered(Int, 1), recovered(Int, 2)}, End{Int, 2}},
	{[][]Act{f(a(Defer, 1), a(Int, 1)), f(a(Defer, 2), a(Int, 2)), f(a(Int, 3))}, nil, End{Int, 3}},
	{[][]Act{f(a(Defer, 1), a(Int, 1)), f(a(Defer, 2), a(Recover), a(Int, 2)), f(a(Recover))}, []Mark{recovered(Int, 1), recovered(Int, 2)}, End{}},
	{[][]Act{f(a(Defer, 3), a(Defer, 1), a(Int, 1)), f(a(Call, 2)), f(a(Defer, 3), a(Int, 2)), f(a(Recover))}, []Mark{recovered(Int, 2), recovered(Int, 1)}, End{}},
}

func TestRun(t *testing.T) {
	for _, s := range slices.Concat(told, more) {
		marks, end, fault := Run(s.prog)
		if !slices.Equal(marks, s.marks) || end != s.end || fault != api.OK {
			t.Errorf("Run(%v) = %v, %v, %d", s.prog, marks, end, fault)
		}
		hold(t, s.prog, true)
	}
}

// Each class goes out, out of a called one too, and is recovered, with its number.
func TestClasses(t *testing.T) {
	for kind := Int; kind <= Make; kind++ {
		for _, n := range []int{0, 1, -1, 7, 10, -10, 12345678901, math.MaxInt, math.MinInt} {
			want := End{kind, 0}
			if kind <= Error {
				want.N = n
			}
			for _, p := range [][][]Act{{f(a(kind, n))}, {f(a(Call, 1), a(Note, 1)), f(a(kind, n))}, {f(a(Defer, 1)), f(a(kind, n))}, {f(a(Defer, 1), a(kind, n)), nil}} {
				if marks, end, fault := Run(p); len(marks) != 0 || end != want || fault != api.OK {
					t.Errorf("Run(%v) = %v, %v, %d", p, marks, end, fault)
				}
			}
			for _, p := range [][][]Act{
				{f(a(Defer, 1), a(kind, n)), f(a(Recover))},
				{f(a(Defer, 1), a(Call, 2)), f(a(Recover)), f(a(kind, n))},
				{f(a(Defer, 1), a(Defer, 2), a(Int, 50)), f(a(Recover)), f(a(kind, n))},
			} {
				if marks, end, fault := Run(p); !slices.Equal(marks, []Mark{{Recover, kind, want.N}}) || end != (End{}) || fault != api.OK {
					t.Errorf("Run(%v) = %v, %v, %d", p, marks, end, fault)
				}
			}
		}
	}
}

// A panic act does panic, and but for three of them it is Go that does.
func TestPanicsAreOfGo(t *testing.T) {
	words := map[byte]string{
		Nil: "nil argument", Divide: "divide by zero", Index: "index out of range", Slice: "slice bounds out of range", Map: "nil map",
		Pointer: "nil pointer", Assert: "interface conversion", Convert: "cannot convert slice", Close: "close of closed channel",
		Send: "send on closed channel", Make: "makeslice",
	}
	for kind := Int; kind <= Make; kind++ {
		func() {
			defer func() {
				v := recover()
				c, ok := v.(*crash)
				if ok != (words[kind] != "") {
					t.Fatalf("the kind %d panics with %v", kind, v)
				}
				if !ok {
					return
				}
				if met, ok := c.Unwrap().(interface{ RuntimeError() }); !ok || !strings.Contains(c.Unwrap().Error(), words[kind]) {
					t.Errorf("the kind %d meets %v", kind, met)
				}
				if c.Error() == "" {
					t.Errorf("the kind %d has no words", kind)
				}
			}()
			fail(a(kind, 5))
			t.Errorf("the kind %d doesn't panic", kind)
		}()
	}
	if (&failure{5}).Error() == (&failure{6}).Error() {
		t.Error("failures have the same words")
	}
	if end := tell(3.5); end != (End{}) {
		t.Errorf("a stranger is told as %v", end)
	}
}

// lists: all lists of up to so many of the acts.
func lists(most int, acts ...Act) [][]Act {
	all := [][]Act{nil}
	for last := all; most > 0; most-- {
		var next [][]Act
		for _, list := range last {
			for _, act := range acts {
				next = append(next, append(slices.Clone(list), act))
			}
		}
		all = append(all, next...)
		last = next
	}
	return all
}

// All small programs of three functions.
func TestSmallPrograms(t *testing.T) {
	first := lists(3, a(Note, 1), a(Call, 1), a(Call, 2), a(Defer, 1), a(Defer, 2), a(Return), a(Recover), a(Int, 1))
	second := lists(2, a(Note, 2), a(Call, 2), a(Defer, 2), a(Return), a(Recover), a(Text, 2))
	third := lists(1, a(Note, 3), a(Recover), a(Error, 3))
	for _, x := range first {
		for _, y := range second {
			for _, z := range third {
				hold(t, [][]Act{x, y, z}, true)
			}
		}
	}
}

// strange: a program of so many functions of up to so many acts each, by chance;
// one act in so many is a panic.
func strange(r *rand.Rand, funcs, acts, rare int) [][]Act {
	p := make([][]Act, funcs)
	for i := range p {
		for range r.Intn(acts + 1) {
			act := a([]byte{Note, Note, Defer, Defer, Call, Recover, Recover}[r.Intn(7)], r.Intn(100))
			if r.Intn(rare) == 0 {
				act.Kind = byte(r.Intn(14)) + Int
			}
			if r.Intn(3*rare) == 0 {
				act.Kind = Return
			}
			if act.Kind == Call || act.Kind == Defer {
				if i == funcs-1 {
					continue
				}
				act.N = i + 1 + r.Intn(min(funcs-1-i, 4))
			}
			p[i] = append(p[i], act)
		}
	}
	return p
}

func TestStrangePrograms(t *testing.T) {
	r := rand.New(rand.NewSource(9))
	for range 20000 {
		hold(t, strange(r, 1+r.Intn(5), 6, 5), true)
	}
	for range 300 {
		hold(t, strange(r, 1+r.Intn(32), 64, 1+r.Intn(60)), false)
	}
}

// P9.5

// burnt: a program whose acts are 4033 + notes ones ahead of the last act of the
// function 0; 4 is remembered by then.
func burnt(notes int, last Act, four ...Act) [][]Act {
	return [][]Act{
		f(a(Defer, 4), a(Call, 1), last),
		append(many(62, a(Call, 2)), a(Call, 3)),
		many(64, a(Note, 2)),
		many(notes, a(Note, 3)),
		four,
		f(a(Note, 5)),
	}
}

func TestFuel(t *testing.T) {
	const notes = 62 * 64
	for _, c := range []struct {
		prog  [][]Act
		notes int    // that go ahead
		marks []Mark // behind them
		end   End
	}{
		// The panic and the Recover are begun; the panic alone; none.
		{burnt(61, a(Int, 7), a(Recover)), notes + 61, []Mark{recovered(Int, 7)}, End{}},
		{burnt(62, a(Int, 7), a(Recover)), notes + 62, nil, End{Int, 7}},
		{burnt(63, a(Int, 7), a(Recover)), notes + 63, nil, End{}},
		{burnt(64, a(Int, 7), a(Recover)), notes + 63, nil, End{}},
		{burnt(60, a(Divide), a(Recover), a(Note, 6)), notes + 60, []Mark{recovered(Divide, 0), noted(6)}, End{}},
		{burnt(61, a(Divide), a(Recover), a(Note, 6)), notes + 61, []Mark{recovered(Divide, 0)}, End{}},
		// A panic of a remembered one, which has the last of it, and one that has not.
		{burnt(61, a(Int, 7), a(Int, 8)), notes + 61, nil, End{Int, 8}},
		{burnt(62, a(Int, 7), a(Int, 8)), notes + 62, nil, End{Int, 7}},
		{burnt(62, a(Note, 9), a(Int, 8)), notes + 62, []Mark{noted(9)}, End{}},
		// A Call, a Defer and a Return take one.
		{burnt(61, a(Call, 5)), notes + 61, []Mark{noted(5)}, End{}},
		{burnt(62, a(Call, 5)), notes + 62, nil, End{}},
		{burnt(61, a(Defer, 5)), notes + 61, []Mark{noted(5)}, End{}},
		{burnt(62, a(Defer, 5)), notes + 62, nil, End{}},
		{burnt(61, a(Return), a(Note, 6)), notes + 61, []Mark{noted(6)}, End{}},
		{burnt(62, a(Return), a(Note, 6)), notes + 62, nil, End{}},
		// 4096 to the point, and more.
		{[][]Act{many(64, a(Call, 1)), many(63, a(Note, 1))}, 64 * 63, nil, End{}},
		{[][]Act{many(64, a(Call, 1)), many(64, a(Note, 1))}, 63 * 64, nil, End{}},
		{[][]Act{many(64, a(Defer, 1)), append(many(62, a(Note, 1)), a(Int, 1))}, 64 * 62, nil, End{Int, 1}},
	} {
		marks, end, fault := Run(c.prog)
		if len(marks) < c.notes || !slices.Equal(marks[c.notes:], c.marks) || end != c.end || fault != api.OK {
			t.Errorf("Run(%v) = %d marks, the last of them %v, %v, %d", c.prog, len(marks), marks[max(0, len(marks)-2):], end, fault)
		}
		hold(t, c.prog, true)
	}
}

// each: a program of 32 functions, of which all but the last have the acts that
// are made of the next one's number.
func each(acts func(next int) []Act) [][]Act {
	var p [][]Act
	for next := 1; next < 32; next++ {
		p = append(p, acts(next))
	}
	return append(p, many(64, a(Recover)))
}

// What would take ages without an end of fuel, or pile up many panics.
func TestGreatPrograms(t *testing.T) {
	for _, p := range [][][]Act{
		each(func(next int) []Act { return many(64, a(Call, next)) }),
		each(func(next int) []Act { return many(64, a(Defer, next)) }),
		each(func(next int) []Act { return append(many(63, a(Defer, next)), a(Int, next)) }),
		each(func(next int) []Act { return append(many(62, a(Defer, next)), a(Recover), a(Make)) }),
		each(func(next int) []Act { return f(a(Defer, next), a(Recover), a(Send), a(Note, 1)) }),
		each(func(next int) []Act { return f(a(Defer, next), a(Call, next), a(Int, next)) }),
		each(func(next int) []Act { return f(a(Call, next)) }),
		each(func(next int) []Act { return f(a(Defer, next), a(Defer, 31), a(Text, next)) }),
		{append(many(63, a(Defer, 1)), a(Int, 1)), append(many(62, a(Defer, 2)), a(Assert)), f(a(Convert))},
	} {
		hold(t, p, false)
	}
}

// The rules that hold everywhere

// What is handed in is not changed; of two answers one may be overwritten.
func TestMemory(t *testing.T) {
	for _, s := range slices.Concat(told, more) {
		p := roomy(s.prog)
		before := whole(p)
		first, end, _ := Run(p)
		if Check(p); !same(whole(p), before) {
			t.Fatalf("%v is changed to %v", before, whole(p))
		}
		for i := range first[:cap(first)] {
			first[:cap(first)][i] = Mark{9, 9, 9}
		}
		second, again, _ := Run(p)
		if !slices.Equal(second, s.marks) || again != end {
			t.Errorf("the second Run(%v) = %v, %v", s.prog, second, again)
		}
	}
}
