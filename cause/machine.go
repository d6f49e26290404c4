package cause

// machine is a program under way.
type machine struct {
	prog  [][]Act
	fuel  int
	marks []Mark
}

// run is a run of a function.
type run struct {
	by    *run // the run that remembered the function; nil: it was called
	cause any  // the panic by which this run has ended, unless it is recovered
}

// run runs a function and answers the panic that goes out of it, or nil. None
// goes farther up Go's stack than this, or many of them would pile up there.
func (m *machine) run(number int, by *run) any {
	r := &run{by: by}
	m.begin(m.prog[number], r)
	return r.cause
}

// begin begins the acts one behind the other, till the run ends. Each function
// that they remember is deferred, and the first that is run recovers what ended
// the run; where they remember none, the one that is deferred ahead of them does.
func (m *machine) begin(acts []Act, r *run) {
	defer func() { r.end(recover()) }()
	for _, act := range acts {
		if m.fuel == 0 {
			return
		}
		m.fuel--
		switch act.Kind {
		case Note:
			m.mark(Note, End{N: act.N})
		case Call:
			m.call(act.N)
		case Defer:
			defer func() {
				r.end(recover())
				r.end(m.run(act.N, r))
			}()
		case Return:
			return
		case Recover:
			m.mark(Recover, tell(r.recovered()))
		default:
			fail(act)
		}
	}
}

// call: a panic that goes out of the function goes on in the run that calls.
func (m *machine) call(number int) {
	if cause := m.run(number, nil); cause != nil {
		panic(cause)
	}
}

func (m *machine) mark(kind byte, what End) {
	m.marks = append(m.marks, Mark{kind, what.Class, what.N})
}

// end: a panic takes the place of the one by which the run had ended; nil is
// none, and leaves it.
func (r *run) end(cause any) {
	if cause != nil {
		r.cause = cause
	}
}

// recovered: the panic because of which the run is, which is over by that.
func (r *run) recovered() any {
	if r.by == nil {
		return nil
	}
	cause := r.by.cause
	r.by.cause = nil
	return cause
}
