package daemon

import "spigot/api"

// step: the line of a connection that isn't gone goes on by one access, or by what
// needs none.
func (d *Daemon) step(number int) {
	l := &d.lines[number]
	if d.limiter.Pending(number) {
		d.goOn(number)
	} else if call, is := l.next(d.drains); is {
		d.begin(number, call)
	}
	l.keepWritten()
}

// begin: a call begins, and does its first access. One that is refused has its reply
// at once.
func (d *Daemon) begin(number int, call api.Call) {
	if fault := d.limiter.Start(number, call); fault != api.OK {
		d.lines[number].answer(api.Reply{E: fault})
		return
	}
	d.goOn(number)
}

// goOn: the pending call does its next access.
func (d *Daemon) goOn(number int) {
	// The number is a worker's, who has a pending call: there is no fault.
	if brought, _ := d.limiter.Step(number); brought.Done {
		d.lines[number].answer(brought.Reply)
	}
}
