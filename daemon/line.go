package daemon

import (
	"spigot/api"
	"spigot/conn"
)

// The states of a line.
const (
	gone = iota
	open
	hungUp
)

// line is a connection, and what the daemon knows of it beside. Where it is gone,
// there is no connection, and nothing but what was written to it is kept.
type line struct {
	*conn.Conn
	state   int
	written []byte
	giving  bool        // the ledger was looked at: from then on nothing but Releases is begun
	left    []api.Token // those of the ledger whose Release has not begun
}

// refuses: the error of an event, as far as the line's state tells it, or OK.
func (l *line) refuses(kind byte, drains bool) api.Errno {
	switch {
	case kind == Connect && l.state != gone:
		return api.ErrBusy
	case kind != Connect && l.state == gone:
		return api.ErrNone
	case drains && (kind == Connect || kind == Bytes):
		return api.ErrClosed
	case l.state == hungUp && (kind == Bytes || kind == Hangup):
		return api.ErrClosed
	}
	return api.OK
}

func (l *line) connect() { *l = line{Conn: conn.New(), state: open} }

func (l *line) hangUp() {
	l.Hangup()
	l.state = hungUp
}

// next: the next call of a line that has none under way, if there is one. Where it
// has come to its end, the line goes on towards being gone.
func (l *line) next(drains bool) (api.Call, bool) {
	if l.state == hungUp {
		return l.nextRelease()
	}
	call, fault := l.Next()
	if fault == api.ErrClosed || fault == api.ErrNone && drains {
		l.hangUp()
	}
	return call, fault == api.OK
}

// nextRelease: the Release of the first token that is left, or the line is gone.
func (l *line) nextRelease() (api.Call, bool) {
	if !l.giving {
		// No request is out any more: the ledger stays as it is from now on.
		l.giving, l.left = true, l.Ledger()
	}
	if len(l.left) == 0 {
		*l = line{written: l.written}
		return api.Call{}, false
	}
	first := l.left[0]
	l.left = l.left[1:]
	return api.Call{Op: api.OpRelease, Policy: first.Policy, Key: first.Key, N: first.Serial}, true
}

// answer: the call that was under way has this reply. That of a Release which the
// line itself has begun is nobody's.
func (l *line) answer(r api.Reply) {
	if !l.giving {
		l.Reply(r)
	}
}

// keepWritten: what the connection has to write is written.
func (l *line) keepWritten() { l.written = append(l.written, l.Take()...) }
