package shell

import (
	"strconv"

	"spigot/api"
	"spigot/conf"
	"spigot/core"
	"spigot/token"
	"spigot/word"
)

// play is a limiter that a script goes on with, alone.
type play struct {
	list    []conf.Named
	limiter *core.Core
}

// The worker by whom all calls are done.
const who = 0

// answer: what a line brings.
func (p *play) answer(line string) string {
	words := wordsOf(line)
	switch {
	case begins(words, tick, 1):
		return p.tick(words[1])
	case begins(words, cells, 0):
		return numbered(cells, int64(len(p.limiter.Cells())))
	case begins(words, count, 0):
		return numbered(count, p.limiter.Count())
	}
	call, fault := read(p.list, words)
	if fault != api.OK {
		return failed(fault)
	}
	reply := p.do(call)
	if reply.E != api.OK {
		return failed(reply.E)
	}
	return p.tell(call, reply)
}

func (p *play) tick(span string) string {
	n, ok := word.Whole(span)
	if !ok {
		return failed(api.ErrText)
	}
	// A whole number is a tick: there is no fault.
	now, _ := p.limiter.Tick(n)
	return numbered("now", now)
}

// do: the call, stepped till it returns.
func (p *play) do(call api.Call) api.Reply {
	if fault := p.limiter.Start(who, call); fault != api.OK {
		return api.Reply{E: fault}
	}
	var r core.Result
	for !r.Done {
		// The call is pending till it is done: there is no fault.
		r, _ = p.limiter.Step(who)
	}
	return r.Reply
}

// tell: the answer to a call with the reply OK.
func (p *play) tell(call api.Call, r api.Reply) string {
	switch call.Op {
	case api.OpAllow:
		return tellAllow(r)
	case api.OpAcquire:
		return tokenText(api.Token{Policy: call.Policy, Key: call.Key, Serial: r.Serial})
	case api.OpPeek:
		return p.tellPeek(call.Policy, r)
	case api.OpEvict:
		return numbered("gone", r.Left)
	case api.OpSplit:
		level, _ := p.limiter.Level()
		return numbered("level", int64(level))
	}
	return tellFree(r)
}

func tellAllow(r api.Reply) string {
	switch {
	case r.Granted:
		return numbered("yes", r.Left)
	case r.Wait == api.Max:
		return "no never"
	}
	return numbered("no", r.Wait)
}

func (p *play) tellPeek(policy int, r api.Reply) string {
	if p.list[policy].Policy.Kind == api.KindSema {
		return tellFree(r)
	}
	return numbered("left", r.Left) + " " + numbered("wait", r.Wait)
}

func tellFree(r api.Reply) string { return numbered("free", r.Left) }

// tokenText: of a token that the limiter has given, so that it has a form.
func tokenText(t api.Token) string {
	p, _ := token.Encode(t)
	return token.Hex(p)
}

func failed(fault api.Errno) string { return numbered("error", int64(fault)) }

func numbered(what string, n int64) string { return what + " " + strconv.FormatInt(n, 10) }
