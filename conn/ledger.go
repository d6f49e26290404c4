package conn

import (
	"bytes"
	"slices"

	"spigot/api"
)

// ledger is the tokens that a connection holds, in the order in which they were
// acquired.
type ledger []api.Token

// after: the ledger, when a call has had its reply. The call's key is kept.
func (l ledger) after(call api.Call, r api.Reply) ledger {
	if r.E != api.OK {
		return l
	}
	switch call.Op {
	case api.OpAcquire:
		return append(l, api.Token{Policy: call.Policy, Key: call.Key, Serial: r.Serial})
	case api.OpRelease:
		return slices.DeleteFunc(l, func(t api.Token) bool { return isOf(t, call) })
	}
	return l
}

// isOf: is it the token that a Release gives back?
func isOf(t api.Token, release api.Call) bool {
	return t.Serial == release.N && t.Policy == release.Policy && bytes.Equal(t.Key, release.Key)
}

// tell: the tokens as they are answered.
func (l ledger) tell() []api.Token {
	told := slices.Clone(l)
	for i := range told {
		told[i].Key = bytes.Clone(told[i].Key)
	}
	return told
}
