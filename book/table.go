package book

import (
	"spigot/api"
	"spigot/perm"
	"spigot/rate"
)

// Policies: the error of a table.
func Policies(list []api.Policy) api.Errno {
	if len(list) > api.MaxPolicies {
		return api.ErrLong
	}
	for _, p := range list {
		if !isPolicy(p) {
			return api.ErrForm
		}
	}
	return api.OK
}

func isPolicy(p api.Policy) bool {
	switch p.Kind {
	case api.KindRate:
		return rate.Check(p.Limit) == api.OK
	case api.KindSema:
		return perm.Check(perm.Sema{Permits: p.Permits}) == api.OK
	}
	return false
}

// Check: the error of a call.
func Check(list []api.Policy, c api.Call) api.Errno {
	return least(checkCall(list, c), Policies(list))
}

// checkCall: the error of a call where list is a table.
func checkCall(list []api.Policy, c api.Call) api.Errno {
	switch {
	case c.Op < api.OpAllow || c.Op > api.OpSplit:
		return api.ErrArg
	case c.Op == api.OpEvict || c.Op == api.OpSplit:
		return api.OK
	case c.Op == api.OpAllow && !isTick(c.N):
		return api.ErrArg
	case len(c.Key) > api.MaxKey:
		return api.ErrLong
	case c.Policy < 0 || c.Policy >= len(list) || !isKind(c.Op, list[c.Policy].Kind):
		return api.ErrPolicy
	}
	return api.OK
}

// isKind: may the call be one under a policy of the kind?
func isKind(op, kind byte) bool {
	switch op {
	case api.OpAllow:
		return kind == api.KindRate
	case api.OpAcquire, api.OpRelease:
		return kind == api.KindSema
	}
	return true
}

// least: of several errors the one with the least number; OK is none.
func least(faults ...api.Errno) api.Errno {
	found := api.OK
	for _, fault := range faults {
		if fault != api.OK && (found == api.OK || fault < found) {
			found = fault
		}
	}
	return found
}

func isTick(n int64) bool { return n >= 0 && n <= api.Max }
