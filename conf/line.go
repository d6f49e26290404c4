package conf

import (
	"strconv"
	"strings"

	"spigot/api"
	"spigot/rate"
	"spigot/word"
)

// A line is words with a blank between, of which the first says what it tells.
const (
	end       = "\n"
	blank     = " "
	wordRate  = "rate"
	wordLimit = "limit"
	wordSema  = "sema"
)

// read: what a line tells.
func read(line string) (Named, api.Errno) {
	words := strings.Split(line, blank)
	if len(words) < 2 || !word.Name(words[1]) {
		return Named{}, api.ErrText
	}
	p, fault := policy(words[0], words[2:])
	if fault != api.OK {
		return Named{}, fault
	}
	// A piece of the text would keep all of it.
	return Named{Name: strings.Clone(words[1]), Policy: p}, api.OK
}

// policy: what the words behind the name tell.
func policy(kind string, words []string) (api.Policy, api.Errno) {
	switch {
	case kind == wordRate && len(words) == 3:
		return ofRate(words[0], words[1], words[2])
	case kind == wordLimit && len(words) == 2:
		return ofLimit(words[0], words[1])
	case kind == wordSema && len(words) == 1:
		return ofSema(words[0])
	}
	return api.Policy{}, api.ErrText
}

func ofRate(perSecond, burst, hz string) (api.Policy, api.Errno) {
	many, fault := Float(perSecond)
	if fault != api.OK {
		return api.Policy{}, api.ErrText
	}
	more, fault := Float(burst)
	if fault != api.OK {
		return api.Policy{}, api.ErrText
	}
	ticks, ok := word.Whole(hz)
	if !ok {
		return api.Policy{}, api.ErrText
	}
	l, fault := rate.Of(rate.Rate{PerSecond: many, Burst: more, Hz: ticks})
	if fault != api.OK {
		return api.Policy{}, fault
	}
	return api.Policy{Kind: api.KindRate, Limit: l}, api.OK
}

func ofLimit(gap, ahead string) (api.Policy, api.Errno) {
	t, isGap := word.Whole(gap)
	tau, isAhead := word.Whole(ahead)
	if !isGap || !isAhead {
		return api.Policy{}, api.ErrText
	}
	l := api.Limit{T: t, Tau: tau}
	if rate.Check(l) != api.OK {
		return api.Policy{}, api.ErrForm
	}
	return api.Policy{Kind: api.KindRate, Limit: l}, api.OK
}

func ofSema(permits string) (api.Policy, api.Errno) {
	n, ok := word.Whole(permits)
	if !ok {
		return api.Policy{}, api.ErrText
	}
	if n < 1 || n > api.MaxPermits {
		return api.Policy{}, api.ErrForm
	}
	return api.Policy{Kind: api.KindSema, Permits: int(n)}, api.OK
}

// tell: the line of a policy that is in form.
func tell(n Named) string {
	words := []string{wordSema, n.Name, strconv.Itoa(n.Policy.Permits)}
	if n.Policy.Kind == api.KindRate {
		l := n.Policy.Limit
		words = []string{wordLimit, n.Name, strconv.FormatInt(l.T, 10), strconv.FormatInt(l.Tau, 10)}
	}
	return strings.Join(words, blank) + end
}
