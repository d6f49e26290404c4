package core

import "spigot/mach"

// counter is a word of the machine that calls move up and down.
type counter struct {
	words  *mach.Mach
	number int
	limit  int64
}

// behind is how a call goes on when a counter was moved, in the same step; it is
// told to what.
type behind func(value int64) (Result, step)

// up moves it up by one: a Load and a Swap, over and over till that is done. Where
// it is at its limit the call goes on as full says.
func (c counter) up(who int, full func() (Result, step), done behind) step {
	return func() (Result, step) {
		value := c.load(who)
		if value == c.limit {
			return full()
		}
		return Result{}, c.swap(who, value, value+1, c.up(who, full, done), done)
	}
}

// down moves it down by n, which were counted before, in the same way.
func (c counter) down(who int, n int64, done behind) step {
	return func() (Result, step) {
		value := c.load(who)
		return Result{}, c.swap(who, value, value-n, c.down(who, n, done), done)
	}
}

func (c counter) swap(who int, old, value int64, again step, done behind) step {
	return func() (Result, step) {
		// The machine has the word, here and below, and who is a worker: no access
		// fails.
		if swapped, _ := c.words.Swap(who, c.number, uint64(old), uint64(value)); !swapped {
			return Result{}, again
		}
		return done(value)
	}
}

func (c counter) load(who int) int64 {
	value, _ := c.words.Load(who, c.number)
	return int64(value)
}

// value is asked without an access.
func (c counter) value() int64 {
	value, _ := c.words.Word(c.number)
	return int64(value)
}
