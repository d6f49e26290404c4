package shard

// step does one access of a call, and tells what the call does next: nothing, if
// it has returned.
type step func() (Result, step)

// read is the Load with which a call begins, and begins anew: the call returns,
// or a Swap for the version that was made out of the one that was read comes next.
func (s *Shard) read(who int, c call) step {
	return func() (Result, step) {
		// New has made the word, and Start has looked at who: there is no fault.
		number, _ := s.word.Load(who, theVersion)
		answer, made := c.of(s.holds)
		if !c.changes(answer) {
			return answer, nil
		}
		return Result{}, s.write(who, c, number, made, answer)
	}
}

// write puts the version that was made in the place of the one that was read.
func (s *Shard) write(who int, c call, number uint64, made version, answer Result) step {
	return func() (Result, step) {
		// There is no fault here, either.
		done, _ := s.word.Swap(who, theVersion, number, number+1)
		if !done {
			return Result{}, s.read(who, c)
		}
		s.holds = made
		return answer, nil
	}
}
