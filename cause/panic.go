package cause

import (
	"errors"
	"strconv"
)

// failure is the error with which the act Error panics.
type failure struct{ number int }

func (f *failure) Error() string { return "failure " + strconv.Itoa(f.number) }

// crash is a panic that Go met itself, wrapped with the class of the act: Go
// tells its own panics apart by their words alone.
type crash struct {
	class byte
	met   error
}

func (c *crash) Error() string { return "crash of class " + strconv.Itoa(int(c.class)) }

func (c *crash) Unwrap() error { return c.met }

// fail panics, as the act says.
func fail(act Act) {
	switch act.Kind {
	case Int:
		panic(act.N)
	case Text:
		panic(strconv.Itoa(act.N))
	case Error:
		panic(&failure{act.N})
	default:
		meet(act.Kind)
	}
}

// meet panics with a crash, behind what Go met.
func meet(class byte) {
	defer func() {
		c := &crash{class: class}
		if met, ok := recover().(error); ok {
			c.met = met
		}
		panic(c)
	}()
	stumble(class)
}

// stumble does what Go itself answers by a panic of that class.
func stumble(class byte) {
	var (
		list  []int
		table map[int]int
		place *int
		thing any
	)
	switch class {
	case Nil:
		panic(nil)
	case Divide:
		_ = 1 / len(list)
	case Index:
		list[len(list)]++
	case Slice:
		_ = list[:len(list)+1]
	case Map:
		table[0] = 1
	case Pointer:
		*place = 1
	case Assert:
		_ = thing.(int)
	case Convert:
		_ = [1]int(list)
	case Close:
		closed := make(chan int, 1)
		close(closed)
		close(closed)
	case Send:
		closed := make(chan int, 1)
		close(closed)
		closed <- 1
	case Make:
		_ = make([]int, len(list)-1)
	}
}

// tell: the class and the number of a panic that was caught; nil is none.
func tell(cause any) End {
	switch c := cause.(type) {
	case int:
		return End{Int, c}
	case string:
		return End{Text, numberOf(c)}
	case error:
		return tellError(c)
	}
	return End{}
}

func tellError(cause error) End {
	var f *failure
	if errors.As(cause, &f) {
		return End{Error, f.number}
	}
	var c *crash
	if errors.As(cause, &c) {
		return End{Class: c.class}
	}
	return End{}
}

// numberOf reads what strconv.Itoa wrote.
func numberOf(text string) int {
	n, err := strconv.Atoi(text)
	if err != nil {
		return 0
	}
	return n
}
