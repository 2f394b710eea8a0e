package machine

import (
	"sieve/api"
	"sieve/words"
)

// Run runs a code on a record, and tells the verdict and the number of steps.
func Run(code string, record string) (int, int, api.Errno) {
	list, e, _ := Read(code)
	if e != api.OK {
		return 0, 0, e
	}
	if !words.IsRecord(record) {
		return 0, 0, api.ErrRecord
	}
	verdict, steps := run(list, record)
	return verdict, steps, api.OK
}

// run runs the instructions of a sound code. It ends, since no hop leads back.
func run(list []api.Instr, record string) (int, int) {
	var s state
	steps := 0
	at := 0
	for at < len(list) {
		x := list[at]
		steps++
		if x.Op == api.Return {
			return x.K, steps
		}
		if x.Op == api.Answer {
			return s.a, steps
		}
		s.do(x, record)
		at += 1 + Hop(x, s.a)
	}
	return 0, steps
}

// state is what the machine holds.
type state struct {
	a     int
	cells [api.Cells]int
}

// do does what an instruction does to the state.
func (s *state) do(x api.Instr, record string) {
	switch x.Op {
	case api.Load:
		s.a = words.At(record, x.K)
	case api.Put:
		s.a = x.K
	case api.Take:
		if within(x.K, api.Cells-1) {
			s.a = s.cells[x.K]
		}
	case api.Keep:
		if within(x.K, api.Cells-1) {
			s.cells[x.K] = s.a
		}
	default:
		s.a = Reckon(x.Op, s.a, x.K)
	}
}

// Reckon tells what a becomes by an operation that reckons with it and k. Any
// other operation leaves it.
func Reckon(op int, a int, k int) int {
	switch op {
	case api.And:
		return a & k
	case api.Or:
		return a | k
	case api.Add:
		return (a + k) & words.Max
	case api.Div:
		if k != 0 {
			return a / k
		}
	case api.Down:
		if within(k, api.MaxDown) {
			return a >> k
		}
	}
	return a
}

// Hop tells how many instructions the run leaves out behind this one, if the
// accumulator is a.
func Hop(x api.Instr, a int) int {
	if x.Op == api.Go {
		return x.K
	}
	if !IsTest(x.Op) {
		return 0
	}
	if holds(x.Op, a, x.K) {
		return x.T
	}
	return x.F
}

// holds tells whether a test of a against k holds.
func holds(op int, a int, k int) bool {
	switch op {
	case api.Equal:
		return a == k
	case api.Above:
		return a > k
	case api.Least:
		return a >= k
	case api.Some:
		return a&k != 0
	}
	return false
}
