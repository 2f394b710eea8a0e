package improve

import (
	"sieve/api"
	"sieve/machine"
)

// What is known ahead of an instruction, if it is no number from 0 on.
const (
	nothing   = -1
	unreached = -2
)

// facts holds what is known ahead of each instruction of a sound code. Ways
// only lead on, so that all is told of an instruction when those in front of it
// have been gone through.
type facts struct {
	ahead []int
}

// factsOf begins the facts of a code of so many instructions, with what is
// known ahead of the first one.
func factsOf(count int, first int) facts {
	ahead := make([]int, count)
	for i := 0; i < len(ahead); i++ {
		ahead[i] = unreached
	}
	if len(ahead) > 0 {
		ahead[0] = first
	}
	return facts{ahead: ahead}
}

// at tells what is known ahead of the instruction i.
func (f *facts) at(i int) int {
	if i < 0 || i >= len(f.ahead) {
		return unreached
	}
	return f.ahead[i]
}

// goOn tells along the ways from the instruction i, which is x, what is known:
// one thing along the way by T, and one along any other.
func (f *facts) goOn(i int, x api.Instr, byT int, other int) {
	if machine.IsTest(x.Op) {
		f.lead(i+1+x.T, byT)
		f.lead(i+1+x.F, other)
		return
	}
	if x.Op == api.Go {
		f.lead(i+1+x.K, other)
		return
	}
	if !machine.IsEnd(x.Op) {
		f.lead(i+1, other)
	}
}

// lead tells that a way leads to an instruction, and what is known along it.
// Ways that do not agree leave nothing known.
func (f *facts) lead(to int, known int) {
	if to < 0 || to >= len(f.ahead) {
		return
	}
	if f.ahead[to] == unreached {
		f.ahead[to] = known
		return
	}
	if f.ahead[to] != known {
		f.ahead[to] = nothing
	}
}
