package improve

import (
	"sieve/api"
	"sieve/backward"
	"sieve/machine"
)

// shortenJumps is the pass j. It builds the code from its end on: where an
// instruction leads is built then, and stays as it is, so that one walk is
// enough.
func shortenJumps(list []api.Instr) []api.Instr {
	s := shortening{places: make([]int, len(list))}
	for i := len(list) - 1; i >= 0; i-- {
		s.add(list[i], i)
		s.places[i] = s.code.First()
	}
	return s.code.List()
}

// shortening is the part of a code that is built, and of each instruction of
// the old code the place where a run now goes on that went on there.
type shortening struct {
	code   backward.Code
	places []int
}

// place tells the place of the instruction i of the old code.
func (s *shortening) place(i int) int {
	if i < 0 || i >= len(s.places) {
		return s.code.First()
	}
	return s.places[i]
}

// add builds what stands for the instruction i of the old code, which is x.
func (s *shortening) add(x api.Instr, i int) {
	if x.Op == api.Go {
		to := s.place(i + 1 + x.K)
		s.code.AddGo(to)
		return
	}
	if machine.IsTest(x.Op) {
		byT := s.place(i + 1 + x.T)
		byF := s.place(i + 1 + x.F)
		s.code.AddTest(x.Op, x.K, byT, byF)
		return
	}
	s.code.Add(x)
}
