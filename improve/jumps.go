package improve

import (
	"sieve/api"
	"sieve/machine"
)

// shortenJumps is the pass j. It builds the code from its end on: where an
// instruction leads is built then, and stays as it is, so that one walk is
// enough.
func shortenJumps(list []api.Instr) []api.Instr {
	b := build{places: make([]int, len(list))}
	for i := len(list) - 1; i >= 0; i-- {
		b.add(list[i], i)
		b.places[i] = b.first()
	}
	return backwards(b.built)
}

// build is the part of a code that is built: its instructions from the last one
// to the first one, and of each instruction of the old code the place in built
// where a run now goes on that went on there.
type build struct {
	built  []api.Instr
	places []int
}

// first tells the place of the instruction that is the first one by now.
func (b *build) first() int {
	return len(b.built) - 1
}

// place tells the place of the instruction i of the old code.
func (b *build) place(i int) int {
	if i < 0 || i >= len(b.places) {
		return b.first()
	}
	return b.places[i]
}

// add builds what stands for the instruction i of the old code, which is x.
func (b *build) add(x api.Instr, i int) {
	if x.Op == api.Go {
		to := b.place(i + 1 + x.K)
		b.addGo(to)
		return
	}
	if machine.IsTest(x.Op) {
		byT := b.place(i + 1 + x.T)
		byF := b.place(i + 1 + x.F)
		b.addTest(x, byT, byF)
		return
	}
	b.built = append(b.built, x)
}

// addTest builds a test that leads to two places.
func (b *build) addTest(x api.Instr, byT int, byF int) {
	if byT == byF {
		b.addGo(byT)
		return
	}
	x.T = b.first() - byT
	x.F = b.first() - byF
	b.built = append(b.built, x)
}

// addGo builds what leads to a place: nothing, if that comes next anyway; what
// stands there, if the run ends with it.
func (b *build) addGo(to int) {
	if to < 0 || to >= b.first() {
		return
	}
	y := b.built[to]
	if machine.IsEnd(y.Op) {
		b.built = append(b.built, y)
		return
	}
	x := api.Instr{Op: api.Go, K: b.first() - to}
	if y.Op == api.Go {
		x.K += 1 + y.K
	}
	b.built = append(b.built, x)
}

// backwards makes a list that begins with the last one.
func backwards(list []api.Instr) []api.Instr {
	turned := make([]api.Instr, 0, len(list))
	for i := len(list) - 1; i >= 0; i-- {
		turned = append(turned, list[i])
	}
	return turned
}
