// Package backward: codes that are built from their end on. Ways only lead on,
// so wherever an instruction leads is built by the time that it is added.
package backward

import (
	"sieve/api"
	"sieve/machine"
)

// Code is the part of a code that is built: its instructions from the last one
// to the first one. The place of an instruction is its number in that order,
// since that stays as it is when more are added in front of it.
type Code struct {
	built []api.Instr
}

// First tells the place of the instruction that is the first one by now.
func (c *Code) First() int {
	return len(c.built) - 1
}

// Hop tells how many instructions would be left out by a run that goes to a
// place from the instruction that is added next.
func (c *Code) Hop(to int) int {
	return len(c.built) - 1 - to
}

// Add adds an instruction that leads to no place, or to the first one.
func (c *Code) Add(x api.Instr) {
	c.built = append(c.built, x)
}

// AddTest adds a test that leads to two places; if they are one, what leads
// there without a test.
func (c *Code) AddTest(op int, k int, byT int, byF int) {
	if byT == byF {
		c.AddGo(byT)
		return
	}
	t := c.Hop(byT)
	f := c.Hop(byF)
	c.built = append(c.built, api.Instr{Op: op, T: t, F: f, K: k})
}

// AddGo adds what leads to a place: nothing, if that comes next anyway; what
// stands there, if the run ends with it.
func (c *Code) AddGo(to int) {
	if to < 0 || to >= len(c.built)-1 {
		return
	}
	y := c.built[to]
	if machine.IsEnd(y.Op) {
		c.built = append(c.built, y)
		return
	}
	x := api.Instr{Op: api.Go, K: c.Hop(to)}
	if y.Op == api.Go {
		x.K += 1 + y.K
	}
	c.built = append(c.built, x)
}

// Cut drops what stands in front of a place: nothing behind it leads back.
func (c *Code) Cut(first int) {
	if first >= 0 && first < len(c.built) {
		c.built = c.built[:first+1]
	}
}

// List tells the instructions from the first one on.
func (c *Code) List() []api.Instr {
	list := make([]api.Instr, 0, len(c.built))
	for i := len(c.built) - 1; i >= 0; i-- {
		list = append(list, c.built[i])
	}
	return list
}
