package backward

import (
	"slices"
	"testing"

	"sieve/api"
)

// wantList asks for the instructions that are built.
func wantList(t *testing.T, c *Code, want ...api.Instr) {
	t.Helper()
	if got := c.List(); !slices.Equal(got, want) {
		t.Errorf("%v, want %v", got, want)
	}
}

func TestAdd(t *testing.T) {
	var c Code
	if c.First() != -1 {
		t.Errorf("of nothing the first place is %d", c.First())
	}
	wantList(t, &c)
	end := api.Instr{Op: api.Return, K: 7}
	load := api.Instr{Op: api.Load, K: 4}
	c.Add(end)
	c.Add(load)
	if c.First() != 1 || c.Hop(1) != 0 || c.Hop(0) != 1 {
		t.Errorf("the first place is %d, hops %d, %d", c.First(), c.Hop(1), c.Hop(0))
	}
	wantList(t, &c, load, end)
}

func TestAddTest(t *testing.T) {
	var c Code
	end := api.Instr{Op: api.Return, K: 7}
	other := api.Instr{Op: api.Answer}
	c.Add(end)
	c.Add(other)
	c.AddTest(api.Above, 9, 0, 1)
	above := api.Instr{Op: api.Above, T: 1, F: 0, K: 9}
	wantList(t, &c, above, other, end)
	c.AddTest(api.Equal, 8, 2, 0)
	equal := api.Instr{Op: api.Equal, T: 0, F: 2, K: 8}
	wantList(t, &c, equal, above, other, end)
	// There is nothing to test, if it leads to one place.
	c.AddTest(api.Some, 1, 3, 3)
	wantList(t, &c, equal, above, other, end)
	c.AddTest(api.Some, 1, 0, 0)
	wantList(t, &c, end, equal, above, other, end)
}

func TestAddGo(t *testing.T) {
	var c Code
	end := api.Instr{Op: api.Answer}
	load := api.Instr{Op: api.Load, K: 4}
	c.Add(end)
	c.Add(load)
	c.AddGo(1)
	wantList(t, &c, load, end)
	c.AddGo(0)
	wantList(t, &c, end, load, end)
	c.AddGo(1)
	first := api.Instr{Op: api.Go, K: 1}
	wantList(t, &c, first, end, load, end)
	c.Add(end)
	c.AddGo(3)
	wantList(t, &c, api.Instr{Op: api.Go, K: 3}, end, first, end, load, end)
	// Where there is nothing, nothing leads.
	for _, to := range []int{-1, 6, 70000} {
		c.AddGo(to)
	}
	if c.First() != 5 {
		t.Errorf("the first place is %d", c.First())
	}
}

func TestCut(t *testing.T) {
	var c Code
	end := api.Instr{Op: api.Answer}
	load := api.Instr{Op: api.Load, K: 4}
	c.Add(end)
	c.Add(load)
	c.Add(end)
	for _, first := range []int{2, 3, 70000, -1} {
		c.Cut(first)
		wantList(t, &c, end, load, end)
	}
	c.Cut(1)
	wantList(t, &c, load, end)
	c.Cut(0)
	wantList(t, &c, end)
	c.Add(load)
	wantList(t, &c, load, end)
}

// What is built later leaves the lists that were told.
func TestListIsNew(t *testing.T) {
	var c Code
	end := api.Instr{Op: api.Answer}
	c.Add(end)
	list := c.List()
	list[0] = api.Instr{}
	wantList(t, &c, end)
}
