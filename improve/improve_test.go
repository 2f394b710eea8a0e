package improve

import (
	"slices"
	"testing"

	"sieve/api"
)

func TestFactsMeet(t *testing.T) {
	known := factsOf(3, 7)
	if known.at(0) != 7 || known.at(1) != unreached || known.at(2) != unreached {
		t.Fatalf("at first %v", known.ahead)
	}
	for _, c := range []struct{ told, want int }{{5, 5}, {5, 5}, {6, nothing}, {6, nothing}, {5, nothing}} {
		known.lead(1, c.told)
		if known.at(1) != c.want {
			t.Errorf("told %d: %d, want %d", c.told, known.at(1), c.want)
		}
	}
	known.lead(2, nothing)
	known.lead(2, 5)
	if known.at(2) != nothing {
		t.Errorf("nothing, then 5: %d", known.at(2))
	}
}

func TestFactsOutsideTheCode(t *testing.T) {
	known := factsOf(2, nothing)
	for _, i := range []int{-1, 2, 70000} {
		known.lead(i, 1)
		if known.at(i) != unreached {
			t.Errorf("at %d: %d", i, known.at(i))
		}
	}
	if !slices.Equal(known.ahead, []int{nothing, unreached}) {
		t.Errorf("%v", known.ahead)
	}
	none := factsOf(0, 5)
	if none.at(0) != unreached {
		t.Errorf("of no instruction: %d", none.at(0))
	}
}

// A pass gets sound codes alone, but even on others it must end.
func TestPassesOfUnsoundLists(t *testing.T) {
	for _, list := range [][]api.Instr{
		nil, {{}}, {{Op: api.Go}}, {{Op: api.Go, K: 65535}, {Op: api.Go, K: -9}}, {{Op: api.Equal, T: 255, F: 3}}, {{Op: api.Some, T: -5, F: -1}, {Op: api.Load, K: -1}},
		{{Op: api.Put, K: 5}}, {{Op: api.Load, K: 99}, {Op: api.Load, K: 99}}, {{Op: api.Div}, {Op: api.Down, K: 99}, {Op: api.Down, K: -1}, {Op: api.Answer}},
	} {
		for _, name := range []byte("djlkx") {
			if got := pass(list, name); len(got) > len(list) {
				t.Errorf("pass %c makes %v of %v", name, got, list)
			}
		}
	}
}

// A list that is handed in is not written into, and what comes out is another
// one, so that a pass can't undo what the one before it did.
func TestPassesLeaveTheirList(t *testing.T) {
	list := []api.Instr{{Op: api.Put, K: 3}, {Op: api.Equal, K: 3}, {Op: api.Load, K: 4}, {Op: api.Load, K: 4}, {Op: api.Go}, {Op: api.Answer}, {Op: api.Return}}
	was := slices.Clone(list)
	for _, name := range []byte("djlk") {
		got := pass(list, name)
		if !slices.Equal(list, was) {
			t.Fatalf("pass %c wrote into its list: %v", name, list)
		}
		for i := range got {
			got[i] = api.Instr{}
		}
		if !slices.Equal(list, was) {
			t.Fatalf("pass %c answered its list", name)
		}
	}
}
