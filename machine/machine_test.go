package machine

import (
	"slices"
	"strings"
	"testing"

	"sieve/api"
)

const big = int(^uint(0) >> 1)

func TestReadAnswersTheListOfASoundCode(t *testing.T) {
	list := []api.Instr{{Op: api.Load, K: 18}, {Op: api.Some, T: 1, K: 65535}, {Op: api.Answer}, {Op: api.Return, K: 7}}
	code, e := Encode(list)
	if e != api.OK {
		t.Fatalf("Encode = %d", e)
	}
	got, e, at := Read(code)
	if !slices.Equal(got, list) || e != api.OK || at != 0 {
		t.Errorf("Read = %v, %d, %d", got, e, at)
	}
}

func TestReadAnswersNoListWithAnError(t *testing.T) {
	for _, code := range []string{"", "x", strings.Repeat("x", 5121), "\x00\x00\x00\x00\x00", "\x0f\x01\x00\x00\x00", "\x02\x00\x00\x00\x00", "\x0a\x00\x00\x00\x00"} {
		if list, e, _ := Read(code); list != nil || e == api.OK {
			t.Errorf("Read(%.20q) = %v, %d", code, list, e)
		}
	}
}

func TestWithin(t *testing.T) {
	for _, c := range []struct {
		number, top int
		want        bool
	}{{-big - 1, 3, false}, {-1, 3, false}, {0, 3, true}, {3, 3, true}, {4, 3, false}, {big, 3, false}, {0, 0, true}} {
		if got := within(c.number, c.top); got != c.want {
			t.Errorf("within(%d, %d) = %v", c.number, c.top, got)
		}
	}
}

// No sound code has such operands, but even they must not panic.
func TestWrongOperandsLeaveTheState(t *testing.T) {
	was := state{a: 100, cells: [api.Cells]int{1, 2, 3, 4}}
	for _, x := range []api.Instr{
		{Op: api.Take, K: -1}, {Op: api.Take, K: 4}, {Op: api.Keep, K: -1}, {Op: api.Keep, K: 4}, {Op: api.Keep, K: big},
		{Op: api.Div, K: 0}, {Op: api.Down, K: -1}, {Op: api.Down, K: 16}, {Op: api.Go, K: 1}, {Op: api.Equal, K: 1}, {Op: 0, K: 1}, {Op: 17, K: 1},
	} {
		s := was
		s.do(x, strings.Repeat("\x00", 20))
		if s != was {
			t.Errorf("%+v makes %+v of %+v", x, s, was)
		}
	}
}

func TestRunOfAListWithoutAnEnd(t *testing.T) {
	for _, list := range [][]api.Instr{nil, {{Op: api.Put, K: 5}}, {{Op: api.Go, K: 65535}}, {{Op: api.Equal, T: 255}}} {
		if v, steps := run(list, ""); v != 0 || steps != len(list) {
			t.Errorf("run(%v) = %d, %d", list, v, steps)
		}
	}
}
