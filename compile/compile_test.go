package compile

import (
	"slices"
	"strings"
	"testing"

	"sieve/api"
	"sieve/rules"
)

// listOf makes the instructions of a policy.
func listOf(t *testing.T, text string) []api.Instr {
	t.Helper()
	p, e, at := rules.Parse(text)
	if e != api.OK {
		t.Fatalf("%q is no policy: %d at %d", text, e, at)
	}
	return instructions(p)
}

func TestInstructions(t *testing.T) {
	end := func(k int) api.Instr { return api.Instr{Op: api.Return, K: k} }
	load := func(k int) api.Instr { return api.Instr{Op: api.Load, K: k} }
	for _, c := range []struct {
		text string
		want []api.Instr
	}{
		{".0007", []api.Instr{end(7)}},
		{"?!T:0001.0007", []api.Instr{end(7)}},
		{"?&n=0005!T:0001.0007", []api.Instr{end(7)}},
		{"?&!Tn=0005:0001.0007", []api.Instr{end(7)}},
		{"?n=0005:0001.0007", []api.Instr{load(0), {Op: api.Equal, T: 0, F: 1, K: 5}, end(1), end(7)}},
		{"?|!T&Th<0005:0001.0007", []api.Instr{load(2), {Op: api.Least, T: 1, F: 0, K: 5}, end(1), end(7)}},
		{"?a1>00020005:0001.0007", []api.Instr{
			load(10), {Op: api.Above, T: 3, F: 0, K: 2}, {Op: api.Equal, T: 0, F: 3, K: 2},
			load(8), {Op: api.Above, T: 0, F: 1, K: 5}, end(1), end(7)}},
		{"?a3&00ff0000=00050000:0001.0007", []api.Instr{load(18), {Op: api.And, K: 0xff}, {Op: api.Equal, T: 0, F: 1, K: 5}, end(1), end(7)}},
		{"?a3&0000ffff=00000005:0001.0007", []api.Instr{load(16), {Op: api.Equal, T: 0, F: 1, K: 5}, end(1), end(7)}},
	} {
		if got := listOf(t, c.text); !slices.Equal(got, c.want) {
			t.Errorf("%q: %v, want %v", c.text, got, c.want)
		}
	}
}

// A test leads as far as its hops reach by itself. Further off an end is said
// again, and a Go leads to anything else.
func TestFar(t *testing.T) {
	for _, c := range []struct {
		piece string
		far   api.Instr
	}{
		{"|n=0001", api.Instr{Op: api.Return, K: 1}},
		{"&n>0001", api.Instr{Op: api.Go, K: 17}},
	} {
		for count := 1; count <= 8; count++ {
			text := "?" + strings.Repeat(c.piece, count) + "h=0003:0001?h=0004:0002.0007"
			list := listOf(t, text)
			near := 2*count + 7
			if count < 8 && len(list) != near {
				t.Errorf("%q: %v, want %d instructions", text, list, near)
			}
			if count == 8 && (len(list) != near+1 || list[2] != c.far) {
				t.Errorf("%q: %v, want %v at 2", text, list, c.far)
			}
		}
	}
}

// Codes are never too long, since they have no more instructions than their
// policies have bytes.
func TestInstructionsAreNoMoreThanBytes(t *testing.T) {
	dead := "|&!T" + strings.Repeat("&n=0001", 10) + "Th=0001"
	for _, text := range []string{
		".0000", strings.Repeat("?T:0002", 85) + ".0001", strings.Repeat("?n=0001:0002", 49) + ".0003",
		strings.Repeat("?a0>12345678:0002", 35) + ".0003",
		"?" + strings.Repeat("|n=0001", 80) + "n=0005:0001.0000", "?" + strings.Repeat("&n=0001", 80) + "n=0005:0001.0000",
		"?" + strings.Repeat("|a0<12345678", 48) + "T:0001.0000", "?" + strings.Repeat("&a0>12345678", 48) + "T:0001.0000",
		"?" + strings.Repeat("|a0=12345678", 48) + "T:0001.0000", "?" + strings.Repeat("&a0&12345678=12345678", 27) + "T:0001.0000",
		"?&a0<12345678" + dead + ":0001.0000", "?&a0&12345678=12345678" + dead + ":0001.0000", "?|n=0001!" + dead + ":0001.0000",
	} {
		if list := listOf(t, text); len(list) > len(text) {
			t.Errorf("%q: %d instructions for %d bytes", text, len(list), len(text))
		}
	}
}

// Terms that end too early come from no text, but even they must not panic.
func TestTermsThatEndTooEarly(t *testing.T) {
	for _, terms := range [][]rules.Term{nil, {{Kind: rules.Not}}, {{Kind: rules.And}, {Kind: rules.True}}, {{Kind: rules.Or}}} {
		list := instructions(rules.Policy{Rules: []rules.Rule{{Terms: terms, Verdict: 1}}, Default: 2})
		if len(list) == 0 {
			t.Errorf("nothing of %v", terms)
		}
	}
}
