package rules

import (
	"reflect"
	"strings"
	"testing"

	"sieve/api"
)

func TestParse(t *testing.T) {
	full := Value{High: 0xffff, Low: 0xffff}
	half := Value{High: 0, Low: 0xffff}
	for _, c := range []struct {
		text string
		want Policy
	}{
		{".0a0f", Policy{Default: 0x0a0f}},
		{"?T:0001.0002", Policy{Rules: []Rule{{Terms: []Term{{Kind: True}}, Verdict: 1}}, Default: 2}},
		{"?!n<1234:0001?h>00ff:0002.0003", Policy{Rules: []Rule{
			{Terms: []Term{{Kind: Not}, {Kind: Compare, Word: 0, Mask: half, Relation: Below, Want: Value{Low: 0x1234}}}, Verdict: 1},
			{Terms: []Term{{Kind: Compare, Word: 2, Mask: half, Relation: Above, Want: Value{Low: 0xff}}}, Verdict: 2},
		}, Default: 3}},
		{"?&|Ta0=12345678a3&ff0000ff=00ab00cd:ffff.0000", Policy{Rules: []Rule{
			{Terms: []Term{{Kind: And}, {Kind: Or}, {Kind: True},
				{Kind: Compare, Word: 4, Mask: full, Relation: Equal, Want: Value{High: 0x1234, Low: 0x5678}},
				{Kind: Compare, Word: 16, Mask: Value{High: 0xff00, Low: 0xff}, Relation: Equal, Want: Value{High: 0xab, Low: 0xcd}},
			}, Verdict: 0xffff},
		}}},
	} {
		got, e, at := Parse(c.text)
		if e != api.OK || at != 0 || !reflect.DeepEqual(got, c.want) {
			t.Errorf("Parse(%q) = %+v, %d, %d, want %+v", c.text, got, e, at, c.want)
		}
	}
}

func TestParseAnswersNoPolicyWithAnError(t *testing.T) {
	for _, text := range []string{"", "?T:0001", "?T:0001.000", "?T:0001.0000x", "?&T:0001.0000", strings.Repeat("?T:0001", 90) + ".0000"} {
		got, e, _ := Parse(text)
		if e == api.OK || !reflect.DeepEqual(got, Policy{}) {
			t.Errorf("Parse(%.40q) = %+v, %d, want no policy and an error", text, got, e)
		}
	}
}

// Terms that end too early come from no text, but even they must not panic.
func TestHoldsAtTermsThatEndTooEarly(t *testing.T) {
	record := strings.Repeat("\x00", 20)
	if holds(nil, record) {
		t.Errorf("no terms hold")
	}
	if holds([]Term{{Kind: And}, {Kind: True}}, record) {
		t.Errorf("half an And holds")
	}
}

func TestBehind(t *testing.T) {
	p, e, _ := Parse("?&|!Tn=0001!!&Th=0002:0001.0002")
	if e != api.OK || len(p.Rules) != 1 {
		t.Fatalf("%+v, %d", p, e)
	}
	terms := p.Rules[0].Terms
	for i, want := range []int{10, 5, 4, 4, 5, 10, 10, 10, 9, 10} {
		if got := len(terms) - len(Behind(terms[i:])); got != want {
			t.Errorf("behind the condition at term %d comes term %d, want %d", i, got, want)
		}
	}
	// Terms that end too early come from no text, but even they must not panic.
	if got := Behind([]Term{{Kind: And}, {Kind: True}}); len(got) != 0 {
		t.Errorf("behind half an And comes %+v", got)
	}
	if got := Behind(nil); len(got) != 0 {
		t.Errorf("behind no terms comes %+v", got)
	}
}
