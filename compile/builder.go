package compile

import (
	"sieve/api"
	"sieve/backward"
	"sieve/rules"
	"sieve/words"
)

// builder builds a code from its end on, so that what a run does when a
// condition holds, and when it does not, is there when the condition is built.
// Either is handed on as a place: yes and no.
type builder struct {
	code backward.Code
}

// rule builds a rule in front of the rules behind it.
func (b *builder) rule(r rules.Rule) {
	no := b.code.First()
	yes := b.end(r.Verdict)
	first := b.condition(r.Terms, yes, no)
	// What was built in front of that is not asked: the condition is settled
	// by less, or even without a test, and then begins at yes or no.
	b.code.Cut(first)
}

// condition builds the condition that the terms begin with, and tells the place
// where it begins. Where nothing hangs on it, nothing is built. Each call has
// fewer terms than the one that it comes from, so it ends.
func (b *builder) condition(terms []rules.Term, yes int, no int) int {
	if len(terms) == 0 || yes == no {
		return no
	}
	parts := terms[1:]
	switch terms[0].Kind {
	case rules.True:
		return yes
	case rules.Not:
		return b.condition(parts, no, yes)
	case rules.And:
		rest := rules.Behind(parts)
		second := b.condition(rest, yes, no)
		return b.condition(parts, second, no)
	case rules.Or:
		rest := rules.Behind(parts)
		second := b.condition(rest, yes, no)
		return b.condition(parts, yes, second)
	}
	return b.comparison(terms[0], yes, no)
}

// comparison builds a comparison. The high word is asked first, and the low one
// where the high one does not settle it.
func (b *builder) comparison(t rules.Term, yes int, no int) int {
	switch t.Relation {
	case rules.Below:
		b.test(api.Least, t.Want.Low, no, yes)
		low := b.load(t.Word)
		return b.order(t, no, low, yes)
	case rules.Above:
		b.test(api.Above, t.Want.Low, yes, no)
		low := b.load(t.Word)
		return b.order(t, yes, low, no)
	}
	low := b.bits(t.Word, t.Mask.Low, t.Want.Low, yes, no)
	return b.bits(t.Word+2, t.Mask.High, t.Want.High, low, no)
}

// order builds three ways out of the high word of a comparison: where it is
// above, equal to and below the word that it is compared with.
func (b *builder) order(t rules.Term, above int, equal int, below int) int {
	if t.Mask.High == 0 {
		return equal
	}
	other := b.test(api.Equal, t.Want.High, equal, below)
	b.test(api.Above, t.Want.High, above, other)
	return b.load(t.Word + 2)
}

// bits builds the question whether the bits of mask in a word are those of want.
func (b *builder) bits(word int, mask int, want int, yes int, no int) int {
	if mask == 0 && want == 0 {
		return yes
	}
	b.test(api.Equal, want, yes, no)
	if mask != words.Max {
		b.code.Add(api.Instr{Op: api.And, K: mask})
	}
	return b.load(word)
}

// test builds a test, and tells its place.
func (b *builder) test(op int, k int, yes int, no int) int {
	yes = b.near(yes)
	no = b.near(no)
	// What was built for no may have brought yes out of reach.
	yes = b.near(yes)
	b.code.AddTest(op, k, yes, no)
	return b.code.First()
}

// near tells a place that a test can reach, from which the run goes to this one
// or ends as it does there.
func (b *builder) near(to int) int {
	if b.code.Hop(to) <= api.MaxHop {
		return to
	}
	b.code.AddGo(to)
	return b.code.First()
}

// load builds a Load, and tells its place.
func (b *builder) load(word int) int {
	b.code.Add(api.Instr{Op: api.Load, K: word})
	return b.code.First()
}

// end builds the end of a run with a verdict, and tells its place.
func (b *builder) end(verdict int) int {
	b.code.Add(api.Instr{Op: api.Return, K: verdict})
	return b.code.First()
}
