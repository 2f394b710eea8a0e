// Package rules: policies, how they are read and what they say of a record.
package rules

import "sieve/api"

// The kinds of a term.
const (
	True = iota
	Not
	And
	Or
	Compare
)

// The relations of a comparison.
const (
	Equal = iota
	Below
	Above
)

// Value is a number of 32 bits. It is kept as two words, since an int need not
// hold it, and since the words are what a record is made of.
type Value struct {
	High, Low int
}

// Term is a condition without the conditions that it is made of: these are the
// ones that begin with the terms behind it.
type Term struct {
	Kind int

	// Of a comparison alone: the bits of Mask in the value that begins with
	// the word Word of the record are compared with Want. n and h are values
	// too: their mask leaves out the high word, which is not theirs.
	Word     int
	Mask     Value
	Relation int
	Want     Value
}

// Rule is a condition, as its terms in the order of the text, and the verdict
// that it leads to.
type Rule struct {
	Terms   []Term
	Verdict int
}

// Policy is what is read from the text of a policy.
type Policy struct {
	Rules   []Rule
	Default int
}

// Parse reads a policy. With an error it tells the place that Check tells.
func Parse(text string) (Policy, api.Errno, int) {
	if len(text) > api.MaxText {
		return Policy{}, api.ErrLong, 0
	}
	r := reader{text: text}
	p := r.policy()
	if r.failed {
		return Policy{}, api.ErrForm, r.at
	}
	return p, api.OK, 0
}

// Check tells whether a text is a policy, and the place of the fault if not.
func Check(text string) (api.Errno, int) {
	_, e, at := Parse(text)
	return e, at
}

// Behind tells the terms behind the condition that the terms begin with.
func Behind(terms []Term) []Term {
	missing := 1
	for missing > 0 && len(terms) > 0 {
		missing = missing - 1 + parts(terms[0].Kind)
		terms = terms[1:]
	}
	return terms
}
