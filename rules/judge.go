package rules

import (
	"sieve/api"
	"sieve/words"
)

// Judge tells the verdict of a policy on a record.
func Judge(text string, record string) (int, api.Errno) {
	p, e, _ := Parse(text)
	if e != api.OK {
		return 0, e
	}
	if !words.IsRecord(record) {
		return 0, api.ErrRecord
	}
	return p.verdict(record), api.OK
}

// verdict tells the verdict of the first rule that holds, or the default.
func (p *Policy) verdict(record string) int {
	for i := 0; i < len(p.Rules); i++ {
		if holds(p.Rules[i].Terms, record) {
			return p.Rules[i].Verdict
		}
	}
	return p.Default
}

// holds tells whether a condition holds of a record.
func holds(terms []Term, record string) bool {
	w := walk{terms: terms, record: record}
	return w.next()
}

// walk goes over the terms of a condition.
type walk struct {
	terms  []Term
	record string
	at     int
}

// next tells whether the condition that begins here holds, and goes behind it.
// It goes over the second part of a term even if the first one settles it, so
// that it comes out behind the whole condition. Each call goes over a term, so
// it ends.
func (w *walk) next() bool {
	if w.at >= len(w.terms) {
		return false
	}
	t := w.terms[w.at]
	w.at++
	switch t.Kind {
	case True:
		return true
	case Not:
		c := w.next()
		return !c
	case And:
		c := w.next()
		d := w.next()
		return c && d
	case Or:
		c := w.next()
		d := w.next()
		return c || d
	}
	return compare(t, w.record)
}

// compare tells whether a comparison holds of a record.
func compare(t Term, record string) bool {
	low := words.At(record, t.Word)
	high := words.At(record, t.Word+2)
	v := Value{High: high & t.Mask.High, Low: low & t.Mask.Low}
	switch t.Relation {
	case Below:
		return below(v, t.Want)
	case Above:
		return below(t.Want, v)
	}
	return v.High == t.Want.High && v.Low == t.Want.Low
}

// below tells whether the value v is below the value w.
func below(v Value, w Value) bool {
	if v.High != w.High {
		return v.High < w.High
	}
	return v.Low < w.Low
}
