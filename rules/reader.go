package rules

import "sieve/words"

// none stands for the byte where there is none, since no byte is equal to it.
const none = -1

// reader goes over a text byte by byte and takes only bytes with which some
// policy can go on. It stays at the first byte that cannot stand there: once
// it has failed it takes nothing more, so that at is the place of the fault.
type reader struct {
	text   string
	at     int
	failed bool
}

// look tells the byte that comes next.
func (r *reader) look() int {
	if r.failed || r.at >= len(r.text) {
		return none
	}
	return int(r.text[r.at])
}

// take goes over the next byte if it is this one, and tells whether it was.
func (r *reader) take(b int) bool {
	if r.look() != b {
		return false
	}
	r.at++
	return true
}

// need goes over the next byte, which can only be this one.
func (r *reader) need(b int) {
	if !r.take(b) {
		r.failed = true
	}
}

// needEnd asks that no byte is left.
func (r *reader) needEnd() {
	if r.at < len(r.text) {
		r.failed = true
	}
}

// policy reads rules and the default behind them.
func (r *reader) policy() Policy {
	var p Policy
	for r.take('?') {
		rule := r.rule()
		p.Rules = append(p.Rules, rule)
	}
	r.need('.')
	p.Default = r.word()
	r.needEnd()
	return p
}

// rule reads a rule behind its question mark.
func (r *reader) rule() Rule {
	terms := r.condition()
	r.need(':')
	verdict := r.word()
	return Rule{Terms: terms, Verdict: verdict}
}

// condition reads the terms of one condition. It counts the conditions that
// are still to come, since a term stands ahead of those that it is made of.
func (r *reader) condition() []Term {
	var terms []Term
	missing := 1
	for missing > 0 && !r.failed {
		t := r.term()
		terms = append(terms, t)
		missing = missing - 1 + parts(t.Kind)
	}
	return terms
}

// parts tells how many conditions a term of this kind is made of.
func parts(kind int) int {
	switch kind {
	case Not:
		return 1
	case And, Or:
		return 2
	}
	return 0
}

// term reads one term.
func (r *reader) term() Term {
	if r.take('T') {
		return Term{Kind: True}
	}
	if r.take('!') {
		return Term{Kind: Not}
	}
	if r.take('&') {
		return Term{Kind: And}
	}
	if r.take('|') {
		return Term{Kind: Or}
	}
	if r.take('n') {
		return r.short(words.Number)
	}
	if r.take('h') {
		return r.short(words.House)
	}
	if r.take('a') {
		return r.argument()
	}
	r.failed = true
	return Term{}
}

// short reads a comparison of one word of the record, behind its name.
func (r *reader) short(word int) Term {
	relation := r.relation()
	want := r.word()
	return Term{
		Kind:     Compare,
		Word:     word,
		Mask:     Value{High: 0, Low: words.Max},
		Relation: relation,
		Want:     Value{High: 0, Low: want},
	}
}

// argument reads a comparison of an argument, behind its letter.
func (r *reader) argument() Term {
	i := r.index()
	t := Term{
		Kind:     Compare,
		Word:     words.FirstArgument + words.ArgumentSize*i,
		Mask:     Value{High: words.Max, Low: words.Max},
		Relation: Equal,
	}
	if r.take('&') {
		t.Mask = r.value()
		r.need('=')
	} else {
		t.Relation = r.relation()
	}
	t.Want = r.value()
	return t
}

// relation reads the sign of a relation.
func (r *reader) relation() int {
	if r.take('=') {
		return Equal
	}
	if r.take('<') {
		return Below
	}
	if r.take('>') {
		return Above
	}
	r.failed = true
	return Equal
}

// index reads the digit of an argument.
func (r *reader) index() int {
	c := r.look()
	if c < '0' || c > '3' {
		r.failed = true
		return 0
	}
	r.at++
	return c - '0'
}

// value reads eight hexadecimal digits.
func (r *reader) value() Value {
	high := r.word()
	low := r.word()
	return Value{High: high, Low: low}
}

// word reads four hexadecimal digits.
func (r *reader) word() int {
	w := 0
	for i := 0; i < 4; i++ {
		d := r.digit()
		w = 16*w + d
	}
	return w
}

// digit reads a hexadecimal digit.
func (r *reader) digit() int {
	c := r.look()
	if c >= '0' && c <= '9' {
		r.at++
		return c - '0'
	}
	if c >= 'a' && c <= 'f' {
		r.at++
		return c - 'a' + 10
	}
	r.failed = true
	return 0
}
