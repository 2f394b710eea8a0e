package sieve_test

import (
	"fmt"
	"math/rand"
	"strings"
)

// What may stand where is told here a second time, as a grammar of its own, so
// that the program is not measured by itself.

// grammar: by name, the ways in which a piece of a policy can be made; a name
// in a way stands for such a piece, `'x` for the byte x.
var grammar = map[string][]string{
	"policy":    {"'? condition ': word policy", "'. word end"},
	"condition": {"'T", "'! condition", "'& condition condition", "'| condition condition", "'n relation word", "'h relation word", "'a index rest"},
	"rest":      {"relation long", "'& long '= long"},
	"relation":  {"'=", "'<", "'>"},
	"index":     {"'0", "'1", "'2", "'3"},
	"word":      {"hex hex hex hex"},
	"long":      {"word word"},
	"hex":       {"'0", "'1", "'2", "'3", "'4", "'5", "'6", "'7", "'8", "'9", "'a", "'b", "'c", "'d", "'e", "'f"},
	"end":       {},
}

// canBegin tells whether a piece of this name can begin with the byte b.
func canBegin(name string, b byte) bool {
	if name[0] == '\'' {
		return name[1] == b
	}
	for _, way := range grammar[name] {
		if canBegin(strings.Fields(way)[0], b) {
			return true
		}
	}
	return false
}

// faultAt tells whether a text of any length is a policy, and if not the
// length of its longest beginning with which some policy begins.
func faultAt(text string) (bool, int) {
	stack := []string{"policy"}
	for at := 0; at < len(text); {
		if len(stack) == 0 {
			return false, at
		}
		top := stack[0]
		if !canBegin(top, text[at]) {
			return false, at
		}
		if top[0] == '\'' {
			stack = stack[1:]
			at++
			continue
		}
		for _, way := range grammar[top] {
			if fields := strings.Fields(way); canBegin(fields[0], text[at]) {
				stack = append(fields, stack[1:]...)
				break
			}
		}
	}
	if len(stack) == 1 && stack[0] == "end" {
		return true, 0
	}
	return false, len(text)
}

// tree is a condition with its meaning beside its text.
type tree struct {
	text  string
	holds func(record string) bool
}

// field tells the number of the bytes of a record from begin up to end.
func field(record string, begin, end int) uint64 {
	v := uint64(0)
	for i := end - 1; i >= begin; i-- {
		v = v<<8 | uint64(record[i])
	}
	return v
}

// fields: by name, the bytes of a record from where to where.
var fields = map[string][2]int{"n": {0, 2}, "h": {2, 4}, "a0": {4, 8}, "a1": {8, 12}, "a2": {12, 16}, "a3": {16, 20}}

// The conditions, one function for each.

func always() tree { return tree{"T", func(string) bool { return true }} }

func not(c tree) tree {
	return tree{"!" + c.text, func(s string) bool { return !c.holds(s) }}
}

func both(c, d tree) tree {
	return tree{"&" + c.text + d.text, func(s string) bool { return c.holds(s) && d.holds(s) }}
}

func either(c, d tree) tree {
	return tree{"|" + c.text + d.text, func(s string) bool { return c.holds(s) || d.holds(s) }}
}

func compares(name string, relation byte, want uint64) tree {
	begin, end := fields[name][0], fields[name][1]
	return tree{fmt.Sprintf("%s%c%0*x", name, relation, 2*(end-begin), want), func(s string) bool {
		got := field(s, begin, end)
		return relation == '=' && got == want || relation == '<' && got < want || relation == '>' && got > want
	}}
}

func masks(name string, mask, want uint64) tree {
	begin, end := fields[name][0], fields[name][1]
	return tree{fmt.Sprintf("%s&%08x=%08x", name, mask, want), func(s string) bool {
		return field(s, begin, end)&mask == want
	}}
}

// leaf makes a comparison. Its number lies next to one of record's, so that
// the relations are asked at their edges.
func leaf(r *rand.Rand, record string) tree {
	name, top := "n", uint64(0xffff)
	switch i := r.Intn(6); i {
	case 0:
		name = "h"
	case 1, 2, 3, 4:
		name, top = fmt.Sprintf("a%d", i-1), 0xffffffff
	}
	value := field(record, fields[name][0], fields[name][1])
	if top > 0xffff && r.Intn(2) == 0 {
		mask := uint64(r.Uint32())
		want := value & mask
		if r.Intn(3) == 0 {
			want ^= 1 << r.Intn(32)
		}
		return masks(name, mask, want)
	}
	want := (value + uint64(r.Intn(3)) - 1) & top
	if r.Intn(6) == 0 {
		want = uint64(r.Intn(2)) * top
	}
	return compares(name, "=<>"[r.Intn(3)], want)
}

// branch makes a condition of at most so many levels.
func branch(r *rand.Rand, record string, levels int) tree {
	kind := r.Intn(8)
	if levels <= 1 || kind > 4 {
		return leaf(r, record)
	}
	if kind == 0 {
		return always()
	}
	c := branch(r, record, levels-1)
	if kind == 1 {
		return not(c)
	}
	d := branch(r, record, levels-1)
	if kind == 2 {
		return either(c, d)
	}
	return both(c, d)
}

// anyRecord makes a record; often its bytes are 0 or 255.
func anyRecord(r *rand.Rand) string {
	b := make([]byte, 20)
	for i := range b {
		switch r.Intn(3) {
		case 0:
			b[i] = byte(r.Intn(256))
		case 1:
			b[i] = 255
		}
	}
	return string(b)
}

// judged is a rule: its condition and its verdict.
type judged struct {
	when    tree
	verdict int
}

// policyOf makes a policy of rules and a default, and tells its verdicts.
func policyOf(other int, rules ...judged) (string, func(record string) int) {
	text := ""
	for _, rule := range rules {
		text += fmt.Sprintf("?%s:%04x", rule.when.text, rule.verdict)
	}
	return text + fmt.Sprintf(".%04x", other), func(s string) int {
		for _, rule := range rules {
			if rule.when.holds(s) {
				return rule.verdict
			}
		}
		return other
	}
}

// anyPolicy makes a policy of at most 600 bytes, and tells its verdicts.
func anyPolicy(r *rand.Rand, record string) (string, func(record string) int) {
	var rules []judged
	size := 5
	for n := r.Intn(6); n > 0; n-- {
		rule := judged{branch(r, record, 1+r.Intn(5)), r.Intn(65536)}
		size += 6 + len(rule.when.text)
		if size > 600 {
			break
		}
		rules = append(rules, rule)
	}
	return policyOf(r.Intn(65536), rules...)
}
