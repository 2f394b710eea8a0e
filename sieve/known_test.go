package sieve_test

import (
	"sieve/api"
)

// What is reached and what is known is told here a second time: each question
// is asked of the ways that lead to an instruction, as the document words it.

const none = -1

// way leads from one instruction to another; byT tells it from the way by F.
type way struct {
	from, to int
	byT      bool
}

// waysOf tells all ways of a sound code.
func waysOf(list []api.Instr) []way {
	var ways []way
	for i, x := range list {
		switch {
		case tests[byte(x.Op)] != nil:
			ways = append(ways, way{i, i + 1 + x.T, true}, way{i, i + 1 + x.F, false})
		case x.Op == 10:
			ways = append(ways, way{i, i + 1 + x.K, false})
		case x.Op < 15:
			ways = append(ways, way{i, i + 1, false})
		}
	}
	return ways
}

// knowledge answers questions about one sound code.
type knowledge struct {
	list    []api.Instr
	into    map[int][]way // the ways from reached instructions
	reached map[int]bool
	words   map[int]int
	numbers map[int]int
}

func knowledgeOf(list []api.Instr) *knowledge {
	k := &knowledge{list, map[int][]way{}, map[int]bool{0: true}, map[int]int{0: none}, map[int]int{0: 0}}
	ways := waysOf(list)
	for more := true; more; {
		more = false
		for _, w := range ways {
			if k.reached[w.from] && !k.reached[w.to] {
				k.reached[w.to], more = true, true
			}
		}
	}
	for _, w := range ways {
		if k.reached[w.from] {
			k.into[w.to] = append(k.into[w.to], w)
		}
	}
	return k
}

// agreed tells what all ways into an instruction tell alike.
func (k *knowledge) agreed(i int, known map[int]int, along func(w way) int) int {
	if all, told := known[i]; told {
		return all
	}
	all := none
	for n, w := range k.into[i] {
		one := along(w)
		if n > 0 && one != all {
			all = none
			break
		}
		all = one
	}
	known[i] = all
	return all
}

// word tells the word that is known ahead of a reached instruction.
func (k *knowledge) word(i int) int {
	return k.agreed(i, k.words, func(w way) int {
		x := k.list[w.from]
		switch x.Op {
		case 1:
			return x.K
		case 4, 10, 11, 12, 13, 14:
			return k.word(w.from)
		}
		return none
	})
}

// number tells the number that is known ahead of a reached instruction.
func (k *knowledge) number(i int) int {
	return k.agreed(i, k.numbers, func(w way) int {
		x := k.list[w.from]
		ahead := k.number(w.from)
		switch {
		case x.Op == 2, x.Op == 11 && w.byT:
			return x.K
		case x.Op == 1, x.Op == 3, ahead == none:
			return none
		case sums[byte(x.Op)] != nil:
			return int(sums[byte(x.Op)](uint16(ahead), uint16(x.K)))
		}
		return ahead
	})
}

// undoneAt tells the first instruction of a sound code for which it is not done
// by a pass, or none.
func undoneAt(list []api.Instr, pass byte) int {
	k := knowledgeOf(list)
	for i, x := range list {
		test := tests[byte(x.Op)] != nil
		undone := false
		switch pass {
		case 'd':
			undone = !k.reached[i]
		case 'j':
			undone = test && x.T == x.F || x.Op == 10 && (x.K == 0 || list[i+1+x.K].Op == 10 || list[i+1+x.K].Op >= 15)
		case 'l':
			undone = k.reached[i] && x.Op == 1 && k.word(i) == x.K
		case 'k':
			undone = k.reached[i] && (test || x.Op == 16) && k.number(i) != none
		}
		if undone {
			return i
		}
	}
	return none
}
