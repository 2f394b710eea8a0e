package improve

import (
	"sieve/api"
	"sieve/machine"
)

// dropUnreached is the pass d: it leaves the instructions that are reached.
func dropUnreached(list []api.Instr) []api.Instr {
	known := factsOf(len(list), nothing)
	keep := make([]bool, 0, len(list))
	for i := 0; i < len(list); i++ {
		reached := known.at(i) != unreached
		if reached {
			known.goOn(i, list[i], nothing, nothing)
		}
		keep = append(keep, reached)
	}
	return only(list, keep)
}

// dropLoads is the pass l: it drops each reached Load of the word that is known
// ahead of it. What is known behind such a Load was known ahead of it, so
// without it as much is known of every other instruction as with it.
func dropLoads(list []api.Instr) []api.Instr {
	known := factsOf(len(list), nothing)
	keep := make([]bool, 0, len(list))
	for i := 0; i < len(list); i++ {
		x := list[i]
		ahead := known.at(i)
		if ahead != unreached {
			word := wordBehind(x, ahead)
			known.goOn(i, x, word, word)
		}
		keep = append(keep, x.Op != api.Load || ahead != x.K)
	}
	return only(list, keep)
}

// wordBehind tells which word is known behind an instruction.
func wordBehind(x api.Instr, ahead int) int {
	if x.Op == api.Load {
		return x.K
	}
	if x.Op == api.Keep || x.Op == api.Go || machine.IsTest(x.Op) {
		return ahead
	}
	return nothing
}

// only makes a code of the instructions that are kept. What led to one that is
// dropped leads to the next one that is kept.
func only(list []api.Instr, keep []bool) []api.Instr {
	places := placesOf(keep)
	short := make([]api.Instr, 0, len(list))
	for i := 0; i < len(list) && i < len(keep); i++ {
		if keep[i] {
			x := moved(list[i], i, places)
			short = append(short, x)
		}
	}
	return short
}

// placesOf tells of each instruction how many in front of it are kept.
func placesOf(keep []bool) []int {
	places := make([]int, 0, len(keep))
	count := 0
	for i := 0; i < len(keep); i++ {
		places = append(places, count)
		if keep[i] {
			count++
		}
	}
	return places
}

// moved makes the instruction i, which is x, lead to the new places of those to
// which it led.
func moved(x api.Instr, i int, places []int) api.Instr {
	if x.Op == api.Go {
		x.K = between(places, i, i+1+x.K)
	}
	if machine.IsTest(x.Op) {
		x.T = between(places, i, i+1+x.T)
		x.F = between(places, i, i+1+x.F)
	}
	return x
}

// between tells how many instructions stand between the new places of two, of
// which the first one is kept.
func between(places []int, from int, to int) int {
	if from < 0 || from >= to || to >= len(places) {
		return 0
	}
	return places[to] - places[from] - 1
}
