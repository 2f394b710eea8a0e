package improve

import (
	"sieve/api"
	"sieve/machine"
)

// settle is the pass k: it puts a Go for each test and a Return for each Answer
// ahead of which a number is known. What is known behind an instruction is told
// of the one that was put there: a test that is settled leads one way alone, and
// so more may be known further on.
func settle(list []api.Instr) []api.Instr {
	known := factsOf(len(list), 0)
	settled := make([]api.Instr, 0, len(list))
	for i := 0; i < len(list); i++ {
		x := list[i]
		ahead := known.at(i)
		if ahead >= 0 {
			x = settledBy(x, ahead)
		}
		if ahead != unreached {
			byT := numberByT(x, ahead)
			other := numberBehind(x, ahead)
			known.goOn(i, x, byT, other)
		}
		settled = append(settled, x)
	}
	return settled
}

// settledBy tells what can stand for an instruction ahead of which a number is
// known.
func settledBy(x api.Instr, number int) api.Instr {
	if machine.IsTest(x.Op) {
		return api.Instr{Op: api.Go, K: machine.Hop(x, number)}
	}
	if x.Op == api.Answer {
		return api.Instr{Op: api.Return, K: number}
	}
	return x
}

// numberByT tells which number is known along the way by T.
func numberByT(x api.Instr, ahead int) int {
	if x.Op == api.Equal {
		return x.K
	}
	return numberBehind(x, ahead)
}

// numberBehind tells which number is known along any other way.
func numberBehind(x api.Instr, ahead int) int {
	if x.Op == api.Put {
		return x.K
	}
	if x.Op == api.Load || x.Op == api.Take || ahead < 0 {
		return nothing
	}
	return machine.Reckon(x.Op, ahead, x.K)
}
