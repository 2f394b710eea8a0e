// Package compile: codes made out of policies.
package compile

import (
	"sieve/api"
	"sieve/improve"
	"sieve/machine"
	"sieve/rules"
)

// Compile makes a code out of a policy, and improves it by passes.
func Compile(text string, passes string) (string, api.Errno) {
	p, e, _ := rules.Parse(text)
	if e != api.OK {
		return "", e
	}
	list := instructions(p)
	code, e := machine.Encode(list)
	if e != api.OK {
		return "", e
	}
	return improve.Improve(code, passes)
}

// instructions makes the instructions that judge as a policy does. There are no
// more of them than the policy has bytes, and so never too many: one for each
// verdict; four for a comparison of n or h, nine for one of an argument, with
// all that their tests may need to reach far; none for the rest.
func instructions(p rules.Policy) []api.Instr {
	var b builder
	b.end(p.Default)
	for i := len(p.Rules) - 1; i >= 0; i-- {
		b.rule(p.Rules[i])
	}
	return b.code.List()
}
