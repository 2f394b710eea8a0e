// Package improve: the passes that improve codes and leave their verdicts.
package improve

import (
	"sieve/api"
	"sieve/machine"
)

// Improve improves a sound code by passes, one behind the other.
func Improve(code string, passes string) (string, api.Errno) {
	list, e, _ := machine.Read(code)
	if e != api.OK {
		return "", e
	}
	if len(passes) > api.MaxPasses {
		return "", api.ErrPass
	}
	for i := 0; i < len(passes); i++ {
		list = pass(list, passes[i])
	}
	return machine.Encode(list)
}

// pass does one pass. It hangs on nothing but the instructions, so that passes
// may be cut in two anywhere.
func pass(list []api.Instr, name byte) []api.Instr {
	switch name {
	case 'd':
		return dropUnreached(list)
	case 'j':
		return shortenJumps(list)
	case 'l':
		return dropLoads(list)
	case 'k':
		return settle(list)
	}
	return list
}
