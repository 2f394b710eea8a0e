package machine

import "sieve/api"

// Sound tells whether a code is sound, and the number of the instruction that
// is at fault if not.
func Sound(code string) (api.Errno, int) {
	_, e, at := Read(code)
	return e, at
}

// Read reads the instructions of a sound code. With an error it tells the
// number that Sound tells.
func Read(code string) ([]api.Instr, api.Errno, int) {
	list, e := Decode(code)
	if e != api.OK {
		return nil, e, 0
	}
	if len(list) == 0 {
		return nil, api.ErrSize, 0
	}
	for i := 0; i < len(list); i++ {
		e = fault(list[i], len(list)-i-1)
		if e != api.OK {
			return nil, e, i
		}
	}
	last := len(list) - 1
	if !IsEnd(list[last].Op) {
		return nil, api.ErrEnd, last
	}
	return list, api.OK, 0
}

// fault tells what is not well with an instruction behind which so many others
// stand.
func fault(x api.Instr, behind int) api.Errno {
	if x.Op < api.Load || x.Op > api.Answer {
		return api.ErrOp
	}
	if !unusedAreZero(x) {
		return api.ErrField
	}
	if !mayStand(x) {
		return api.ErrOperand
	}
	if !leadsOn(x, behind) {
		return api.ErrJump
	}
	return api.OK
}

// IsTest tells whether an operation is a test.
func IsTest(op int) bool {
	return op >= api.Equal && op <= api.Some
}

// IsEnd tells whether a run ends with an operation.
func IsEnd(op int) bool {
	return op == api.Return || op == api.Answer
}

// unusedAreZero tells whether the fields that the operation does not use are 0.
func unusedAreZero(x api.Instr) bool {
	if IsTest(x.Op) {
		return true
	}
	if x.Op == api.Answer && x.K != 0 {
		return false
	}
	return x.T == 0 && x.F == 0
}

// mayStand tells whether the operation can do with its hops and with K.
func mayStand(x api.Instr) bool {
	switch x.Op {
	case api.Load:
		return x.K%2 == 0 && x.K <= api.LastWord
	case api.Take, api.Keep:
		return x.K < api.Cells
	case api.Div:
		return x.K != 0
	case api.Down:
		return x.K <= api.MaxDown
	}
	return x.T <= api.MaxHop && x.F <= api.MaxHop
}

// leadsOn tells whether an instruction stands wherever a Go or a test may lead,
// if so many stand behind it.
func leadsOn(x api.Instr, behind int) bool {
	if x.Op == api.Go {
		return x.K < behind
	}
	if IsTest(x.Op) {
		return x.T < behind && x.F < behind
	}
	return true
}
