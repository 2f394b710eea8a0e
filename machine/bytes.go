// Package machine: the codes of the small machine, as instructions and as
// bytes, which of them are sound, and how they run.
package machine

import (
	"sieve/api"
	"sieve/words"
)

// maxByte is the greatest number that a byte can be.
const maxByte = 255

// Encode writes instructions as bytes.
func Encode(list []api.Instr) (string, api.Errno) {
	if len(list) > api.MaxLen {
		return "", api.ErrLong
	}
	bytes := make([]byte, 0, api.Size*len(list))
	for i := 0; i < len(list); i++ {
		x := list[i]
		if !fits(x) {
			return "", api.ErrOperand
		}
		bytes = append(bytes, byte(x.Op), byte(x.T), byte(x.F), byte(x.K%256), byte(x.K/256))
	}
	return string(bytes), api.OK
}

// fits tells whether the bytes of an instruction can hold its numbers.
func fits(x api.Instr) bool {
	return within(x.Op, maxByte) && within(x.T, maxByte) && within(x.F, maxByte) && within(x.K, words.Max)
}

// within tells whether a number is from 0 to top.
func within(number int, top int) bool {
	return number >= 0 && number <= top
}

// Decode reads instructions. Each list that it answers is a new one.
func Decode(code string) ([]api.Instr, api.Errno) {
	if len(code) > api.Size*api.MaxLen {
		return nil, api.ErrLong
	}
	if len(code)%api.Size != 0 {
		return nil, api.ErrSize
	}
	list := make([]api.Instr, 0, len(code)/api.Size)
	for at := 0; at+4 < len(code); at += api.Size {
		x := api.Instr{
			Op: int(code[at]),
			T:  int(code[at+1]),
			F:  int(code[at+2]),
			K:  int(code[at+3]) + 256*int(code[at+4]),
		}
		list = append(list, x)
	}
	return list, api.OK
}
