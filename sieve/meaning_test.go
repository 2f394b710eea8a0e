package sieve_test

import (
	"math/rand"
	"strings"

	"sieve/api"
)

// Which codes are sound, and what they do, is told here a second time, over
// their bytes and with numbers of 16 bits, so that the program is not measured
// by itself.

// in makes an instruction.
func in(op, t, f, k int) api.Instr { return api.Instr{Op: op, T: t, F: f, K: k} }

// bytesOf writes instructions whose numbers fit.
func bytesOf(list ...api.Instr) string {
	var b strings.Builder
	for _, x := range list {
		b.Write([]byte{byte(x.Op), byte(x.T), byte(x.F), byte(x.K), byte(x.K >> 8)})
	}
	return b.String()
}

// operands: by operation, the K that may stand there; an operation that is
// missing is content with every K.
var operands = map[byte]func(k uint16) bool{
	1: func(k uint16) bool { return k < 20 && k&1 == 0 },
	3: func(k uint16) bool { return k < 4 },
	4: func(k uint16) bool { return k < 4 },
	8: func(k uint16) bool { return k > 0 },
	9: func(k uint16) bool { return k < 16 },
}

// tests: by operation, whether a test of A against K holds; an operation that
// is missing is no test.
var tests = map[byte]func(a, k uint16) bool{
	11: func(a, k uint16) bool { return a == k },
	12: func(a, k uint16) bool { return a > k },
	13: func(a, k uint16) bool { return !(a < k) },
	14: func(a, k uint16) bool { return a&^k != a },
}

// sums: by operation, what A becomes out of A and K.
var sums = map[byte]func(a, k uint16) uint16{
	2: func(a, k uint16) uint16 { return k },
	5: func(a, k uint16) uint16 { return a & k },
	6: func(a, k uint16) uint16 { return a | k },
	7: func(a, k uint16) uint16 { return a + k },
	8: func(a, k uint16) uint16 { return a / k },
	9: func(a, k uint16) uint16 { return a >> k },
}

// faultOf tells what Sound is to answer.
func faultOf(code string) (api.Errno, int) {
	if len(code) > 5120 {
		return api.ErrLong, 0
	}
	if code == "" || len(code)%5 > 0 {
		return api.ErrSize, 0
	}
	for rest := code; rest != ""; rest = rest[5:] {
		at, room := (len(code)-len(rest))/5, len(rest)/5-1
		op, t, f, k := rest[0], rest[1], rest[2], uint16(rest[3])|uint16(rest[4])<<8
		_, test := tests[op]
		good := operands[op]
		switch {
		case op == 0 || op >= 17:
			return api.ErrOp, at
		case !test && (t > 0 || f > 0), op == 16 && k > 0:
			return api.ErrField, at
		case good != nil && !good(k), max(t, f) > 15:
			return api.ErrOperand, at
		case test && int(max(t, f)) >= room, op == 10 && int(k) >= room:
			return api.ErrJump, at
		}
	}
	if last := code[len(code)-5]; last != 15 && last != 16 {
		return api.ErrEnd, len(code)/5 - 1
	}
	return api.OK, 0
}

// runOf tells the verdict of a sound code, and its steps.
func runOf(code string, record string) (int, int) {
	var a uint16
	cells := map[uint16]uint16{}
	for steps := 1; ; steps++ {
		op, k := code[0], uint16(code[3])|uint16(code[4])<<8
		t, f := int(code[1]), int(code[2])
		code = code[5:]
		switch {
		case op == 1:
			a = uint16(field(record, int(k), int(k)+2))
		case op == 3:
			a = cells[k]
		case op == 4:
			cells[k] = a
		case op == 10:
			code = code[5*int(k):]
		case op == 15:
			return int(k), steps
		case op == 16:
			return int(a), steps
		case sums[op] != nil:
			a = sums[op](a, k)
		case tests[op](a, k):
			code = code[5*t:]
		default:
			code = code[5*f:]
		}
	}
}

// edges are the numbers of 16 bits at which something may turn.
var edges = []int{0, 1, 2, 3, 4, 5, 14, 15, 16, 17, 18, 19, 20, 127, 128, 255, 256, 257, 511, 512, 1023, 1024, 0x1234, 0x7ffe, 0x7fff, 0x8000, 0x8001, 0xff00, 0xfffd, 0xfffe, 0xffff}

// anyOperand makes a K that may stand behind the operation.
func anyOperand(r *rand.Rand, op int) int {
	for {
		k := edges[r.Intn(len(edges))]
		if r.Intn(4) == 0 {
			k = r.Intn(65536)
		}
		if good := operands[byte(op)]; good == nil || good(uint16(k)) {
			return k
		}
	}
}

// anyCode makes a sound code of n instructions. Its hops are often short and
// its ends rare, so that many of its instructions are done.
func anyCode(r *rand.Rand, n int) []api.Instr {
	list := make([]api.Instr, n)
	for i := range list {
		room := n - i - 1
		op := 1 + r.Intn(14)
		if r.Intn(20) == 0 || room == 0 {
			op = 15 + r.Intn(2)
		}
		if r.Intn(3) == 0 && room > 0 {
			op = []int{1, 2, 7}[r.Intn(3)]
		}
		hop := func(top int) int { return r.Intn(1 + r.Intn(min(top, room))) }
		switch {
		case op == 10:
			list[i] = in(op, 0, 0, hop(16))
		case op >= 11 && op <= 14:
			list[i] = in(op, hop(16), hop(16), anyOperand(r, op))
		case op == 16:
			list[i] = in(op, 0, 0, 0)
		default:
			list[i] = in(op, 0, 0, anyOperand(r, op))
		}
	}
	return list
}
