package sieve_test

import (
	"math/rand"
	"slices"
	"strings"
	"testing"

	"sieve/api"
	"sieve/sieve"
)

// wantSound asks Sound for an answer.
func wantSound(t *testing.T, code string, e api.Errno, at int) {
	t.Helper()
	if gotE, gotAt := sieve.Sound(code); gotE != e || gotAt != at {
		t.Errorf("P6: Sound(%.60q) of %d bytes = %d, %d, want %d, %d", code, len(code), gotE, gotAt, e, at)
	}
}

// wantByMeaning asks Sound for what the second telling says.
func wantByMeaning(t *testing.T, code string) {
	t.Helper()
	e, at := faultOf(code)
	wantSound(t, code, e, at)
}

func TestSoundExamples(t *testing.T) {
	wantSound(t, bytesOf(in(1, 0, 0, 0), in(11, 0, 1, 5), in(15, 0, 0, 1), in(15, 0, 0, 0)), api.OK, 0)
	wantSound(t, bytesOf(in(1, 0, 0, 3), in(15, 0, 0, 0)), api.ErrOperand, 0)
	wantSound(t, bytesOf(in(1, 0, 0, 20), in(15, 0, 0, 0)), api.ErrOperand, 0)
	wantSound(t, bytesOf(in(15, 1, 0, 0)), api.ErrField, 0)
	wantSound(t, bytesOf(in(16, 0, 0, 1)), api.ErrField, 0)
	wantSound(t, bytesOf(in(2, 0, 0, 7), in(10, 0, 0, 0)), api.ErrJump, 1)
	wantSound(t, bytesOf(in(2, 0, 0, 7)), api.ErrEnd, 0)
	wantSound(t, bytesOf(in(15, 0, 0, 0), in(11, 0, 16, 0), in(15, 0, 0, 0)), api.ErrOperand, 1)
}

func TestSoundLength(t *testing.T) {
	all := strings.Repeat(bytesOf(in(15, 0, 0, 3)), 1030)
	for n := 0; n <= len(all); n++ {
		switch {
		case n > 5120:
			wantSound(t, all[:n], api.ErrLong, 0)
		case n == 0 || n%5 != 0:
			wantSound(t, all[:n], api.ErrSize, 0)
		default:
			wantSound(t, all[:n], api.OK, 0)
		}
	}
	// The length is asked ahead of what stands there.
	wantSound(t, strings.Repeat("\x00", 5121), api.ErrLong, 0)
	wantSound(t, strings.Repeat("\x00", 5125), api.ErrLong, 0)
	wantSound(t, strings.Repeat("\xff", 5119), api.ErrSize, 0)
	wantSound(t, strings.Repeat("\xff", 5120), api.ErrOp, 0)
}

// Each field of each operation at its bounds, alone: the others are well, and
// there is room for every hop.
func TestSoundBounds(t *testing.T) {
	ends := strings.Repeat(bytesOf(in(15, 0, 0, 0)), 300)
	tops := map[int]int{3: 3, 4: 3, 9: 15, 10: 299, 16: 0}
	for op := 1; op <= 16; op++ {
		test := op >= 11 && op <= 14
		least := 0
		if op == 8 {
			least = 1
		}
		for _, k := range append([]int{298, 299, 300, 301}, edges...) {
			top, given := tops[op]
			want := api.OK
			switch {
			case op == 16 && k > 0:
				want = api.ErrField
			case op == 10 && k > top:
				want = api.ErrJump
			case given && k > top, k < least, op == 1 && (k%2 == 1 || k > 18):
				want = api.ErrOperand
			}
			wantSound(t, bytesOf(in(op, 0, 0, k))+ends, want, 0)
		}
		for _, h := range []int{1, 2, 14, 15, 16, 17, 128, 255} {
			want := api.OK
			if !test {
				want = api.ErrField
			} else if h > 15 {
				want = api.ErrOperand
			}
			wantSound(t, bytesOf(in(op, h, 0, least))+ends, want, 0)
			wantSound(t, bytesOf(in(op, 0, h, least))+ends, want, 0)
		}
	}
	for op := 0; op < 256; op++ {
		if op == 0 || op > 16 {
			wantSound(t, bytesOf(in(op, 0, 0, 0))+ends, api.ErrOp, 0)
			wantSound(t, bytesOf(in(op, 16, 255, 65535)), api.ErrOp, 0)
			wantSound(t, ends+bytesOf(in(op, 0, 0, 0)), api.ErrOp, 300)
		}
	}
}

// Where an instruction may go on there must be one: a hop is at most one less
// than the number of those that stand behind it.
func TestSoundHops(t *testing.T) {
	end := bytesOf(in(15, 0, 0, 0))
	for behind := 0; behind <= 20; behind++ {
		for h := 0; h <= 15; h++ {
			for ahead := 0; ahead < 3; ahead++ {
				before, after := strings.Repeat(end, ahead), strings.Repeat(end, behind)
				want, at := api.OK, 0
				if h >= behind {
					want, at = api.ErrJump, ahead
				}
				wantSound(t, before+bytesOf(in(10, 0, 0, h))+after, want, at)
				for op := 11; op <= 14; op++ {
					wantSound(t, before+bytesOf(in(op, h, 0, 0))+after, want, at)
					wantSound(t, before+bytesOf(in(op, 0, h, 0))+after, want, at)
					wantSound(t, before+bytesOf(in(op, h, h, 0))+after, want, at)
				}
			}
		}
	}
	for _, k := range []int{1021, 1022, 1023, 1024, 65535} {
		want := api.OK
		if k > 1022 {
			want = api.ErrJump
		}
		wantSound(t, bytesOf(in(10, 0, 0, k))+strings.Repeat(end, 1023), want, 0)
	}
}

func TestSoundEnd(t *testing.T) {
	for op := 1; op <= 16; op++ {
		want := api.ErrEnd
		switch {
		case op >= 15:
			want = api.OK
		case op >= 10:
			want = api.ErrJump
		}
		k := 0
		if op == 8 {
			k = 1
		}
		for _, n := range []int{1, 2, 3, 1024} {
			at := n - 1
			if want == api.OK {
				at = 0
			}
			wantSound(t, strings.Repeat(bytesOf(in(15, 0, 0, 9)), n-1)+bytesOf(in(op, 0, 0, k)), want, at)
		}
	}
}

// Of two instructions the first one that is not well is told, whatever is
// wrong with it; and of what is wrong with one, that which is asked first.
func TestSoundTellsTheFirstFault(t *testing.T) {
	end := in(15, 0, 0, 0)
	bad := []struct {
		x api.Instr
		e api.Errno
	}{
		{in(0, 1, 1, 1), api.ErrOp}, {in(17, 16, 0, 0), api.ErrOp},
		{in(1, 1, 0, 3), api.ErrField}, {in(10, 0, 16, 65535), api.ErrField}, {in(16, 0, 0, 65535), api.ErrField}, {in(16, 0, 255, 0), api.ErrField}, {in(8, 0, 1, 0), api.ErrField},
		{in(9, 0, 0, 16), api.ErrOperand}, {in(11, 255, 0, 0), api.ErrOperand}, {in(14, 15, 16, 0), api.ErrOperand},
		{in(10, 0, 0, 65535), api.ErrJump}, {in(13, 15, 0, 0), api.ErrJump},
	}
	for _, b := range bad {
		for _, c := range bad {
			wantSound(t, bytesOf(b.x, c.x), b.e, 0)
			wantSound(t, bytesOf(end, b.x, end, c.x, end), b.e, 1)
			// A code that does not end well is told only if all else is well.
			wantSound(t, bytesOf(end, end, b.x, in(2, 0, 0, 0)), b.e, 2)
		}
	}
	for _, l := range [][]api.Instr{{in(2, 0, 0, 0)}, {end, in(4, 0, 0, 0)}, {in(10, 0, 0, 0), in(7, 0, 0, 0)}} {
		wantSound(t, bytesOf(l...), api.ErrEnd, len(l)-1)
	}
}

// What is not reached must be well too.
func TestSoundAsksWhatIsNotReached(t *testing.T) {
	wantSound(t, bytesOf(in(15, 0, 0, 0), in(3, 0, 0, 4), in(15, 0, 0, 0)), api.ErrOperand, 1)
	wantSound(t, bytesOf(in(10, 0, 0, 1), in(0, 0, 0, 0), in(15, 0, 0, 0)), api.ErrOp, 1)
	wantSound(t, bytesOf(in(15, 0, 0, 0), in(2, 0, 0, 0)), api.ErrEnd, 1)
}

func TestSoundEveryByteEverywhere(t *testing.T) {
	var list []api.Instr
	for op := 1; op <= 14; op++ {
		list = append(list, in(op, 0, 0, 2))
	}
	list = append(list, in(15, 0, 0, 2), in(12, 1, 0, 2), in(16, 0, 0, 0), in(15, 0, 0, 0))
	code := bytesOf(list...)
	wantSound(t, code, api.OK, 0)
	for at := range len(code) {
		for b := range 256 {
			wantByMeaning(t, code[:at]+string([]byte{byte(b)})+code[at+1:])
		}
	}
}

func TestSoundByMeaning(t *testing.T) {
	r := rand.New(rand.NewSource(6))
	for round := 0; round < 20000; round++ {
		n := 1 + r.Intn(30)
		if round%500 == 0 {
			n = 1024 - r.Intn(3)
		}
		list := anyCode(r, n)
		code := bytesOf(list...)
		wantSound(t, code, api.OK, 0)
		at := r.Intn(len(code))
		b := string([]byte{byte(r.Intn(20))})
		wantByMeaning(t, code[:at]+b+code[at+1:])
		wantByMeaning(t, code[:at/5*5])
		wantByMeaning(t, code[:at])
		i := r.Intn(n)
		wantByMeaning(t, bytesOf(slices.Delete(list, i, i+1)...))
	}
}
