package sieve_test

import (
	"math/rand"
	"slices"
	"strings"
	"testing"

	"sieve/api"
	"sieve/sieve"
)

const big = int(^uint(0) >> 1)

// wantEncode asks Encode for an answer.
func wantEncode(t *testing.T, list []api.Instr, code string, e api.Errno) {
	t.Helper()
	if gotCode, gotE := sieve.Encode(list); gotCode != code || gotE != e {
		t.Errorf("P5: Encode(%d instructions, %.80v) = %.40q, %d, want %.40q, %d", len(list), list, gotCode, gotE, code, e)
	}
}

// wantDecode asks Decode for an answer.
func wantDecode(t *testing.T, code string, list []api.Instr, e api.Errno) {
	t.Helper()
	if gotList, gotE := sieve.Decode(code); !slices.Equal(gotList, list) || gotE != e {
		t.Errorf("P5: Decode(%.40q) of %d bytes = %.80v, %d, want %.80v, %d", code, len(code), gotList, gotE, list, e)
	}
}

// wantBoth asks for both ways between a list and its bytes.
func wantBoth(t *testing.T, list []api.Instr, code string) {
	t.Helper()
	wantEncode(t, list, code, api.OK)
	wantDecode(t, code, list, api.OK)
}

func TestBytesExamples(t *testing.T) {
	wantBoth(t, []api.Instr{in(15, 0, 0, 258)}, "\x0f\x00\x00\x02\x01")
	wantBoth(t, nil, "")
	wantBoth(t, []api.Instr{in(1, 2, 3, 0x0504), in(255, 254, 253, 0xfbfc)}, "\x01\x02\x03\x04\x05\xff\xfe\xfd\xfc\xfb")
	wantBoth(t, []api.Instr{in(0, 0, 0, 0), in(0, 0, 0, 65535)}, "\x00\x00\x00\x00\x00\x00\x00\x00\xff\xff")
}

// Whether the instructions are sound is not asked, so every number that fits
// comes through in every field.
func TestBytesEveryNumber(t *testing.T) {
	for v := 0; v < 256; v++ {
		for _, x := range []api.Instr{in(v, 0, 0, 0), in(0, v, 0, 0), in(0, 0, v, 0), in(v, 255-v, v^1, 257*v)} {
			wantBoth(t, []api.Instr{x}, bytesOf(x))
		}
	}
	for k := 0; k < 65536; k++ {
		wantBoth(t, []api.Instr{in(2, 0, 0, k)}, string([]byte{2, 0, 0, byte(k % 256), byte(k / 256)}))
	}
}

func TestEncodeOperands(t *testing.T) {
	for _, v := range []int{-big - 1, -65536, -256, -255, -1, 0, 1, 254, 255, 256, 257, 511, 65534, 65535, 65536, 65537, 1 << 24, 1<<24 + 1, big - 1, big} {
		for field := 0; field < 4; field++ {
			top := 255
			if field == 3 {
				top = 65535
			}
			n := []int{7, 8, 9, 10}
			n[field] = v
			x := in(n[0], n[1], n[2], n[3])
			other := in(15, 0, 0, 1)
			for _, list := range [][]api.Instr{{x}, {x, other}, {other, x}, {other, x, other}, append(make([]api.Instr, 1023), x)} {
				if v >= 0 && v <= top {
					wantBoth(t, list, bytesOf(list...))
				} else {
					wantEncode(t, list, "", api.ErrOperand)
				}
			}
		}
	}
}

func TestEncodeLength(t *testing.T) {
	for _, n := range []int{0, 1, 2, 1022, 1023, 1024} {
		list := make([]api.Instr, n)
		for i := range list {
			list[i] = in(i%256, i/256, 255-i%256, i)
		}
		wantBoth(t, list, bytesOf(list...))
	}
	for _, n := range []int{1025, 1026, 2048, 5120, 65537} {
		list := make([]api.Instr, n)
		wantEncode(t, list, "", api.ErrLong)
		list[0].Op = -1
		wantEncode(t, list, "", api.ErrLong)
		list[0].Op, list[n-1].K = 0, 65536
		wantEncode(t, list, "", api.ErrLong)
	}
}

func TestDecodeLength(t *testing.T) {
	r := rand.New(rand.NewSource(5))
	all := make([]byte, 5200)
	r.Read(all)
	for n := 0; n <= len(all); n++ {
		code := string(all[:n])
		switch {
		case n > 5120:
			wantDecode(t, code, nil, api.ErrLong)
		case n%5 != 0:
			wantDecode(t, code, nil, api.ErrSize)
		default:
			list, e := sieve.Decode(code)
			if len(list) != n/5 || e != api.OK {
				t.Fatalf("P5: Decode of %d bytes = %d instructions, %d", n, len(list), e)
			}
			wantBoth(t, list, code)
			if bytesOf(list...) != code {
				t.Errorf("P5: Decode of %d bytes answers other instructions", n)
			}
		}
	}
	wantDecode(t, strings.Repeat("\x00", 1<<20), nil, api.ErrLong)
}

func TestEncodeLeavesTheList(t *testing.T) {
	mark := in(-7, 300, -8, 70000)
	for _, n := range []int{0, 1, 3, 1023, 1024, 1025} {
		for _, bad := range []bool{false, true} {
			room := slices.Repeat([]api.Instr{mark}, n+5)
			list := room[2 : n+2]
			for i := range list {
				list[i] = in(i%256, 1, 2, i)
			}
			if bad && n > 0 {
				list[n-1] = mark
			}
			before := slices.Clone(room)
			code, _ := sieve.Encode(list)
			if !slices.Equal(room, before) {
				t.Errorf("P2: Encode of %d instructions has written into the list or around it", n)
			}
			same := strings.Clone(code)
			for i := range room {
				room[i] = in(99, 99, 99, 99)
			}
			if code != same {
				t.Errorf("P2: what Encode of %d instructions answered hangs on the list", n)
			}
		}
	}
}

// Whoever has a list from Decode may write into all of it; nobody else sees it.
func TestDecodeAnswersNewLists(t *testing.T) {
	for _, n := range []int{0, 1, 2, 3, 5, 100, 1023, 1024} {
		want := make([]api.Instr, n)
		for i := range want {
			want[i] = in(i%256, 3, 4, i)
		}
		code := bytesOf(want...)
		one, _ := sieve.Decode(code)
		two, _ := sieve.Decode(code)
		for _, list := range [][]api.Instr{one[:cap(one)], append(one, in(1, 1, 1, 1))} {
			for i := range list {
				list[i] = in(-1, -1, -1, -1)
			}
		}
		three, _ := sieve.Decode(code)
		if !slices.Equal(two, want) || !slices.Equal(three, want) || code != bytesOf(want...) {
			t.Errorf("P2: writing into a list of %d instructions from Decode shows elsewhere", n)
		}
		rest := slices.Clone(two[:cap(two)])
		for i := range one[:cap(one)] {
			one[:cap(one)][i] = in(-2, -2, -2, -2)
		}
		if !slices.Equal(two[:cap(two)], rest) {
			t.Errorf("P2: two lists of %d instructions from Decode share memory", n)
		}
	}
}
