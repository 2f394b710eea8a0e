package sieve_test

import (
	"math/rand"
	"slices"
	"strings"
	"testing"

	"sieve/api"
	"sieve/sieve"
)

// wantRun asks Run for an answer.
func wantRun(t *testing.T, code string, record string, verdict int, steps int, e api.Errno) {
	t.Helper()
	if gotV, gotS, gotE := sieve.Run(code, record); gotV != verdict || gotS != steps || gotE != e {
		t.Errorf("P7: Run(%.80q, %.40q) = %d, %d, %d, want %d, %d, %d", code, record, gotV, gotS, gotE, verdict, steps, e)
	}
}

// wantA asks what A is behind some instructions, of which each is done.
func wantA(t *testing.T, record string, a int, list ...api.Instr) {
	t.Helper()
	wantRun(t, bytesOf(append(slices.Clone(list), in(16, 0, 0, 0))...), record, a, len(list)+1, api.OK)
}

func TestRunExamples(t *testing.T) {
	wantRun(t, bytesOf(in(1, 0, 0, 0), in(11, 0, 1, 5), in(15, 0, 0, 1), in(15, 0, 0, 0)), exampleRecord, 1, 3, api.OK)
	wantA(t, exampleRecord, 290, in(1, 0, 0, 6), in(9, 0, 0, 4), in(7, 0, 0, 65535))
	wantA(t, exampleRecord, 4, in(2, 0, 0, 9), in(4, 0, 0, 3), in(2, 0, 0, 0), in(3, 0, 0, 3), in(8, 0, 0, 2))
}

func TestRunBegins(t *testing.T) {
	record := strings.Repeat("\xff", 20)
	wantA(t, record, 0)
	for cell := 0; cell < 4; cell++ {
		wantA(t, record, 0, in(2, 0, 0, 7), in(3, 0, 0, cell))
		// What a run leaves in the cells is gone with the next one.
		wantA(t, record, 9, in(2, 0, 0, 9), in(4, 0, 0, cell))
		wantA(t, record, 0, in(3, 0, 0, cell))
	}
}

func TestRunLoads(t *testing.T) {
	record := "\x01\x02\x03\x04\xff\x00\x00\xff\x80\x7f\x7f\x80\xfe\xff\xff\xfe\x00\x00\xff\xff"
	for i, want := range []int{0x0201, 0x0403, 0x00ff, 0xff00, 0x7f80, 0x807f, 0xfffe, 0xfeff, 0, 0xffff} {
		wantA(t, record, want, in(2, 0, 0, 77), in(1, 0, 0, 2*i))
	}
}

func TestRunCells(t *testing.T) {
	var fill []api.Instr
	for cell := 0; cell < 4; cell++ {
		fill = append(fill, in(2, 0, 0, 60000+cell), in(4, 0, 0, cell))
	}
	// Keep leaves A, and each cell holds its own.
	wantA(t, exampleRecord, 60003, fill...)
	for cell := 0; cell < 4; cell++ {
		wantA(t, exampleRecord, 60000+cell, append(slices.Clone(fill), in(3, 0, 0, cell))...)
		for other := 0; other < 4; other++ {
			want := 60000 + other
			if other == cell {
				want = 5
			}
			wantA(t, exampleRecord, want, append(slices.Clone(fill), in(2, 0, 0, 5), in(4, 0, 0, cell), in(2, 0, 0, 6), in(3, 0, 0, other))...)
		}
	}
}

func TestRunReckons(t *testing.T) {
	for _, a := range edges {
		for _, k := range edges {
			wantA(t, exampleRecord, k, in(2, 0, 0, a), in(2, 0, 0, k))
			wantA(t, exampleRecord, a&k, in(2, 0, 0, a), in(5, 0, 0, k))
			wantA(t, exampleRecord, a|k, in(2, 0, 0, a), in(6, 0, 0, k))
			sum := a + k
			if sum > 65535 {
				sum -= 65536
			}
			wantA(t, exampleRecord, sum, in(2, 0, 0, a), in(7, 0, 0, k))
			if k > 0 {
				wantA(t, exampleRecord, (a-a%k)/k, in(2, 0, 0, a), in(8, 0, 0, k))
			}
			if k <= 15 {
				half := a
				for i := 0; i < k; i++ {
					half /= 2
				}
				wantA(t, exampleRecord, half, in(2, 0, 0, a), in(9, 0, 0, k))
			}
		}
	}
}

func TestRunTests(t *testing.T) {
	for _, a := range edges {
		for _, k := range edges {
			holds := map[int]bool{11: a == k, 12: a > k, 13: a >= k, 14: a&k != 0}
			for op, yes := range holds {
				want := 20
				if yes {
					want = 10
				}
				code := bytesOf(in(2, 0, 0, a), in(op, 1, 2, k), in(15, 0, 0, 0), in(15, 0, 0, 10), in(15, 0, 0, 20))
				wantRun(t, code, exampleRecord, want, 3, api.OK)
				code = bytesOf(in(2, 0, 0, a), in(op, 1, 0, k), in(15, 0, 0, 20), in(15, 0, 0, 10))
				wantRun(t, code, exampleRecord, want, 3, api.OK)
				// A test leaves A.
				code = bytesOf(in(2, 0, 0, a), in(op, 0, 0, k), in(16, 0, 0, 0))
				wantRun(t, code, exampleRecord, a, 3, api.OK)
			}
		}
	}
}

// Hops of every length, over instructions that would each tell on themselves.
func TestRunHops(t *testing.T) {
	var marks []api.Instr
	for i := 0; i < 1022; i++ {
		marks = append(marks, in(15, 0, 0, 1000+i))
	}
	for _, h := range []int{0, 1, 2, 14, 15, 16, 255, 256, 257, 1021} {
		wantRun(t, bytesOf(append([]api.Instr{in(2, 0, 0, 1), in(10, 0, 0, h)}, marks...)...), exampleRecord, 1000+h, 3, api.OK)
	}
	for h := 0; h <= 15; h++ {
		for g := 0; g <= 15; g++ {
			wantRun(t, bytesOf(append([]api.Instr{in(11, h, g, 0)}, marks[:16]...)...), exampleRecord, 1000+h, 2, api.OK)
			wantRun(t, bytesOf(append([]api.Instr{in(11, h, g, 1)}, marks[:16]...)...), exampleRecord, 1000+g, 2, api.OK)
		}
	}
	wantRun(t, bytesOf(in(2, 0, 0, 6), in(10, 0, 0, 1), in(15, 0, 0, 1), in(16, 0, 0, 0)), exampleRecord, 6, 3, api.OK)
}

func TestRunEnds(t *testing.T) {
	for _, v := range edges {
		wantRun(t, bytesOf(in(15, 0, 0, v), in(15, 0, 0, 7)), exampleRecord, v, 1, api.OK)
		wantRun(t, bytesOf(in(2, 0, 0, v), in(16, 0, 0, 0), in(15, 0, 0, 7)), exampleRecord, v, 2, api.OK)
		wantRun(t, bytesOf(in(2, 0, 0, 3), in(15, 0, 0, v)), exampleRecord, v, 2, api.OK)
	}
}

func TestRunSteps(t *testing.T) {
	for _, n := range []int{1, 2, 100, 1023, 1024} {
		wantRun(t, strings.Repeat(bytesOf(in(7, 0, 0, 129)), n-1)+bytesOf(in(16, 0, 0, 0)), exampleRecord, 129*(n-1)%65536, n, api.OK)
		wantRun(t, strings.Repeat(bytesOf(in(10, 0, 0, 0)), n-1)+bytesOf(in(15, 0, 0, 8)), exampleRecord, 8, n, api.OK)
		wantRun(t, strings.Repeat(bytesOf(in(14, 0, 0, 1)), n-1)+bytesOf(in(15, 0, 0, 8)), exampleRecord, 8, n, api.OK)
	}
}

func TestRunErrors(t *testing.T) {
	end := bytesOf(in(15, 0, 0, 5))
	for n := 0; n <= 45; n++ {
		record := strings.Repeat("\x01", n)
		for _, code := range []string{
			"", "x", end + "x", strings.Repeat(end, 1025), strings.Repeat("\x00", 5121),
			bytesOf(in(0, 0, 0, 0)), bytesOf(in(17, 0, 0, 0)), bytesOf(in(15, 0, 1, 0)), bytesOf(in(16, 0, 0, 1)),
			bytesOf(in(8, 0, 0, 0)) + end, bytesOf(in(1, 0, 0, 20)) + end, end + bytesOf(in(3, 0, 0, 4)) + end,
			bytesOf(in(10, 0, 0, 1)) + end, bytesOf(in(11, 0, 1, 0)) + end, end + bytesOf(in(2, 0, 0, 5)),
		} {
			want, _ := faultOf(code)
			wantRun(t, code, record, 0, 0, want)
		}
		if n != 20 {
			wantRun(t, end, record, 0, 0, api.ErrRecord)
		} else {
			wantRun(t, end, record, 5, 1, api.OK)
		}
	}
	wantRun(t, end, strings.Repeat("\x01", 1<<20), 0, 0, api.ErrRecord)
}

func TestRunByMeaning(t *testing.T) {
	r := rand.New(rand.NewSource(7))
	for round := 0; round < 20000; round++ {
		n := 1 + r.Intn(40)
		if round%200 == 0 {
			n = 1 + r.Intn(1024)
		}
		code := bytesOf(anyCode(r, n)...)
		for i := 0; i < 3; i++ {
			record := anyRecord(r)
			v, steps := runOf(code, record)
			wantRun(t, code, record, v, steps, api.OK)
		}
	}
}
