package sieve_test

import (
	"fmt"
	"math/rand"
	"strings"
	"testing"

	"sieve/api"
	"sieve/sieve"
)

const exampleRecord = "\x05\x00\x03\x00\x78\x56\x34\x12\x00\x00\x00\x00\x00\x00\x00\x00\x00\x00\x00\x00"

// wantJudge asks Judge for an answer.
func wantJudge(t *testing.T, policy string, record string, verdict int, e api.Errno) {
	t.Helper()
	if gotV, gotE := sieve.Judge(policy, record); gotV != verdict || gotE != e {
		t.Errorf("P4: Judge(%.120q, %.40q) = %d, %d, want %d, %d", policy, record, gotV, gotE, verdict, e)
	}
}

// wantHolds asks whether a condition holds of a record.
func wantHolds(t *testing.T, condition string, record string, holds bool) {
	t.Helper()
	verdict := 2
	if holds {
		verdict = 1
	}
	wantJudge(t, "?"+condition+":0001.0002", record, verdict, api.OK)
}

func TestJudgeExamples(t *testing.T) {
	wantJudge(t, "?&h=0003n<0010:ffff.0000", exampleRecord, 65535, api.OK)
	wantJudge(t, "?n>0005:0001?!n=0005:0002.0003", exampleRecord, 3, api.OK)
	wantJudge(t, "?a0&0000ffff=00005678:0001.0000", exampleRecord, 1, api.OK)
	wantJudge(t, "?a0>12345677:0001?T:0002.0003", exampleRecord, 1, api.OK)
	wantJudge(t, "?a0<12345678:0001?T:0002.0003", exampleRecord, 2, api.OK)
}

func TestJudgeVerdicts(t *testing.T) {
	for _, v := range []int{0, 1, 255, 256, 0x0102, 0x9abc, 65534, 65535} {
		wantJudge(t, fmt.Sprintf(".%04x", v), exampleRecord, v, api.OK)
		wantJudge(t, fmt.Sprintf("?T:%04x.0007", v), exampleRecord, v, api.OK)
		wantJudge(t, fmt.Sprintf("?!T:0007.%04x", v), exampleRecord, v, api.OK)
	}
	wantJudge(t, "?T:0001?T:0002.0003", exampleRecord, 1, api.OK)
	wantJudge(t, "?!T:0001?T:0002.0003", exampleRecord, 2, api.OK)
	wantJudge(t, "?!T:0001?!T:0002.0003", exampleRecord, 3, api.OK)
	wantJudge(t, strings.Repeat("?!T:0001", 73)+"?T:0002.0003", exampleRecord, 2, api.OK)
}

func TestJudgeConnectives(t *testing.T) {
	for c := 0; c < 2; c++ {
		for d := 0; d < 2; d++ {
			one, two := []string{"!T", "T"}[c], []string{"!T", "T"}[d]
			wantHolds(t, "!"+one, exampleRecord, c == 0)
			wantHolds(t, "&"+one+two, exampleRecord, c == 1 && d == 1)
			wantHolds(t, "|"+one+two, exampleRecord, c == 1 || d == 1)
			// A condition behind one that is settled already is still its own.
			wantHolds(t, "&|T"+one+two, exampleRecord, d == 1)
			wantHolds(t, "|&!T"+one+two, exampleRecord, d == 1)
		}
	}
	for n := 586; n <= 588; n++ {
		wantHolds(t, strings.Repeat("!", n)+"T", exampleRecord, n%2 == 0)
	}
	wantHolds(t, strings.Repeat("&", 294)+strings.Repeat("T", 295), exampleRecord, true)
	wantHolds(t, strings.Repeat("&", 293)+strings.Repeat("T", 293)+"!T", exampleRecord, false)
	wantHolds(t, strings.Repeat("|!T", 195)+"!T", exampleRecord, false)
	wantHolds(t, strings.Repeat("|!T", 195)+"T", exampleRecord, true)
}

// Each field, put into a record whose other bytes all differ from it, is
// compared with the numbers next to it and at both ends of its range.
func TestJudgeRelations(t *testing.T) {
	fields := []struct {
		name        string
		begin, size int
	}{{"n", 0, 2}, {"h", 2, 2}, {"a0", 4, 4}, {"a1", 8, 4}, {"a2", 12, 4}, {"a3", 16, 4}}
	for _, f := range fields {
		top := uint64(1)<<(8*f.size) - 1
		for _, value := range []uint64{0, 1, 0xff, 0x100, 0x7fff, 0x8000, 0xfffe, 0xffff, 0x10000, 0x1fffe, 0x7fffffff, 0x80000000, 0xfffeffff, 0xffff0000, 0xfffffffe, 0xffffffff} {
			value &= top
			record := []byte(strings.Repeat("\x5a", 20))
			for i := 0; i < f.size; i++ {
				record[f.begin+i] = byte(value >> (8 * i))
			}
			for _, want := range []uint64{0, value - 1, value, value + 1, value ^ 0x100, value ^ 0x10000, value>>16 | value<<16, top} {
				want &= top
				digits := fmt.Sprintf("%0*x", 2*f.size, want)
				wantHolds(t, f.name+"="+digits, string(record), value == want)
				wantHolds(t, f.name+"<"+digits, string(record), value < want)
				wantHolds(t, f.name+">"+digits, string(record), value > want)
			}
		}
	}
}

func TestJudgeMasks(t *testing.T) {
	numbers := []uint32{0, 1, 0x8000, 0xffff, 0x10000, 0x80000000, 0x80000001, 0xffff0000, 0x12345678, 0xfffffffe, 0xffffffff}
	for i := 0; i < 4; i++ {
		for _, value := range numbers {
			record := []byte(strings.Repeat("\x5a", 20))
			for j := 0; j < 4; j++ {
				record[4+4*i+j] = byte(value >> (8 * j))
			}
			for _, mask := range numbers {
				for _, want := range append([]uint32{value & mask, value | mask}, numbers...) {
					wantHolds(t, fmt.Sprintf("a%d&%08x=%08x", i, mask, want), string(record), value&mask == want)
				}
			}
		}
	}
}

func TestJudgeErrors(t *testing.T) {
	long := "?" + strings.Repeat("!", 589) + "T:0001.0002"
	for n := 0; n <= 45; n++ {
		record := strings.Repeat("\x01", n)
		wantJudge(t, long, record, 0, api.ErrLong)
		wantJudge(t, "", record, 0, api.ErrForm)
		wantJudge(t, "?T:0001", record, 0, api.ErrForm)
		wantJudge(t, "?T:0001.0002x", record, 0, api.ErrForm)
		if n != 20 {
			wantJudge(t, "?T:0001.0002", record, 0, api.ErrRecord)
			wantJudge(t, ".0002", record, 0, api.ErrRecord)
		}
	}
	wantJudge(t, long[:1]+long[2:], exampleRecord, 1, api.OK)
	wantJudge(t, ".0002", strings.Repeat("\x01", 1<<20), 0, api.ErrRecord)
}

func TestJudgeByMeaning(t *testing.T) {
	r := rand.New(rand.NewSource(4))
	for round := 0; round < 5000; round++ {
		record := anyRecord(r)
		policy, verdict := anyPolicy(r, record)
		wantJudge(t, policy, record, verdict(record), api.OK)
		other := anyRecord(r)
		wantJudge(t, policy, other, verdict(other), api.OK)
	}
}
