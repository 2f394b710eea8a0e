package sieve_test

import (
	"math/rand"
	"slices"
	"strings"
	"testing"

	"sieve/api"
	"sieve/sieve"
)

var (
	answer = in(16, 0, 0, 0)
	yes    = in(15, 0, 0, 1)
	no     = in(15, 0, 0, 2)
)

// listOf reads a code of whole instructions.
func listOf(code string) []api.Instr {
	var list []api.Instr
	for ; len(code) >= 5; code = code[5:] {
		list = append(list, in(int(code[0]), int(code[1]), int(code[2]), int(code[3])|int(code[4])<<8))
	}
	return list
}

// wantImprove asks Improve for an answer.
func wantImprove(t *testing.T, code string, passes string, want string, e api.Errno) {
	t.Helper()
	if got, gotE := sieve.Improve(code, passes); got != want || gotE != e {
		t.Errorf("P8: Improve(%v, %q) of %d bytes = %v, %d, want %v, %d", listOf(code), passes, len(code), listOf(got), gotE, listOf(want), e)
	}
}

// wantBetter asks of Improve whatever the document says of a sound code and
// passes that are not too many.
func wantBetter(t *testing.T, list []api.Instr, passes string, records []string) {
	t.Helper()
	code := bytesOf(list...)
	better, e := sieve.Improve(code, passes)
	if fault, at := faultOf(better); e != api.OK || fault != api.OK || len(better) > len(code) {
		t.Fatalf("P8: Improve(%v, %q) = %v, %d: fault %d at %d", list, passes, listOf(better), e, fault, at)
	}
	for _, record := range records {
		v, n := runOf(code, record)
		gotV, gotN := runOf(better, record)
		if gotV != v || gotN > n {
			t.Fatalf("P8: Improve(%v, %q) = %v: on %q verdict %d in %d steps, want %d in at most %d", list, passes, listOf(better), record, gotV, gotN, v, n)
		}
	}
	last := strings.LastIndexAny(passes, "djlk")
	if last < 0 && better != code {
		t.Fatalf("P8: Improve(%v, %q) = %v", list, passes, listOf(better))
	}
	if last >= 0 {
		if at := undoneAt(listOf(better), passes[last]); at != none {
			t.Fatalf("P8: Improve(%v, %q) = %v is not done by %c: instruction %d", list, passes, listOf(better), passes[last], at)
		}
	}
	for cut := 0; cut <= len(passes); cut++ {
		half, e := sieve.Improve(code, passes[:cut])
		again, f := sieve.Improve(half, passes[cut:])
		if e != api.OK || f != api.OK || again != better {
			t.Fatalf("P8: Improve(%v, %q) = %v, but cut at %d it is %v (%d, %d)", list, passes, listOf(better), cut, listOf(again), e, f)
		}
	}
}

// recordsFor are records whose words are often such as the code asks for.
func recordsFor(r *rand.Rand, list []api.Instr, count int) []string {
	near := []int{0, 1, 65535}
	for _, x := range list {
		near = append(near, x.K, x.K+1, x.K-1)
	}
	records := []string{strings.Repeat("\x00", 20), strings.Repeat("\xff", 20), exampleRecord}
	for len(records) < count {
		var b []byte
		for range 10 {
			word := near[r.Intn(len(near))]
			b = append(b, byte(word), byte(word>>8))
		}
		records = append(records, string(b))
	}
	return records
}

func TestImproveExamples(t *testing.T) {
	wantImprove(t, bytesOf(yes, no), "d", bytesOf(yes), api.OK)
	wantImprove(t, bytesOf(in(10, 0, 0, 0), yes), "j", bytesOf(yes), api.OK)
	wantImprove(t, bytesOf(in(1, 0, 0, 0), in(1, 0, 0, 0), answer), "l", bytesOf(in(1, 0, 0, 0), answer), api.OK)
	wantImprove(t, bytesOf(in(2, 0, 0, 7), in(12, 0, 1, 3), yes, no), "k", bytesOf(in(2, 0, 0, 7), in(10, 0, 0, 0), yes, no), api.OK)
	wantImprove(t, bytesOf(in(1, 0, 0, 0), answer), "xyz", bytesOf(in(1, 0, 0, 0), answer), api.OK)
}

func TestImproveErrors(t *testing.T) {
	wantImprove(t, bytesOf(yes), strings.Repeat("d", 12), bytesOf(yes), api.OK)
	wantImprove(t, bytesOf(yes), strings.Repeat("x", 12), bytesOf(yes), api.OK)
	for _, passes := range []string{strings.Repeat("d", 13), strings.Repeat("x", 13), strings.Repeat("\x00", 500), "djlkdjlkdjlk "} {
		wantImprove(t, bytesOf(yes), passes, "", api.ErrPass)
	}
	// The error of Sound is told first.
	for _, passes := range []string{"", "d", "x", strings.Repeat("j", 13)} {
		for _, code := range []string{
			"", "x", bytesOf(yes) + "x", strings.Repeat("x", 5121), strings.Repeat(bytesOf(yes), 1025),
			bytesOf(yes, in(0, 0, 0, 0)), bytesOf(yes, in(17, 0, 0, 0)), bytesOf(in(2, 1, 0, 0), yes), bytesOf(in(16, 0, 0, 1)), bytesOf(yes, in(8, 0, 0, 0), yes),
			bytesOf(in(1, 0, 0, 1), yes), bytesOf(in(10, 0, 0, 1), yes), bytesOf(in(10, 0, 0, 0)), bytesOf(in(11, 0, 1, 0), yes), bytesOf(in(2, 0, 0, 7)), bytesOf(yes, in(2, 0, 0, 7)),
		} {
			e, _ := faultOf(code)
			if e == api.OK {
				t.Fatalf("%q is sound", code)
			}
			wantImprove(t, code, passes, "", e)
		}
	}
}

// A code that each pass changes: of all bytes only four may do so.
func TestImproveSkipsOtherBytes(t *testing.T) {
	list := []api.Instr{in(2, 0, 0, 3), in(11, 0, 0, 3), in(1, 0, 0, 4), in(1, 0, 0, 4), in(10, 0, 0, 0), answer, no}
	code := bytesOf(list...)
	for b := 0; b < 256; b++ {
		pass := string([]byte{byte(b)})
		better, e := sieve.Improve(code, pass)
		isPass := strings.Contains("djlk", pass)
		if e != api.OK || (better != code) != isPass {
			t.Errorf("P8: Improve(%v, %q) = %v, %d", list, pass, listOf(better), e)
		}
		if isPass {
			continue
		}
		for _, passes := range []string{"d", "j", "l", "k", "dj", "kjld"} {
			want, _ := sieve.Improve(code, passes)
			wantImprove(t, code, pass+strings.Join(strings.Split(passes, ""), pass)+pass, want, api.OK)
		}
		wantImprove(t, code, strings.Repeat(pass, 12), code, api.OK)
	}
	wantImprove(t, code, "", code, api.OK)
	wantImprove(t, code, "DJLK \x00é", code, api.OK)
}

// Each pass does its own work, and no pass is another one under its name.
func TestImproveByEachPass(t *testing.T) {
	list := []api.Instr{in(2, 0, 0, 3), in(11, 0, 0, 3), in(1, 0, 0, 4), in(1, 0, 0, 4), in(10, 0, 0, 0), answer, no}
	for pass, want := range map[string][]api.Instr{
		"d": {in(2, 0, 0, 3), in(11, 0, 0, 3), in(1, 0, 0, 4), in(1, 0, 0, 4), in(10, 0, 0, 0), answer},
		"j": {in(2, 0, 0, 3), in(1, 0, 0, 4), in(1, 0, 0, 4), answer, no},
		"l": {in(2, 0, 0, 3), in(11, 0, 0, 3), in(1, 0, 0, 4), in(10, 0, 0, 0), answer, no},
		"k": {in(2, 0, 0, 3), in(10, 0, 0, 0), in(1, 0, 0, 4), in(1, 0, 0, 4), in(10, 0, 0, 0), answer, no},
	} {
		wantImprove(t, bytesOf(list...), pass, bytesOf(want...), api.OK)
	}
}

func TestImproveDropsWhatIsNotReached(t *testing.T) {
	// What leads over the dropped ones is nearer by as many.
	wantImprove(t, bytesOf(in(10, 0, 0, 2), no, no, yes), "d", bytesOf(in(10, 0, 0, 0), yes), api.OK)
	wantImprove(t, bytesOf(in(11, 1, 3, 0), no, yes, no, answer), "d", bytesOf(in(11, 0, 1, 0), yes, answer), api.OK)
	wantImprove(t, bytesOf(in(14, 3, 1, 9), no, yes, no, answer, no), "d", bytesOf(in(14, 1, 0, 9), yes, answer), api.OK)
	// One that only a dropped one leads to goes too, one that is led to twice stays.
	wantImprove(t, bytesOf(yes, in(10, 0, 0, 1), no, in(11, 0, 1, 4), answer, no), "d", bytesOf(yes), api.OK)
	wantImprove(t, bytesOf(in(11, 0, 2, 1), in(10, 0, 0, 1), no, yes), "d", bytesOf(in(11, 0, 1, 1), in(10, 0, 0, 0), yes), api.OK)
	// A number that is known makes nothing unreached: that is asked whatever A may be.
	known := bytesOf(in(2, 0, 0, 7), in(11, 0, 1, 7), yes, no)
	wantImprove(t, known, "d", known, api.OK)
}

func TestImproveJumps(t *testing.T) {
	// Chains of Go, ends, and Go that leads to a Go with K 0.
	wantImprove(t, bytesOf(in(11, 0, 1, 0), in(10, 0, 0, 1), in(2, 0, 0, 3), in(10, 0, 0, 1), no, in(7, 0, 0, 1), answer), "j",
		bytesOf(in(11, 0, 1, 0), in(10, 0, 0, 3), in(2, 0, 0, 3), in(10, 0, 0, 1), no, in(7, 0, 0, 1), answer), api.OK)
	wantImprove(t, bytesOf(in(10, 0, 0, 1), no, yes), "j", bytesOf(yes, no, yes), api.OK)
	wantImprove(t, bytesOf(in(1, 0, 0, 0), in(10, 0, 0, 1), no, answer), "j", bytesOf(in(1, 0, 0, 0), answer, no, answer), api.OK)
	wantImprove(t, bytesOf(in(10, 0, 0, 1), no, in(10, 0, 0, 0), yes), "j", bytesOf(yes, no, yes), api.OK)
	// What stood between the hops of a test is dropped: it is no test any more.
	wantImprove(t, bytesOf(in(1, 0, 0, 0), in(12, 0, 1, 7), in(10, 0, 0, 0), answer), "j", bytesOf(in(1, 0, 0, 0), answer), api.OK)
	wantImprove(t, bytesOf(in(1, 0, 0, 0), in(12, 2, 2, 7), in(2, 0, 0, 9), no, in(7, 0, 0, 1), answer), "j",
		bytesOf(in(1, 0, 0, 0), in(10, 0, 0, 2), in(2, 0, 0, 9), no, in(7, 0, 0, 1), answer), api.OK)
	// It is asked of instructions that are not reached, too.
	wantImprove(t, bytesOf(yes, in(10, 0, 0, 0), in(13, 1, 1, 5), no, answer), "j", bytesOf(yes, answer, no, answer), api.OK)
}

func TestImproveLoads(t *testing.T) {
	for word := 0; word <= 18; word += 2 {
		load := in(1, 0, 0, word)
		other := in(1, 0, 0, (word+2)%20)
		still := []api.Instr{in(4, 0, 0, 2), in(10, 0, 0, 0), in(11, 0, 0, 5), in(12, 0, 0, 5), in(13, 0, 0, 5), in(14, 0, 0, 5)}
		for _, x := range still {
			wantImprove(t, bytesOf(load, x, load, answer), "l", bytesOf(load, x, answer), api.OK)
			wantImprove(t, bytesOf(load, x, other, answer), "l", bytesOf(load, x, other, answer), api.OK)
		}
		for _, x := range []api.Instr{other, in(2, 0, 0, word), in(3, 0, 0, 2), in(5, 0, 0, 65535), in(6, 0, 0, 0), in(7, 0, 0, 0), in(8, 0, 0, 1), in(9, 0, 0, 0)} {
			wantImprove(t, bytesOf(load, x, load, answer), "l", bytesOf(load, x, load, answer), api.OK)
		}
		// Two ways that agree, two that do not, one of which only an unreached instruction tells.
		wantImprove(t, bytesOf(load, in(11, 0, 1, 5), load, load, answer), "l", bytesOf(load, in(11, 0, 0, 5), answer), api.OK)
		wantImprove(t, bytesOf(load, in(11, 1, 0, 5), other, load, answer), "l", bytesOf(load, in(11, 1, 0, 5), other, load, answer), api.OK)
		wantImprove(t, bytesOf(load, in(10, 0, 0, 1), other, load, answer), "l", bytesOf(load, in(10, 0, 0, 1), other, answer), api.OK)
		// What is not reached stays.
		wantImprove(t, bytesOf(yes, load, load, answer), "l", bytesOf(yes, load, load, answer), api.OK)
		wantImprove(t, bytesOf(load, answer), "l", bytesOf(load, answer), api.OK)
	}
}

// Each test on each number that is known by Put goes the way that the run goes.
func TestImproveSettlesTests(t *testing.T) {
	for _, a := range edges {
		for _, k := range edges {
			for op := 11; op <= 14; op++ {
				hop := 2
				if tests[byte(op)](uint16(a), uint16(k)) {
					hop = 1
				}
				wantImprove(t, bytesOf(in(2, 0, 0, a), in(op, 1, 2, k), answer, yes, no), "k", bytesOf(in(2, 0, 0, a), in(10, 0, 0, hop), answer, yes, no), api.OK)
			}
		}
	}
}

// A number goes on through each sum, up to an Answer.
func TestImproveSettlesAnswers(t *testing.T) {
	for _, a := range edges {
		for _, k := range edges {
			for op, sum := range sums {
				if good := operands[op]; good != nil && !good(uint16(k)) {
					continue
				}
				list := []api.Instr{in(2, 0, 0, a), in(int(op), 0, 0, k)}
				want := in(15, 0, 0, int(sum(uint16(a), uint16(k))))
				wantImprove(t, bytesOf(append(slices.Clone(list), answer)...), "k", bytesOf(append(slices.Clone(list), want)...), api.OK)
				if op == 2 {
					continue
				}
				// With a number that is not known, nothing is.
				list[0] = in(1, 0, 0, 0)
				wantImprove(t, bytesOf(append(slices.Clone(list), answer)...), "k", bytesOf(append(slices.Clone(list), answer)...), api.OK)
			}
		}
	}
}

func TestImproveKnowsNumbers(t *testing.T) {
	load := in(1, 0, 0, 6)
	// At first it is 0.
	wantImprove(t, bytesOf(answer), "k", bytesOf(in(15, 0, 0, 0)), api.OK)
	wantImprove(t, bytesOf(in(4, 0, 0, 1), in(10, 0, 0, 0), in(12, 0, 1, 0), yes, answer), "k", bytesOf(in(4, 0, 0, 1), in(10, 0, 0, 0), in(10, 0, 0, 1), yes, in(15, 0, 0, 0)), api.OK)
	// By T from Equal it is K, by F or from another test it is not.
	wantImprove(t, bytesOf(load, in(11, 0, 1, 65535), answer, answer), "k", bytesOf(load, in(11, 0, 1, 65535), in(15, 0, 0, 65535), answer), api.OK)
	wantImprove(t, bytesOf(load, in(11, 1, 0, 65535), answer, answer), "k", bytesOf(load, in(11, 1, 0, 65535), answer, in(15, 0, 0, 65535)), api.OK)
	for op := 12; op <= 14; op++ {
		wantImprove(t, bytesOf(load, in(op, 0, 1, 65535), answer, answer), "k", bytesOf(load, in(op, 0, 1, 65535), answer, answer), api.OK)
	}
	wantImprove(t, bytesOf(load, in(11, 0, 0, 7), answer), "k", bytesOf(load, in(11, 0, 0, 7), answer), api.OK)
	// Load and Take make it unknown.
	wantImprove(t, bytesOf(in(2, 0, 0, 9), load, answer), "k", bytesOf(in(2, 0, 0, 9), load, answer), api.OK)
	wantImprove(t, bytesOf(in(2, 0, 0, 9), in(4, 0, 0, 3), in(3, 0, 0, 3), answer), "k", bytesOf(in(2, 0, 0, 9), in(4, 0, 0, 3), in(3, 0, 0, 3), answer), api.OK)
	// Ways that agree, and ways that do not.
	wantImprove(t, bytesOf(load, in(14, 0, 2, 1), in(2, 0, 0, 4), in(10, 0, 0, 1), in(2, 0, 0, 4), answer), "k",
		bytesOf(load, in(14, 0, 2, 1), in(2, 0, 0, 4), in(10, 0, 0, 1), in(2, 0, 0, 4), in(15, 0, 0, 4)), api.OK)
	wantImprove(t, bytesOf(load, in(14, 0, 2, 1), in(2, 0, 0, 4), in(10, 0, 0, 1), in(2, 0, 0, 5), answer), "k",
		bytesOf(load, in(14, 0, 2, 1), in(2, 0, 0, 4), in(10, 0, 0, 1), in(2, 0, 0, 5), answer), api.OK)
	// A test that is settled takes a way off, and more is known behind it.
	wantImprove(t, bytesOf(in(2, 0, 0, 4), in(12, 1, 0, 3), load, answer), "k", bytesOf(in(2, 0, 0, 4), in(10, 0, 0, 1), load, in(15, 0, 0, 4)), api.OK)
	// What is not reached stays as it is.
	wantImprove(t, bytesOf(yes, in(2, 0, 0, 4), answer), "k", bytesOf(yes, in(2, 0, 0, 4), answer), api.OK)
}

// The longest hops and the longest codes.
func TestImproveAtBounds(t *testing.T) {
	r := rand.New(rand.NewSource(11))
	load := in(1, 0, 0, 18)
	fill := func(x api.Instr, last ...api.Instr) []api.Instr {
		return append(slices.Repeat([]api.Instr{x}, 1024-len(last)), last...)
	}
	wide := []api.Instr{load, in(12, 15, 14, 7)}
	wide = append(wide, slices.Repeat([]api.Instr{load}, 14)...)
	wide = append(wide, yes, load, answer)
	far := fill(load, answer)
	far[0] = in(10, 0, 0, 1022)
	back := fill(load, in(7, 0, 0, 1), answer)
	back[0] = in(10, 0, 0, 1021)
	zigzag := fill(in(10, 0, 0, 1), in(10, 0, 0, 0), in(7, 0, 0, 1), answer)
	for _, list := range [][]api.Instr{
		wide, far, back, zigzag, fill(in(10, 0, 0, 0), answer), fill(load, answer), fill(answer, answer), fill(yes, answer), fill(in(7, 0, 0, 65535), answer),
		fill(in(11, 1, 0, 0), yes, no), fill(in(11, 0, 1, 0), yes, no), fill(in(12, 1, 0, 7), load, answer), fill(in(14, 0, 0, 1), answer), fill(in(13, 15, 15, 0), fill(load, answer)[1008:]...),
	} {
		records := recordsFor(r, list, 6)
		for _, passes := range []string{"d", "j", "l", "k", "kjd", "djlkdjlkdjlk"} {
			wantBetter(t, list, passes, records)
		}
	}
	wantImprove(t, bytesOf(fill(in(10, 0, 0, 0), answer)...), "j", bytesOf(answer), api.OK)
	wantImprove(t, bytesOf(far...), "d", bytesOf(in(10, 0, 0, 0), answer), api.OK)
	wantImprove(t, bytesOf(fill(load, answer)...), "l", bytesOf(load, answer), api.OK)
	wantImprove(t, bytesOf(fill(in(7, 0, 0, 65535), answer)...), "k", bytesOf(fill(in(7, 0, 0, 65535), in(15, 0, 0, 65536-1023))...), api.OK)
	wantImprove(t, bytesOf(back...), "j", bytesOf(back...), api.OK)
}

// anyPasses makes passes, with other bytes between them.
func anyPasses(r *rand.Rand) string {
	var b []byte
	for range r.Intn(13) {
		b = append(b, "djlkdjlkdjlkxD"[r.Intn(14)])
	}
	return string(b)
}

// plainCode makes a sound code of few words and numbers, so that much is known
// in it.
func plainCode(r *rand.Rand, n int) []api.Instr {
	list := anyCode(r, n)
	for i, x := range list {
		switch {
		case x.Op == 1:
			list[i].K = 2 * r.Intn(2)
		case x.Op == 8:
			list[i].K = 1 + r.Intn(2)
		case x.Op != 10 && x.Op != 16:
			list[i].K = r.Intn(3)
		}
		if r.Intn(6) == 0 && i < n-1 {
			list[i] = in(1, 0, 0, 0)
		}
	}
	return list
}

func TestImproveOfAnyCode(t *testing.T) {
	r := rand.New(rand.NewSource(12))
	for i := range 3000 {
		n := 1 + r.Intn(40)
		if i%300 == 0 {
			n = 1000 + r.Intn(25)
		}
		list := anyCode(r, n)
		if i%3 != 0 {
			list = plainCode(r, n)
		}
		wantBetter(t, list, anyPasses(r), recordsFor(r, list, 12))
	}
}

// All codes of up to four instructions of some sorts, on all that their one
// word can turn on.
func TestImproveOfAllShortCodes(t *testing.T) {
	sorts := []api.Instr{
		in(1, 0, 0, 0), in(1, 0, 0, 2), in(2, 0, 0, 0), in(2, 0, 0, 1), in(4, 0, 0, 0), in(3, 0, 0, 0), in(7, 0, 0, 1),
		in(10, 0, 0, 0), in(10, 0, 0, 1), in(10, 0, 0, 2),
		in(11, 0, 1, 1), in(11, 1, 0, 1), in(11, 0, 0, 1), in(11, 2, 0, 0), in(12, 0, 1, 0), in(12, 1, 1, 0), in(13, 0, 2, 1),
		in(15, 0, 0, 1), in(16, 0, 0, 0),
	}
	var records []string
	for word := range 6 {
		records = append(records, string([]byte{byte(word % 3), 0, byte(word / 3)})+strings.Repeat("\x00", 17))
	}
	var try func(list []api.Instr)
	try = func(list []api.Instr) {
		if e, _ := faultOf(bytesOf(list...)); e == api.OK {
			for _, pass := range []string{"d", "j", "l", "k"} {
				wantBetter(t, list, pass, records)
			}
		}
		if len(list) == 4 {
			return
		}
		for _, x := range sorts {
			try(append(slices.Clone(list), x))
		}
	}
	try(nil)
}
