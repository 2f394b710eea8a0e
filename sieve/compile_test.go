package sieve_test

import (
	"fmt"
	"math/rand"
	"slices"
	"strings"
	"testing"

	"sieve/api"
	"sieve/sieve"
)

// wantCompile asks Compile for an error.
func wantCompile(t *testing.T, policy string, passes string, e api.Errno) {
	t.Helper()
	if code, got := sieve.Compile(policy, passes); got != e || (got == api.OK) != (code != "") {
		t.Errorf("P9: Compile(%.60q, %.20q) = %v, %d, want error %d", policy, passes, listOf(code), got, e)
	}
}

// wantCompiled asks of Compile whatever the document says of a policy, without
// passes and with some.
func wantCompiled(t *testing.T, policy string, verdict func(record string) int, records []string, passes ...string) {
	t.Helper()
	plain, e := sieve.Compile(policy, "")
	if e != api.OK {
		t.Fatalf("P9: Compile(%q, \"\") = %v, %d", policy, listOf(plain), e)
	}
	for _, p := range append([]string{""}, passes...) {
		code, e := sieve.Compile(policy, p)
		if fault, at := faultOf(code); e != api.OK || fault != api.OK {
			t.Fatalf("P9: Compile(%q, %q) = %v, %d: fault %d at %d", policy, p, listOf(code), e, fault, at)
		}
		if better, e := sieve.Improve(plain, p); code != better || e != api.OK {
			t.Fatalf("P9: Compile(%q, %q) = %v, but Improve(%v) = %v, %d", policy, p, listOf(code), listOf(plain), listOf(better), e)
		}
		for _, record := range records {
			if got, _ := runOf(code, record); got != verdict(record) {
				t.Fatalf("P9: Compile(%q, %q) = %v: on %q verdict %d, want %d", policy, p, listOf(code), record, got, verdict(record))
			}
		}
	}
}

// wantTold asks for a code that tells whether a condition holds.
func wantTold(t *testing.T, c tree, records []string, passes ...string) {
	t.Helper()
	policy, verdict := policyOf(2, judged{c, 1})
	wantCompiled(t, policy, verdict, records, passes...)
}

// with puts a value into a record.
func with(record string, name string, value uint64) string {
	b := []byte(record)
	for i := fields[name][0]; i < fields[name][1]; i++ {
		b[i] = byte(value)
		value >>= 8
	}
	return string(b)
}

// beside are records of which some values are other ones than a record's, and
// lie near them.
func beside(r *rand.Rand, record string, count int) []string {
	records := []string{record}
	for len(records) < count {
		other := record
		for name, place := range fields {
			value := field(record, place[0], place[1])
			switch r.Intn(8) {
			case 0:
				value++
			case 1:
				value--
			case 2:
				value ^= 1 << r.Intn(32)
			case 3:
				value = r.Uint64()
			}
			other = with(other, name, value)
		}
		records = append(records, other)
	}
	return records
}

func TestCompileExample(t *testing.T) {
	for _, passes := range []string{"", "kjdl"} {
		code, e := sieve.Compile("?n=0005:0001.0000", passes)
		if fault, _ := faultOf(code); e != api.OK || fault != api.OK {
			t.Fatalf("P9: %v, %d", listOf(code), e)
		}
		for n := range 65536 {
			want := 0
			if n == 5 {
				want = 1
			}
			if got, _ := runOf(code, with(exampleRecord, "n", uint64(n))); got != want {
				t.Fatalf("P9: %v: with n %d verdict %d", listOf(code), n, got)
			}
		}
	}
}

func TestCompileErrors(t *testing.T) {
	long := "?" + strings.Repeat("!", 589) + "T:0001.0002"
	for _, passes := range []string{"", "d", "xyz", "djlkdjlkdjlk", strings.Repeat("x", 12)} {
		wantCompile(t, ".0002", passes, api.OK)
		wantCompile(t, long[:1]+long[2:], passes, api.OK)
	}
	for _, passes := range []string{"djlkdjlkdjlkd", strings.Repeat("x", 13), strings.Repeat("\x00", 5000)} {
		wantCompile(t, ".0002", passes, api.ErrPass)
		wantCompile(t, long[:1]+long[2:], passes, api.ErrPass)
	}
	// The error of Check is told first.
	for _, passes := range []string{"", "d", strings.Repeat("j", 13)} {
		wantCompile(t, long, passes, api.ErrLong)
		wantCompile(t, strings.Repeat("x", 601), passes, api.ErrLong)
		for _, policy := range []string{"", ".", ".000", ".00A0", "?T:0001", "?T:0001.0002x", "?&T:0001.0002", "?n=005:0001.0002", "?a4=00000000:0001.0002", "T", strings.Repeat("x", 600), "?" + strings.Repeat("&", 599)} {
			wantCompile(t, policy, passes, api.ErrForm)
		}
	}
}

func TestCompileVerdicts(t *testing.T) {
	records := []string{exampleRecord, strings.Repeat("\xff", 20)}
	for _, v := range edges {
		for _, c := range []tree{always(), not(always()), compares("n", '=', 5)} {
			policy, verdict := policyOf(v)
			wantCompiled(t, policy, verdict, records, "d", "k")
			policy, verdict = policyOf(7, judged{c, v})
			wantCompiled(t, policy, verdict, records, "d", "k")
			policy, verdict = policyOf(v, judged{c, 7})
			wantCompiled(t, policy, verdict, records, "d", "k")
			policy, verdict = policyOf(9, judged{c, 7}, judged{compares("h", '<', 4), v}, judged{c, 8})
			wantCompiled(t, policy, verdict, records, "d", "k")
		}
	}
}

// Each value, in a record whose other bytes all differ from it, is compared
// with the numbers next to it, to each of its words, and at both ends.
func TestCompileRelations(t *testing.T) {
	for name, place := range fields {
		top := uint64(1)<<(8*(place[1]-place[0])) - 1
		for _, want := range []uint64{0, 1, 0xff, 0x100, 0x7fff, 0x8000, 0xfffe, 0xffff, 0x10000, 0x10001, 0x1fffe, 0x12345678, 0x7fffffff, 0x80000000, 0xfffeffff, 0xffff0000, 0xffff0001, 0xfffffffe, 0xffffffff} {
			want &= top
			var records []string
			for _, value := range []uint64{0, want - 1, want, want + 1, want ^ 0x100, want ^ 0x8000, want - 0x10000, want + 0x10000, want - 0x10001, want + 0x10001, want - 0xffff, want + 0xffff, want ^ 0x80000000, want>>16 | want<<16, want | 0xffff, want &^ 0xffff, top} {
				records = append(records, with(strings.Repeat("\x5a", 20), name, value))
			}
			for _, relation := range []byte("=<>") {
				wantTold(t, compares(name, relation, want), records, "d", "j", "l", "k")
				wantTold(t, not(compares(name, relation, want)), records, "djlk")
			}
		}
	}
}

func TestCompileMasks(t *testing.T) {
	numbers := []uint64{0, 1, 0x8000, 0xffff, 0x10000, 0x80000000, 0x80000001, 0xffff0000, 0x12345678, 0xfffffffe, 0xffffffff}
	for i := range 4 {
		name := fmt.Sprintf("a%d", i)
		var records []string
		for _, value := range numbers {
			records = append(records, with(strings.Repeat("\x5a", 20), name, value))
		}
		for _, mask := range numbers {
			wants := slices.Clone(numbers)
			for _, value := range numbers {
				wants = append(wants, value&mask)
			}
			for _, want := range wants {
				wantTold(t, masks(name, mask, want), records, "kjl")
				wantTold(t, not(masks(name, mask, want)), records)
			}
		}
	}
}

// All conditions of three levels over T and two comparisons.
func TestCompileConnectives(t *testing.T) {
	grow := func(list []tree, leaves []tree) []tree {
		grown := slices.Clone(leaves)
		for _, c := range list {
			grown = append(grown, not(c))
			for _, d := range list {
				grown = append(grown, both(c, d), either(c, d))
			}
		}
		return grown
	}
	leaves := []tree{always(), compares("n", '=', 1), compares("a1", '<', 0x10001)}
	var records []string
	for i := range uint64(4) {
		records = append(records, with(with(exampleRecord, "n", i&1), "a1", 0x10000+i>>1))
	}
	for _, c := range grow(grow(leaves, leaves), leaves) {
		wantTold(t, c, records, "djlk")
	}
}

// chain joins conditions to one, which nests to the right or to the left.
func chain(join func(c, d tree) tree, list []tree, left bool) tree {
	if len(list) == 1 {
		return list[0]
	}
	last := len(list) - 1
	if left {
		return join(chain(join, list[:last], left), list[last])
	}
	return join(list[0], chain(join, list[1:], left))
}

// Chains of each length of each comparison: whichever of them settles it, the
// run comes to its verdict, however far that is.
func TestCompileChains(t *testing.T) {
	for _, sort := range []func(k uint64) tree{
		func(k uint64) tree { return compares("n", '=', k&0xffff) },
		func(k uint64) tree { return compares("n", '<', k&0xffff) },
		func(k uint64) tree { return compares("n", '>', k&0xffff) },
		func(k uint64) tree { return compares("a2", '=', k) },
		func(k uint64) tree { return compares("a2", '<', k) },
		func(k uint64) tree { return compares("a2", '>', k) },
		func(k uint64) tree { return masks("a2", 0x7fff, k&0xffff) },
		func(k uint64) tree { return masks("a2", 0x7fff7fff, k) },
	} {
		var list, turned []tree
		var records []string
		for k := uint64(0x10001); ; k += 0x10001 {
			list = append(list, sort(k))
			turned = append(turned, not(sort(k)))
			for _, value := range []uint64{k, k - 1, k + 1, k + 0x10000, k - 0x10000} {
				records = append(records, with(with(exampleRecord, "n", value), "a2", value))
			}
			if len(turned)*(1+len(turned[0].text)) > 588 {
				break
			}
			for _, left := range []bool{false, true} {
				wantTold(t, chain(either, list, left), records)
				wantTold(t, not(chain(both, list, left)), records)
				wantTold(t, chain(both, turned, left), records, "djl")
			}
		}
	}
}

// Rules of each length ahead of others, whose conditions are then far off.
func TestCompileRules(t *testing.T) {
	var records []string
	for n := range uint64(50) {
		records = append(records, with(exampleRecord, "n", n), with(with(exampleRecord, "n", n), "a3", n<<16|n))
	}
	var rules []judged
	for i := 0; ; i++ {
		rules = append(rules, judged{compares("n", '=', uint64(i)), i % 3})
		if i%4 == 3 {
			rules[i].when = both(not(compares("a3", '<', uint64(i)<<16|uint64(i))), compares("h", '=', 3))
		}
		policy, verdict := policyOf(7, rules...)
		if len(policy) > 600 {
			break
		}
		wantCompiled(t, policy, verdict, records, "j", "l", "djlkdjlk")
	}
	var list []tree
	for i := range 60 {
		list = append(list, compares("n", '>', uint64(i)))
		policy, verdict := policyOf(7, judged{chain(both, list, false), 1}, judged{compares("n", '<', 9), 2}, judged{either(compares("h", '<', 3), compares("n", '>', 20)), 3})
		wantCompiled(t, policy, verdict, records, "j", "l", "djlkdjlk")
	}
}

// A condition that is never asked may lie between a test and both the places
// where it leads: at each distance, with each of them the nearer one.
func TestCompileBothFar(t *testing.T) {
	never := not(always())
	var records []string
	for i := range uint64(64) {
		record := with(with(exampleRecord, "n", i&3), "h", i>>2&3)
		records = append(records, with(record, "a0", 0xffff*(i>>4)))
	}
	for shorts := range 24 {
		for longs := range 3 {
			unasked := append(slices.Repeat([]tree{compares("n", '<', 7)}, shorts), slices.Repeat([]tree{masks("a1", 1, 1)}, longs)...)
			unasked = append([]tree{never}, unasked...)
			for _, asked := range []tree{compares("n", '=', 1), compares("a0", '<', 0x10001), compares("a0", '>', 0xfffe), masks("a0", 0x10001, 1)} {
				rest := either(chain(both, unasked, false), compares("h", '=', 2))
				wantTold(t, both(asked, rest), records, "d", "j")
				wantTold(t, both(not(asked), rest), records)
				rest = not(rest)
				wantTold(t, either(asked, rest), records, "d", "j")
				wantTold(t, either(not(asked), rest), records)
			}
		}
	}
}

// The longest policies, of each sort and nested as deep as can be.
func TestCompileLongest(t *testing.T) {
	r := rand.New(rand.NewSource(13))
	fill := func(c tree) tree {
		for len(c.text) < 589 {
			c = not(c)
		}
		return c
	}
	list := []tree{fill(always()), fill(compares("n", '=', 5)), fill(masks("a0", 0xff, 0x78))}
	for _, c := range []tree{always(), not(always()), compares("n", '=', 5), compares("h", '<', 3), compares("a0", '=', 0x12345678), compares("a0", '<', 0x12345679), compares("a0", '>', 0x12345677), masks("a0", 0xff00ff, 0x340078)} {
		count := 590 / (1 + len(c.text))
		for _, join := range []func(c, d tree) tree{both, either} {
			for _, left := range []bool{false, true} {
				list = append(list, fill(chain(join, slices.Repeat([]tree{c}, count), left)))
			}
		}
		mixed := c
		for len(mixed.text)+2*(1+len(c.text)) < 590 {
			mixed = both(c, either(mixed, c))
		}
		list = append(list, fill(mixed))
	}
	for _, c := range list {
		policy, verdict := policyOf(2, judged{c, 1})
		if len(policy) < 599 || len(policy) > 600 {
			t.Fatalf("a policy of %d bytes: %q", len(policy), policy)
		}
		wantCompiled(t, policy, verdict, beside(r, exampleRecord, 30), "d", "j", "l", "k", "kjdlkjdlkjdl")
	}
}

// wide makes a condition of at most so many bytes, of which it leaves few.
func wide(r *rand.Rand, record string, room int) tree {
	if room < 41 {
		return leaf(r, record)
	}
	switch r.Intn(20) {
	case 0:
		return both(always(), wide(r, record, room-2))
	case 1:
		return either(wide(r, record, room-3), not(always()))
	case 2, 3:
		return not(wide(r, record, room-1))
	}
	part := 20 + r.Intn(room-40)
	if r.Intn(2) == 0 {
		part = []int{20, room - 21}[r.Intn(2)]
	}
	c := wide(r, record, part)
	d := wide(r, record, room-1-part)
	if r.Intn(2) == 0 {
		return both(c, d)
	}
	return either(c, d)
}

func TestCompileOfAnyPolicy(t *testing.T) {
	r := rand.New(rand.NewSource(14))
	for range 1500 {
		record := anyRecord(r)
		policy, verdict := anyPolicy(r, record)
		wantCompiled(t, policy, verdict, append(beside(r, record, 12), anyRecord(r)), anyPasses(r), anyPasses(r))
	}
	for range 500 {
		record := anyRecord(r)
		var rules []judged
		for room := 595; room > 30; {
			c := wide(r, record, min(room-6, 20+r.Intn(590)))
			rules = append(rules, judged{c, r.Intn(65536)})
			room -= 6 + len(c.text)
		}
		policy, verdict := policyOf(r.Intn(65536), rules...)
		wantCompiled(t, policy, verdict, append(beside(r, record, 30), anyRecord(r)), anyPasses(r), anyPasses(r))
	}
}
