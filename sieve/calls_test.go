package sieve_test

import (
	"math/rand"
	"slices"
	"strings"
	"testing"

	"sieve/api"
	"sieve/sieve"
)

// texts are policies and texts that are none, of many sorts and lengths.
func texts(r *rand.Rand) []string {
	list := []string{"", "\x00", "?", ".", "!", "\xff\xfe", "?a", "?a3&", ".0000", "?T:0001.0002",
		strings.Repeat("?", 600), "?" + strings.Repeat("&", 599), "?" + strings.Repeat("!", 600), strings.Repeat("é", 300), strings.Repeat(".0000", 200)}
	for i := 0; i < 300; i++ {
		policy, _ := anyPolicy(r, exampleRecord)
		list = append(list, policy, policy[:r.Intn(len(policy)+1)], policy+policy)
		b := make([]byte, r.Intn(700))
		r.Read(b)
		list = append(list, string(b), policy[:r.Intn(len(policy)+1)]+string(b))
	}
	return list
}

func TestErrorsOfPoliciesComeWithNothingElse(t *testing.T) {
	r := rand.New(rand.NewSource(1))
	for _, text := range texts(r) {
		e, at := sieve.Check(text)
		if e != api.OK && e != api.ErrLong && e != api.ErrForm || e != api.ErrForm && at != 0 || at < 0 || at > len(text) {
			t.Errorf("P1: Check(%.60q) = %d, %d", text, e, at)
		}
		for _, record := range []string{"", exampleRecord[1:], exampleRecord, exampleRecord + "\x00"} {
			want := e
			if e == api.OK && len(record) != 20 {
				want = api.ErrRecord
			}
			v, got := sieve.Judge(text, record)
			if got != want || got != api.OK && v != 0 || v < 0 || v > 65535 {
				t.Errorf("P1: Judge(%.60q, %q) = %d, %d, want error %d", text, record, v, got, want)
			}
		}
		for _, passes := range []string{"", "x", "djlk", "djlkdjlkdjlk", "djlkdjlkdjlkd", strings.Repeat("\xff", 1000)} {
			want := e
			if e == api.OK && len(passes) > 12 {
				want = api.ErrPass
			}
			code, got := sieve.Compile(text, passes)
			if got != want || (got == api.OK) != (code != "") {
				t.Errorf("P1: Compile(%.60q, %.20q) = %.60q, %d, want error %d", text, passes, code, got, want)
			}
		}
	}
}

// codes are codes and texts that are none, of many sorts and lengths.
func codes(r *rand.Rand) []string {
	list := []string{"", "\x00", "\x0f\x00\x00\x00", "\x10\x00\x00\x00\x00", strings.Repeat("\xff", 5120), strings.Repeat("\x10\x00\x00\x00\x00", 1024), strings.Repeat("\x10\x00\x00\x00\x00", 1025), strings.Repeat("\x0a\x00\x00\x00\x00", 1024)}
	for i := 0; i < 300; i++ {
		code := bytesOf(anyCode(r, 1+r.Intn(60))...)
		at := r.Intn(len(code))
		list = append(list, code, code[:at], code[at:], code+code[:at], code[:at]+string([]byte{byte(r.Intn(256))})+code[at+1:])
		b := make([]byte, r.Intn(200))
		r.Read(b)
		list = append(list, string(b))
	}
	return list
}

func TestErrorsOfCodesComeWithNothingElse(t *testing.T) {
	r := rand.New(rand.NewSource(8))
	for _, code := range append(codes(r), texts(r)...) {
		e, at := sieve.Sound(code)
		wantE, wantAt := faultOf(code)
		if e != wantE || at != wantAt {
			t.Errorf("P1: Sound(%.60q) = %d, %d, want %d, %d", code, e, at, wantE, wantAt)
		}
		for _, record := range []string{"", exampleRecord[1:], exampleRecord, exampleRecord + "\x00"} {
			want := e
			if e == api.OK && len(record) != 20 {
				want = api.ErrRecord
			}
			v, steps, got := sieve.Run(code, record)
			if got != want || got != api.OK && (v != 0 || steps != 0) || v < 0 || v > 65535 || steps > len(code)/5 {
				t.Errorf("P1: Run(%.60q, %q) = %d, %d, %d, want error %d", code, record, v, steps, got, want)
			}
		}
		for _, passes := range []string{"", "x", "djlk", "djlkdjlkdjlk", "djlkdjlkdjlkd", strings.Repeat("\xff", 1000)} {
			want := e
			if e == api.OK && len(passes) > 12 {
				want = api.ErrPass
			}
			better, got := sieve.Improve(code, passes)
			if got != want || (got == api.OK) != (better != "") {
				t.Errorf("P1: Improve(%.60q, %.20q) = %.60q, %d, want error %d", code, passes, better, got, want)
			}
		}
		list, got := sieve.Decode(code)
		if got != api.OK && len(list) != 0 {
			t.Errorf("P1: Decode(%.60q) = %d instructions, %d", code, len(list), got)
		}
		list = append(list, in(r.Intn(300), 0, 0, 0), in(0, 0, 0, r.Intn(100000)))
		if again, got := sieve.Encode(list); got != api.OK && again != "" {
			t.Errorf("P1: Encode(%d instructions) = %.60q, %d", len(list), again, got)
		}
	}
}

// Asked again, in another order and with other calls between, the calls answer
// the same: nothing is left over from a call before.
func TestAnswersHangOnArgumentsAlone(t *testing.T) {
	type answer struct {
		errnos  [8]api.Errno
		numbers [5]int
		list    []api.Instr
		codes   [3]string
	}
	ask := func(text string) answer {
		var a answer
		a.errnos[0], a.numbers[0] = sieve.Check(text)
		a.numbers[1], a.errnos[1] = sieve.Judge(text, exampleRecord)
		a.errnos[2], a.numbers[2] = sieve.Sound(text)
		a.numbers[3], a.numbers[4], a.errnos[3] = sieve.Run(text, exampleRecord)
		a.list, a.errnos[4] = sieve.Decode(text)
		a.codes[0], a.errnos[5] = sieve.Encode(a.list)
		a.codes[1], a.errnos[6] = sieve.Improve(text, "kjdlkjd")
		a.codes[2], a.errnos[7] = sieve.Compile(text, "kjdlkjd")
		return a
	}
	r := rand.New(rand.NewSource(2))
	list := append(texts(r), codes(r)...)
	first := make([]answer, len(list))
	for i, text := range list {
		first[i] = ask(text)
	}
	for _, i := range r.Perm(len(list)) {
		again, was := ask(list[i]), first[i]
		if again.errnos != was.errnos || again.numbers != was.numbers || !slices.Equal(again.list, was.list) || again.codes != was.codes {
			t.Errorf("P2: at %.60q first %+v, then %+v", list[i], was, again)
		}
	}
}
