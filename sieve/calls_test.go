package sieve_test

import (
	"math/rand"
	"strings"
	"testing"

	"sieve/api"
	"sieve/sieve"
)

// texts are policies and texts that are none, of many sorts and lengths.
func texts(r *rand.Rand) []string {
	list := []string{"", "\x00", "?", ".", "!", "\xff\xfe", "?a", "?a3&", ".0000", "?T:0001.0002",
		strings.Repeat("?", 600), "?" + strings.Repeat("&", 599), "?" + strings.Repeat("!", 600), strings.Repeat("é", 300), strings.Repeat(".0000", 200)}
	for i := 0; i < 300; i++ {
		policy, _ := anyPolicy(r, exampleRecord)
		list = append(list, policy, policy[:r.Intn(len(policy)+1)], policy+policy)
		b := make([]byte, r.Intn(700))
		r.Read(b)
		list = append(list, string(b), policy[:r.Intn(len(policy)+1)]+string(b))
	}
	return list
}

func TestErrorsComeWithNothingElse(t *testing.T) {
	r := rand.New(rand.NewSource(1))
	for _, text := range texts(r) {
		e, at := sieve.Check(text)
		if e != api.OK && e != api.ErrLong && e != api.ErrForm || e != api.ErrForm && at != 0 || at < 0 || at > len(text) {
			t.Errorf("P1: Check(%.60q) = %d, %d", text, e, at)
		}
		for _, record := range []string{"", exampleRecord[1:], exampleRecord, exampleRecord + "\x00"} {
			want := e
			if e == api.OK && len(record) != 20 {
				want = api.ErrRecord
			}
			v, got := sieve.Judge(text, record)
			if got != want || got != api.OK && v != 0 || v < 0 || v > 65535 {
				t.Errorf("P1: Judge(%.60q, %q) = %d, %d, want error %d", text, record, v, got, want)
			}
		}
	}
}

// Asked again, in another order and with other calls between, the calls answer
// the same: nothing is left over from a call before.
func TestAnswersHangOnArgumentsAlone(t *testing.T) {
	type answer struct {
		e, judged   api.Errno
		at, verdict int
	}
	ask := func(text string) answer {
		var a answer
		a.e, a.at = sieve.Check(text)
		a.verdict, a.judged = sieve.Judge(text, exampleRecord)
		return a
	}
	r := rand.New(rand.NewSource(2))
	list := texts(r)
	first := make([]answer, len(list))
	for i, text := range list {
		first[i] = ask(text)
	}
	for _, i := range r.Perm(len(list)) {
		if again := ask(list[i]); again != first[i] {
			t.Errorf("P2: at %.60q first %+v, then %+v", list[i], first[i], again)
		}
	}
}
