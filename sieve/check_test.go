package sieve_test

import (
	"math/rand"
	"strings"
	"testing"

	"sieve/api"
	"sieve/sieve"
)

// wantCheck asks Check for an answer.
func wantCheck(t *testing.T, text string, e api.Errno, at int) {
	t.Helper()
	if gotE, gotAt := sieve.Check(text); gotE != e || gotAt != at {
		t.Errorf("P3: Check(%.80q) of %d bytes = %d, %d, want %d, %d", text, len(text), gotE, gotAt, e, at)
	}
}

// wantByGrammar asks Check for what the grammar tells.
func wantByGrammar(t *testing.T, text string) {
	t.Helper()
	ok, at := faultAt(text)
	switch {
	case len(text) > 600:
		wantCheck(t, text, api.ErrLong, 0)
	case ok:
		wantCheck(t, text, api.OK, 0)
	default:
		wantCheck(t, text, api.ErrForm, at)
	}
}

func TestCheckExamples(t *testing.T) {
	wantCheck(t, "?&h=0003n<0010:ffff.0000", api.OK, 0)
	wantCheck(t, ".00", api.ErrForm, 3)
	wantCheck(t, "", api.ErrForm, 0)
	wantCheck(t, "?n=00A0:0001.0000", api.ErrForm, 5)
	wantCheck(t, "?a4=00000000:0001.0000", api.ErrForm, 2)
	wantCheck(t, ".0000.0000", api.ErrForm, 5)
}

func TestCheckLength(t *testing.T) {
	for _, n := range []int{0, 1, 588} {
		wantCheck(t, "?"+strings.Repeat("!", n)+"T:0001.0000", api.OK, 0)
	}
	wantCheck(t, "?"+strings.Repeat("!", 589)+"T:0001.0000", api.ErrLong, 0)
	wantCheck(t, "?"+strings.Repeat("|", 294)+strings.Repeat("T", 295)+":0001.0000", api.OK, 0)
	wantCheck(t, "?"+strings.Repeat("&!", 196)+strings.Repeat("T", 197)+":0001.0000", api.OK, 0)
	// What is no policy is told only of texts that are not too long.
	wantCheck(t, strings.Repeat("x", 600), api.ErrForm, 0)
	wantCheck(t, strings.Repeat("x", 601), api.ErrLong, 0)
	wantCheck(t, ".0000"+strings.Repeat("0", 595), api.ErrForm, 5)
	wantCheck(t, ".0000"+strings.Repeat("0", 596), api.ErrLong, 0)
	wantCheck(t, strings.Repeat("\x00", 1<<20), api.ErrLong, 0)
}

// A text that only ends too early is the beginning of a policy, even if each
// such policy is longer than 600 bytes.
func TestCheckEndsTooEarly(t *testing.T) {
	whole := "?|&!Tn=09af:0000?h<ffff:1234?|h>0000a0=00000000:1111?a1<ffffffff:2222?a2>89abcdef:3333?a3&12345678=9abcdef0:4444.5555"
	wantCheck(t, whole, api.ErrForm, 11)
	whole = strings.Replace(whole, "n=09af:", "n=09afT:", 1)
	wantCheck(t, whole, api.OK, 0)
	for n := 0; n < len(whole); n++ {
		wantCheck(t, whole[:n], api.ErrForm, n)
	}
	for _, piece := range []string{"?" + strings.Repeat("!", 599), "?" + strings.Repeat("&", 599), strings.Repeat("?T:0002", 85) + "?T:00", "?" + strings.Repeat("|T", 299) + "T"} {
		wantCheck(t, piece[:599], api.ErrForm, 599)
		wantCheck(t, piece, api.ErrForm, 600)
		wantCheck(t, piece+"T", api.ErrLong, 0)
	}
}

// Every byte in place of every byte of a policy, and behind it, brings in the
// bytes next to the ends of each range: / : ` g around the digits, 4 behind 3.
func TestCheckEveryByteEverywhere(t *testing.T) {
	for _, policy := range []string{
		".09af",
		"?T:0000.ffff",
		"?n=0000:0001.0002",
		"?!h>9fa0:0001?n<ffff:0002.0003",
		"?|a0=00000000&a1<ffffffffa3>09afaf90:abcd.0000",
		"?a2&80000001=00000001:0001?a0&ffffffff=ffffffff:0002.0003",
	} {
		wantCheck(t, policy, api.OK, 0)
		for at := 0; at <= len(policy); at++ {
			for b := 0; b < 256; b++ {
				wantByGrammar(t, policy[:at]+string([]byte{byte(b)})+policy[min(at+1, len(policy)):])
			}
		}
	}
}

func TestCheckRanges(t *testing.T) {
	for _, c := range []struct {
		before, good, bad, after string
	}{
		{".", "09af", "/:`gAFG \x00\xff", "000"},
		{".000", "09af", "/:`gAF", ""},
		{"?T:", "09af", "/:`gAF", "000.0000"},
		{"?T:000", "09af", "/:`gAF", ".0000"},
		{"?a", "0123", "/4a9=&\x00\xff", "=00000000:0000.0000"},
		{"?n", "=<>", ";?&!:0", "0000:0000.0000"},
		{"?h", "=<>", ";?&!:0", "0000:0000.0000"},
		{"?a0", "=<>", ";?!:0", "00000000:0000.0000"},
		{"?a0&00000000", "=", "<>&:0", "00000000:0000.0000"},
		{"?", "T", "tNHA:.?0", ":0000.0000"},
		{"?", "!", "~", "T:0000.0000"},
		{"?", "&|", "^+", "TT:0000.0000"},
	} {
		for i := range c.good {
			wantCheck(t, c.before+c.good[i:i+1]+c.after, api.OK, 0)
		}
		for i := range []byte(c.bad) {
			wantCheck(t, c.before+c.bad[i:i+1]+c.after, api.ErrForm, len(c.before))
		}
	}
}

func TestCheckByGrammar(t *testing.T) {
	r := rand.New(rand.NewSource(3))
	bytes := "?.:T!&|nha=<>0123456789abcdefgA \x00\xff"
	for round := 0; round < 3000; round++ {
		text, _ := anyPolicy(r, anyRecord(r))
		wantCheck(t, text, api.OK, 0)
		at := r.Intn(len(text))
		b := bytes[r.Intn(len(bytes))]
		wantByGrammar(t, text[:at])
		wantByGrammar(t, text[:at]+string([]byte{b})+text[at+1:])
		wantByGrammar(t, text[:at]+string([]byte{b})+text[at:])
		wantByGrammar(t, text[:at]+text[at+1:])
	}
	for round := 0; round < 20000; round++ {
		b := make([]byte, r.Intn(30))
		for i := range b {
			b[i] = bytes[r.Intn(len(bytes))]
		}
		wantByGrammar(t, string(b))
	}
}
