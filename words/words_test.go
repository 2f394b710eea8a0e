package words

import (
	"strings"
	"testing"
)

func TestIsRecord(t *testing.T) {
	for n := 0; n <= 50; n++ {
		if got := IsRecord(strings.Repeat("x", n)); got != (n == 20) {
			t.Errorf("IsRecord of %d bytes = %v", n, got)
		}
	}
}

func TestAt(t *testing.T) {
	record := "\x05\x00\x03\x00\xff\xff\x00\x80\x80\x00\x01\x02\x03\x04\x05\x06\x07\x08\xfe\xff"
	want := []int{5, 3, 0xffff, 0x8000, 0x80, 0x201, 0x403, 0x605, 0x807, 0xfffe}
	for i, w := range want {
		if got := At(record, 2*i); got != w {
			t.Errorf("At(record, %d) = %d, want %d", 2*i, got, w)
		}
	}
}

func TestAtWhereThereIsNoWord(t *testing.T) {
	const big = int(^uint(0) >> 1)
	record := strings.Repeat("\xff", 20)
	for _, k := range []int{-big - 1, -1, 19, 20, 21, big - 1, big} {
		if got := At(record, k); got != 0 {
			t.Errorf("At(record, %d) = %d, want 0", k, got)
		}
	}
	for _, short := range []string{"", "\xff"} {
		if got := At(short, 0); got != 0 {
			t.Errorf("At(%q, 0) = %d, want 0", short, got)
		}
	}
}
