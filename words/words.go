// Package words: the words of a record.
package words

import "sieve/api"

// Where the fields of a record begin.
const (
	Number        = 0
	House         = 2
	FirstArgument = 4
	ArgumentSize  = 4
)

// Max is the greatest number that a word can be.
const Max = 65535

// IsRecord tells whether a text is a record.
func IsRecord(text string) bool {
	return len(text) == api.RecordSize
}

// At tells the word k of a record, and 0 where there is none.
func At(record string, k int) int {
	if k < 0 || k >= len(record)-1 {
		return 0
	}
	return int(record[k]) + 256*int(record[k+1])
}
