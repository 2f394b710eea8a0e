package api

import "testing"

// The numbers are part of what callers see, so none may slip.
func TestNumbers(t *testing.T) {
	errnos := []Errno{OK, ErrLong, ErrForm, ErrSize, ErrOp, ErrField, ErrOperand, ErrJump, ErrEnd, ErrRecord, ErrPass}
	for i, e := range errnos {
		if int(e) != i {
			t.Errorf("error %d has the number %d", i, e)
		}
	}
	ops := []int{Load, Put, Take, Keep, And, Or, Add, Div, Down, Go, Equal, Above, Least, Some, Return, Answer}
	for i, op := range ops {
		if op != i+1 {
			t.Errorf("operation %d has the number %d", i+1, op)
		}
	}
	bounds := []int{MaxText, MaxLen, Size, MaxHop, MaxDown, Cells, RecordSize, LastWord, MaxPasses}
	for i, want := range []int{600, 1024, 5, 15, 15, 4, 20, 18, 12} {
		if bounds[i] != want {
			t.Errorf("bound %d is %d, want %d", i, bounds[i], want)
		}
	}
}
