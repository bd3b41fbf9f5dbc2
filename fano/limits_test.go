package fano

import (
	"testing"

	"lacework/api"
)

// These look from inside: bytes at the limit would take half a gigabyte.

// P5.2: there are bytes as long as a row may have their bits.
func TestBytesEndAtMaxBits(t *testing.T) {
	for _, c := range []struct {
		n, bound int
		want     bool
	}{{0, 1, true}, {0, api.MaxBits - 66, true}, {0, api.MaxBits - 65, true}, {0, api.MaxBits - 64, false}, {0, maxBound, false},
		{1, api.MaxBits, true}, {1, maxBound, true}, {maxCount, 1, true}, {maxCount, 2*maxCount - 1, true}, {maxCount, maxBound, true}} {
		if got := shapeOf(c.n, c.bound).fits(); got != c.want {
			t.Errorf("of %d below %d: %v", c.n, c.bound, got)
		}
	}
}

// P5.2: no row of 0s is kept where there are no numbers, whose bound may be great.
func TestNoNumbersKeepNoBits(t *testing.T) {
	for _, bound := range []int{1, 1000, maxBound} {
		s, e := Make(nil, bound)
		if e != api.OK || s.high.Len() != 0 || s.low.Len() != 0 {
			t.Errorf("below %d: %d", bound, e)
		}
	}
}

// P5.1: of one high part's numbers few are left to be gone through, and the one that is looked for is among them, or just behind.
func TestFewAreLeft(t *testing.T) {
	l := make([]int, 5000)
	for i := range l {
		l[i] = 1<<20 + i/3
	}
	s, e := Make(l, maxBound)
	if e != api.OK {
		t.Fatal(e)
	}
	less := 0
	for x := 1<<20 - 5; x < 1<<20+5000/3+5; x++ {
		for less < len(l) && l[less] < x {
			less++
		}
		if from, to := s.halve(x, x>>s.width); to-from > few || less < from || less > to {
			t.Fatalf("for %d, ahead of which %d are, %d to %d are left", x, less, from, to)
		}
	}
}
