package bits

import (
	"math"
	"testing"

	"lacework/api"
)

// These look from inside: rows at the limit would take half a gigabyte each.

func nearlyFull(left int) *Builder {
	n := api.MaxBits - left
	return &Builder{n: n}
}

// P2.1

func TestPutEndsAtMaxBits(t *testing.T) {
	b := nearlyFull(70)
	if e := b.Put(1<<63, 64); e != api.OK || b.Len() != api.MaxBits-6 {
		t.Fatal("within the limit:", e, b.Len())
	}
	full, last := len(b.full), b.last
	if e := b.Put(1, 7); e != api.ErrLong {
		t.Error("one bit too many:", e)
	}
	if e := b.Put(0, 64); e != api.ErrLong {
		t.Error("58 bits too many:", e)
	}
	if b.Len() != api.MaxBits-6 || len(b.full) != full || b.last != last {
		t.Error("an error changed the bits")
	}
	if e := b.Put(63, 6); e != api.OK || b.Len() != api.MaxBits {
		t.Error("up to the limit:", e, b.Len())
	}
	if b.Bit(true) != api.ErrLong || b.Bit(false) != api.ErrLong || b.Put(0, 1) != api.ErrLong || b.Put(math.MaxUint64, 64) != api.ErrLong {
		t.Error("a bit beyond the limit")
	}
	if e := b.Put(0, 0); e != api.OK {
		t.Error("no bits fit always:", e)
	}
	if b.Len() != api.MaxBits {
		t.Error(b.Len())
	}
}

func TestPutAsksForArgumentsFirst(t *testing.T) {
	b := nearlyFull(0)
	for _, c := range []struct {
		v uint64
		n int
	}{{2, 1}, {1, 0}, {0, 65}, {0, -1}, {0, math.MaxInt}, {0, math.MinInt}} {
		if e := b.Put(c.v, c.n); e != api.ErrArg {
			t.Errorf("Put(%d, %d): %d", c.v, c.n, e)
		}
	}
}

// P2.2

func TestRowsEndAtMaxBits(t *testing.T) {
	for _, c := range []struct {
		n     uint64
		words int
		want  bool
	}{{0, 0, true}, {0, 1, false}, {1, 1, true}, {64, 1, true}, {65, 1, false}, {65, 2, true}, {64, 2, false},
		{api.MaxBits, 1 << 26, true}, {api.MaxBits - 63, 1 << 26, true}, {api.MaxBits - 64, 1 << 26, false},
		{api.MaxBits + 1, 1<<26 + 1, false}, {api.MaxBits + 1, 1 << 26, false}, {api.MaxBits, 1<<26 + 1, false},
		{math.MaxUint64, 0, false}, {math.MaxUint64 - 62, 0, false}, {math.MaxUint64, 1 << 26, false}, {1 << 63, 1 << 57, false}} {
		if x := fits(c.n, c.words); x != c.want {
			t.Errorf("%d bits in %d words: %v", c.n, c.words, x)
		}
	}
}
