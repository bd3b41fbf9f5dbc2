package choose

import (
	"testing"

	"lacework/bits"
)

// P4.1: the block of each bit is the very one, so that a bit is never looked for beyond 512 others.
func TestBlockOfEachBit(t *testing.T) {
	for _, gap := range []int{1, 2, 3, 64, 500, 512, 513, 3000} {
		var b bits.Builder
		for i := range gap * 530 {
			b.Bit(i%gap == gap-1)
		}
		x := b.Row()
		c := New(x)
		ones := 0
		for i := range x.Len() {
			var got int
			if x.Get(i) {
				got = c.block(ones, c.ones, c.dir.One)
				ones++
			} else {
				got = c.block(i-ones, c.zeros, c.dir.Zero)
			}
			if got != i/span {
				t.Fatalf("with gaps of %d the bit %d is in the block %d, want %d", gap, i, got, i/span)
			}
		}
	}
}

// P4.1: between two samples no other blocks are asked than those of their bits.
func TestBlocksBetweenSamples(t *testing.T) {
	var b bits.Builder
	for i := range 300 * 512 {
		b.Bit(i%100 == 0)
	}
	c := New(b.Row())
	for _, known := range [][]sample{c.ones, c.zeros} {
		for i := range known {
			want := [2]int{int(known[i]) / span, 299}
			if i+1 < len(known) {
				want[1] = int(known[i+1]) / span
			}
			if first, last := c.between(known, i); [2]int{first, last} != want {
				t.Fatalf("behind the sample %d of %d the blocks are %d to %d, want %v", i, len(known), first, last, want)
			}
		}
	}
}
