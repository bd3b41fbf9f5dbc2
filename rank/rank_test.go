package rank_test

import (
	"math"
	"testing"

	"lacework/api"
	"lacework/bits"
	"lacework/rank"
)

// dice tells numbers that look thrown, the same ones each time.
type dice uint64

func (d *dice) next() uint64 {
	x := uint64(*d)
	x ^= x << 13
	x ^= x >> 7
	x ^= x << 17
	*d = dice(x)
	return x
}

// thrown tells n bits of which about so many of 256 are 1.
func thrown(seed uint64, n, of256 int) []bool {
	d := dice(seed*2654435761 + 88172645463325252)
	l := make([]bool, n)
	for i := range l {
		l[i] = int(d.next()>>40&255) < of256
	}
	return l
}

// built is a row of these bits.
func built(t *testing.T, l []bool) *bits.Row {
	t.Helper()
	var b bits.Builder
	for _, one := range l {
		if e := b.Bit(one); e != api.OK {
			t.Fatal("Bit:", e)
		}
	}
	return b.Row()
}

// counts tells how many bits are 1 ahead of each place from 0 to len(l).
func counts(l []bool) []int {
	c := make([]int, 1, len(l)+1)
	for i, one := range l {
		c = append(c, c[i])
		if one {
			c[i+1]++
		}
	}
	return c
}

// lengths are about the ends of words and of blocks.
func lengths() []int {
	return []int{0, 1, 2, 7, 63, 64, 65, 127, 128, 129, 447, 448, 449, 511, 512, 513, 575, 576, 577,
		1023, 1024, 1025, 1535, 1536, 1537, 4095, 4096, 4097, 5000}
}

// fills are shares of ones, of 256: none, few, half, many, all.
func fills() []int {
	return []int{0, 3, 128, 253, 256}
}

// check holds each rank of d, and beyond its ends, against the bits counted one by one.
func check(t *testing.T, d *rank.Dir, l []bool) {
	t.Helper()
	c := counts(l)
	for i, want := range c {
		if got := d.One(i); got != want {
			t.Fatalf("of %d bits One(%d) is %d, want %d", len(l), i, got, want)
		}
		if got := d.Zero(i); got != i-want {
			t.Fatalf("of %d bits Zero(%d) is %d, want %d", len(l), i, got, i-want)
		}
	}
	ones := c[len(l)]
	for _, i := range []int{-1, -2, -63, -64, -65, -511, -512, -513, math.MinInt32, math.MinInt + 1, math.MinInt} {
		if one, zero := d.One(i), d.Zero(i); one != 0 || zero != 0 {
			t.Fatalf("of %d bits the ranks of %d are %d and %d, want 0", len(l), i, one, zero)
		}
	}
	for _, more := range []int{1, 2, 63, 64, 65, 511, 512, 513, 100000, math.MaxInt - 1 - len(l), math.MaxInt - len(l)} {
		i := len(l) + more
		if one, zero := d.One(i), d.Zero(i); one != ones || zero != len(l)-ones {
			t.Fatalf("of %d bits the ranks of %d are %d and %d, want %d and %d", len(l), i, one, zero, ones, len(l)-ones)
		}
	}
}

// P3.1: the example of the chapter.
func TestChapterExample(t *testing.T) {
	d := rank.New(built(t, []bool{true, false, true, true}))
	if got := [3]int{d.One(3), d.Zero(3), d.One(9)}; got != [3]int{2, 1, 3} {
		t.Error("One(3), Zero(3), One(9) are", got)
	}
}

// P3.1: ranks of every place, of rows that end about words and blocks.
func TestRanksOfEachPlace(t *testing.T) {
	for _, n := range lengths() {
		for k, fill := range fills() {
			l := thrown(uint64(n*8+k), n, fill)
			check(t, rank.New(built(t, l)), l)
		}
	}
}

// P3.1: a single 1, or a single 0, is counted behind its place alone.
func TestLoneBits(t *testing.T) {
	const n = 1100
	for _, at := range []int{0, 1, 63, 64, 447, 448, 510, 511, 512, 513, 575, 576, 1023, 1024, 1098, 1099} {
		for _, one := range []bool{true, false} {
			l := make([]bool, n)
			for i := range l {
				l[i] = (i == at) == one
			}
			check(t, rank.New(built(t, l)), l)
		}
	}
}

// P3.1: a row without bits.
func TestRowWithoutBits(t *testing.T) {
	var b bits.Builder
	empty, e := bits.Of("\x00\x00\x00\x00\x00\x00\x00\x00")
	if e != api.OK {
		t.Fatal("Of:", e)
	}
	for _, x := range []*bits.Row{b.Row(), empty, built(t, make([]bool, 700)).Clip(600, 600)} {
		d := rank.New(x)
		check(t, d, nil)
		if d.Row().Len() != 0 {
			t.Error("a row of", d.Row().Len())
		}
	}
}

// P3.1: rows that weren't put together bit by bit are counted alike.
func TestRowsOfOtherMakes(t *testing.T) {
	l := thrown(11, 3000, 128)
	x := built(t, l)
	again, e := bits.Of(x.Bytes())
	if e != api.OK {
		t.Fatal("Of:", e)
	}
	check(t, rank.New(again), l)
	for _, ends := range [][2]int{{0, 512}, {1, 513}, {37, 549}, {37, 548}, {37, 550}, {500, 2999}, {2999, 3000}} {
		check(t, rank.New(x.Clip(ends[0], ends[1])), l[ends[0]:ends[1]])
	}
}

// P3.1: Row is the row that was given, left as it was.
func TestRowIsTheRow(t *testing.T) {
	for _, n := range lengths() {
		x := built(t, thrown(uint64(n), n, 128))
		before := x.Bytes()
		d := rank.New(x)
		d.One(n / 2)
		d.Zero(n / 2)
		if d.Row() != x {
			t.Errorf("of %d bits Row is another one", n)
		}
		if x.Bytes() != before {
			t.Errorf("the row of %d bits has changed", n)
		}
	}
}

// P3.1: Size keeps to its bound, whatever the bits are, and tells the same each time.
func TestSizeKeepsToItsBound(t *testing.T) {
	look := func(n, fill int) {
		d := rank.New(built(t, thrown(uint64(n), n, fill)))
		s := d.Size()
		if s < 0 || s > n/4+256 {
			t.Fatalf("of %d bits Size is %d, want 0 to %d", n, s, n/4+256)
		}
		d.One(n)
		if d.Size() != s {
			t.Fatalf("of %d bits Size was %d, and is %d", n, s, d.Size())
		}
	}
	for n := range 1100 {
		look(n, 128)
	}
	for _, n := range append(lengths(), 1<<16-1, 1<<16, 1<<16+1, 100003) {
		for _, fill := range fills() {
			look(n, fill)
		}
	}
}

// P3.1: Size tells of what is known of each 512 bits, so that it is greater where there are more of them.
func TestSizeGrowsWithTheRow(t *testing.T) {
	small, great := rank.New(built(t, make([]bool, 512))), rank.New(built(t, make([]bool, 1<<16)))
	if small.Size() >= great.Size() {
		t.Error("Sizes of 512 and 65536 bits are", small.Size(), great.Size())
	}
}

// P3.1: a great row, where counts take more than 16 bits.
func TestGreatRow(t *testing.T) {
	const count = 1 << 15
	var b bits.Builder
	d := dice(77)
	words := make([]uint64, count)
	for i := range words {
		words[i] = d.next() | d.next()
		if e := b.Put(words[i], 64); e != api.OK {
			t.Fatal("Put:", e)
		}
	}
	r := rank.New(b.Row())
	ones, at := 0, 0
	for _, w := range words {
		for k := range 64 {
			if r.One(at) != ones || r.Zero(at) != at-ones {
				t.Fatalf("the ranks of %d are %d and %d, want %d and %d", at, r.One(at), r.Zero(at), ones, at-ones)
			}
			ones += int(w >> k & 1)
			at++
		}
	}
	if r.One(at) != ones || r.One(math.MaxInt) != ones || r.Size() > at/4+256 {
		t.Error("the end:", r.One(at), r.One(math.MaxInt), r.Size())
	}
}

// P3.2: both ranks of a place make the place, of odd arguments the nearest one.
func TestRanksMakeThePlace(t *testing.T) {
	for _, n := range lengths() {
		d := rank.New(built(t, thrown(uint64(n)+3, n, 90)))
		for i := -600; i <= n+600; i++ {
			if sum := d.One(i) + d.Zero(i); sum != min(max(i, 0), n) {
				t.Fatalf("of %d bits the ranks of %d make %d", n, i, sum)
			}
		}
		for _, i := range []int{math.MinInt, math.MaxInt} {
			if sum := d.One(i) + d.Zero(i); sum != min(max(i, 0), n) {
				t.Fatalf("of %d bits the ranks of %d make %d", n, i, sum)
			}
		}
	}
}

// P3.2: a rank goes up by the bits that stand between.
func TestRanksGoUpByTheBitsBetween(t *testing.T) {
	const n = 2100
	x := built(t, thrown(5, n, 128))
	d := rank.New(x)
	for i := range n {
		one, zero := d.One(i+1)-d.One(i), d.Zero(i+1)-d.Zero(i)
		if (one == 1) != x.Get(i) || one+zero != 1 || one < 0 || zero < 0 {
			t.Fatalf("over the bit %d (%v) the ranks go up by %d and %d", i, x.Get(i), one, zero)
		}
	}
	for from := 0; from <= n; from += 97 {
		for to := from; to <= n; to += 61 {
			want := 0
			for i := from; i < to; i++ {
				if x.Get(i) {
					want++
				}
			}
			if one, zero := d.One(to)-d.One(from), d.Zero(to)-d.Zero(from); one != want || zero != to-from-want {
				t.Fatalf("from %d to %d the ranks go up by %d and %d, want %d and %d", from, to, one, zero, want, to-from-want)
			}
		}
	}
}

// R7: directories do not hang on one another, nor on the builder of their row.
func TestDirectoriesAreApart(t *testing.T) {
	l := thrown(21, 900, 128)
	var b bits.Builder
	for _, one := range l[:600] {
		b.Bit(one)
	}
	first := rank.New(b.Row())
	for _, one := range l[600:] {
		b.Bit(one)
	}
	second := rank.New(b.Row())
	same := rank.New(first.Row())
	check(t, second, l)
	check(t, first, l[:600])
	check(t, same, l[:600])
}
