package choose_test

import (
	"math"
	"testing"

	"lacework/api"
	"lacework/bits"
	"lacework/choose"
	"lacework/rank"
)

// dice tells numbers that look thrown, the same ones each time.
type dice uint64

func (d *dice) next() uint64 {
	x := uint64(*d)
	x ^= x << 13
	x ^= x >> 7
	x ^= x << 17
	*d = dice(x)
	return x
}

// thrown tells n bits of which about so many of 256 are 1.
func thrown(seed uint64, n, of256 int) []bool {
	d := dice(seed*2654435761 + 88172645463325252)
	l := make([]bool, n)
	for i := range l {
		l[i] = int(d.next()>>40&255) < of256
	}
	return l
}

// filled tells n bits that are alike.
func filled(n int, one bool) []bool {
	l := make([]bool, n)
	for i := range l {
		l[i] = one
	}
	return l
}

// joined tells the bits of all the lists, one behind the other.
func joined(lists ...[]bool) []bool {
	var all []bool
	for _, l := range lists {
		all = append(all, l...)
	}
	return all
}

// built is a row of these bits.
func built(t *testing.T, l []bool) *bits.Row {
	t.Helper()
	var b bits.Builder
	for _, one := range l {
		if e := b.Bit(one); e != api.OK {
			t.Fatal("Bit:", e)
		}
	}
	return b.Row()
}

// places tells where bits of this kind are.
func places(l []bool, kind bool) []int {
	var p []int
	for i, one := range l {
		if one == kind {
			p = append(p, i)
		}
	}
	return p
}

// lengths are about the ends of words, of samples and of blocks.
func lengths() []int {
	return []int{0, 1, 2, 7, 63, 64, 65, 127, 128, 129, 255, 256, 257, 447, 448, 449, 511, 512, 513, 514, 575, 576, 577,
		767, 768, 769, 1023, 1024, 1025, 1535, 1536, 1537, 4095, 4096, 4097, 5000}
}

// fills are shares of ones, of 256: none, few, half, many, all.
func fills() []int {
	return []int{0, 1, 3, 128, 253, 255, 256}
}

// odd are numbers that no bit of a row has ahead of it.
func odd(count int) []int {
	return []int{-1, -2, -63, -64, -255, -256, -257, -512, math.MinInt32, math.MinInt + 1, math.MinInt,
		count, count + 1, count + 63, count + 64, count + 255, count + 256, count + 257, count + 512, count + 100000,
		math.MaxInt32, math.MaxInt32 + 1, math.MaxUint32, math.MaxUint32 + 1, math.MaxInt - 1, math.MaxInt}
}

// ask holds what is told of one kind of bits against their places, looked for one by one.
func ask(t *testing.T, name string, find func(int) (int, api.Errno), want []int) {
	t.Helper()
	for k, place := range want {
		if got, e := find(k); got != place || e != api.OK {
			t.Fatalf("of %d %s(%d) is %d, %d, want %d", len(want), name, k, got, e, place)
		}
	}
	for _, k := range odd(len(want)) {
		if got, e := find(k); got != 0 || e != api.ErrRange {
			t.Fatalf("of %d %s(%d) is %d, %d, want 0, ErrRange", len(want), name, k, got, e)
		}
	}
}

// check holds all that a chooser tells against the bits.
func check(t *testing.T, c *choose.Chooser, l []bool) {
	t.Helper()
	ones := places(l, true)
	ask(t, "One", c.One, ones)
	ask(t, "Zero", c.Zero, places(l, false))
	if got := c.Ones(); got != len(ones) {
		t.Fatalf("Ones is %d, want %d", got, len(ones))
	}
	if s := c.Size(); s < 0 || s > len(l)/2+512 {
		t.Fatalf("of %d bits Size is %d, want 0 to %d", len(l), s, len(l)/2+512)
	}
}

// P4.1: the example of the chapter.
func TestChapterExample(t *testing.T) {
	c := choose.New(built(t, []bool{true, false, true, true}))
	if x, e := c.One(1); x != 2 || e != api.OK {
		t.Error("One(1) is", x, e)
	}
	if x, e := c.Zero(0); x != 1 || e != api.OK {
		t.Error("Zero(0) is", x, e)
	}
	if x, e := c.Zero(1); x != 0 || e != api.ErrRange {
		t.Error("Zero(1) is", x, e)
	}
}

// P4.1: each 1 and each 0, of rows that end about words, samples and blocks.
func TestEachBit(t *testing.T) {
	for _, n := range lengths() {
		for k, fill := range fills() {
			l := thrown(uint64(n*8+k), n, fill)
			check(t, choose.New(built(t, l)), l)
		}
	}
}

// P4.1: a k of one less than there are is the last one, a k of as many is none.
func TestLastBit(t *testing.T) {
	for _, n := range lengths() {
		for _, kind := range []bool{true, false} {
			c := choose.New(built(t, filled(n, kind)))
			find, none := c.One, c.Zero
			if !kind {
				find, none = c.Zero, c.One
			}
			if x, e := find(n - 1); n > 0 && (x != n-1 || e != api.OK) {
				t.Errorf("of %d bits that are %v the last one is at %d, %d", n, kind, x, e)
			}
			if x, e := find(n); x != 0 || e != api.ErrRange {
				t.Errorf("of %d bits that are %v one more is at %d, %d", n, kind, x, e)
			}
			if x, e := none(0); x != 0 || e != api.ErrRange {
				t.Errorf("of %d bits that are %v another one is at %d, %d", n, kind, x, e)
			}
		}
	}
}

// P4.1: a row without bits, however it was made.
func TestRowWithoutBits(t *testing.T) {
	var b bits.Builder
	empty, e := bits.Of("\x00\x00\x00\x00\x00\x00\x00\x00")
	if e != api.OK {
		t.Fatal("Of:", e)
	}
	for _, x := range []*bits.Row{b.Row(), empty, built(t, make([]bool, 700)).Clip(600, 600)} {
		c := choose.New(x)
		check(t, c, nil)
		for _, i := range []int{math.MinInt, -1, 0, 1, math.MaxInt} {
			if got := c.Rank(i); got != 0 {
				t.Errorf("Rank(%d) is %d", i, got)
			}
		}
	}
}

// P4.1: rows with just 256 bits of a kind, a multiple of them, and one more or less, among others and alone.
func TestAboutSamples(t *testing.T) {
	for _, base := range []int{256, 512, 768, 2560} {
		for _, count := range []int{base - 1, base, base + 1} {
			for _, kind := range []bool{true, false} {
				alike := filled(count, kind)
				var apart, far []bool
				for i := range count {
					apart = append(apart, kind, !kind)
					far = append(joined(far, filled(i%5*3, !kind)), kind)
				}
				for _, l := range [][]bool{alike, apart, far,
					joined(filled(1, !kind), alike), joined(alike, filled(1, !kind)),
					joined(filled(300, !kind), alike, filled(300, !kind))} {
					check(t, choose.New(built(t, l)), l)
				}
			}
		}
	}
}

// P4.1: bits of a kind that stand far from one another, so that many blocks lie between two samples.
func TestFarApart(t *testing.T) {
	for _, kind := range []bool{true, false} {
		for _, gap := range []int{63, 64, 511, 512, 513, 1000} {
			l := filled(13, !kind)
			for range 300 {
				l = append(joined(l, filled(gap-1, !kind)), kind)
			}
			check(t, choose.New(built(t, l)), l)
		}
	}
}

// P4.1: crowds with wide gaps between them, so that a sample stands on either side of a gap.
func TestCrowds(t *testing.T) {
	for _, kind := range []bool{true, false} {
		for _, crowd := range []int{1, 255, 256, 257, 511, 512, 513} {
			var l []bool
			for _, gap := range []int{0, 1, 511, 512, 513, 3000, 64, 20000} {
				l = joined(l, filled(gap, !kind), filled(crowd, kind))
			}
			check(t, choose.New(built(t, l)), l)
			l = joined(l, filled(5000, !kind))
			check(t, choose.New(built(t, l)), l)
		}
	}
}

// P4.1: a single bit of a kind, at the ends of words and blocks.
func TestLoneBit(t *testing.T) {
	const n = 1100
	for _, at := range []int{0, 1, 63, 64, 255, 256, 447, 448, 510, 511, 512, 513, 575, 576, 1023, 1024, 1098, 1099} {
		for _, kind := range []bool{true, false} {
			l := filled(n, !kind)
			l[at] = kind
			check(t, choose.New(built(t, l)), l)
		}
	}
}

// P4.1: rows that weren't put together bit by bit are looked through alike.
func TestRowsOfOtherMakes(t *testing.T) {
	l := thrown(11, 3000, 128)
	x := built(t, l)
	again, e := bits.Of(x.Bytes())
	if e != api.OK {
		t.Fatal("Of:", e)
	}
	check(t, choose.New(again), l)
	for _, ends := range [][2]int{{0, 512}, {1, 513}, {37, 549}, {37, 548}, {37, 550}, {500, 2999}, {2999, 3000}} {
		check(t, choose.New(x.Clip(ends[0], ends[1])), l[ends[0]:ends[1]])
	}
}

// P4.1: the row is left as it was.
func TestRowStaysAsItIs(t *testing.T) {
	x := built(t, thrown(4, 2000, 128))
	before := x.Bytes()
	c := choose.New(x)
	c.One(700)
	c.Zero(700)
	c.One(-1)
	if x.Bytes() != before {
		t.Error("the row has changed")
	}
}

// P4.1: Rank is layer 3's One, of odd arguments too.
func TestRankIsLayerThrees(t *testing.T) {
	for _, n := range lengths() {
		x := built(t, thrown(uint64(n), n, 100))
		c, d := choose.New(x), rank.New(x)
		for i := -600; i <= n+600; i++ {
			if c.Rank(i) != d.One(i) {
				t.Fatalf("of %d bits Rank(%d) is %d, want %d", n, i, c.Rank(i), d.One(i))
			}
		}
		for _, i := range []int{math.MinInt, math.MinInt + 1, math.MaxInt - 1, math.MaxInt} {
			if c.Rank(i) != d.One(i) {
				t.Fatalf("of %d bits Rank(%d) is %d, want %d", n, i, c.Rank(i), d.One(i))
			}
		}
	}
}

// P4.1: Size keeps to its bound, has what ranks take in it, and tells the same each time.
func TestSizeKeepsToItsBound(t *testing.T) {
	look := func(l []bool) {
		n := len(l)
		x := built(t, l)
		c := choose.New(x)
		s := c.Size()
		if s < rank.New(x).Size() || s > n/2+512 {
			t.Fatalf("of %d bits Size is %d, want %d to %d", n, s, rank.New(x).Size(), n/2+512)
		}
		c.One(n / 3)
		c.Zero(n / 3)
		if c.Size() != s {
			t.Fatalf("of %d bits Size was %d, and is %d", n, s, c.Size())
		}
	}
	for n := range 1100 {
		look(thrown(uint64(n), n, 128))
	}
	for _, n := range append(lengths(), 1<<16-1, 1<<16, 1<<16+1, 100003) {
		for _, fill := range fills() {
			look(thrown(uint64(n), n, fill))
		}
		// As many samples as may be: each kind has one more than are full.
		for ones := range min(n, 3) {
			look(joined(filled(ones, true), filled(n-ones, false)))
			look(joined(filled(ones, false), filled(n-ones, true)))
		}
	}
}

// P4.1: what is known of each 256th bit is in Size, beside the ranks.
func TestSizeHasWhatIsKnown(t *testing.T) {
	for _, fill := range fills() {
		x := built(t, thrown(9, 1<<14, fill))
		if own := choose.New(x).Size() - rank.New(x).Size(); own <= 0 {
			t.Errorf("of %d in 256 the samples take %d bits", fill, own)
		}
	}
	small, great := choose.New(built(t, make([]bool, 256))), choose.New(built(t, make([]bool, 511)))
	more := choose.New(built(t, make([]bool, 257)))
	if small.Size() >= more.Size() || more.Size() != great.Size() {
		t.Error("Sizes of 256, 257 and 511 bits are", small.Size(), more.Size(), great.Size())
	}
}

// P4.2: what is found is of its kind, has the rank by which it was asked, and places rise.
func TestWhatFollows(t *testing.T) {
	for _, n := range lengths() {
		for _, fill := range fills() {
			x := built(t, thrown(uint64(n)+17, n, fill))
			c := choose.New(x)
			last := -1
			for k := range c.Ones() {
				p, e := c.One(k)
				if e != api.OK || p <= last || !x.Get(p) || c.Rank(p) != k || c.Rank(p+1) != k+1 {
					t.Fatalf("of %d bits One(%d) is %d, %d, of rank %d, behind %d", n, k, p, e, c.Rank(p), last)
				}
				last = p
			}
			last = -1
			for k := range n - c.Ones() {
				p, e := c.Zero(k)
				if e != api.OK || p <= last || p >= n || x.Get(p) || p-c.Rank(p) != k || p+1-c.Rank(p+1) != k+1 {
					t.Fatalf("of %d bits Zero(%d) is %d, %d, of rank %d, behind %d", n, k, p, e, p-c.Rank(p), last)
				}
				last = p
			}
		}
	}
}

// P4.2: each place of a row is found by its own rank, in a great row as well.
func TestGreatRow(t *testing.T) {
	const count = 1 << 14
	var b bits.Builder
	d := dice(77)
	for i := range count {
		w := d.next()
		// Stretches that are full, empty and thrown, in turn.
		switch i / 1000 % 3 {
		case 0:
			w = 0
		case 1:
			w = math.MaxUint64
		}
		if e := b.Put(w, 64); e != api.OK {
			t.Fatal("Put:", e)
		}
	}
	x := b.Row()
	c := choose.New(x)
	ones := 0
	for i := range x.Len() {
		find, k := c.Zero, i-ones
		if x.Get(i) {
			find, k = c.One, ones
			ones++
		}
		if p, e := find(k); p != i || e != api.OK {
			t.Fatalf("the bit %d (%v) with %d ahead is found at %d, %d", i, x.Get(i), k, p, e)
		}
	}
	if s := c.Size(); c.Ones() != ones || s > x.Len()/2+512 {
		t.Error("the end:", c.Ones(), s)
	}
}

// R7: choosers do not hang on one another, nor on the builder of their row.
func TestChoosersAreApart(t *testing.T) {
	l := thrown(21, 900, 128)
	var b bits.Builder
	for _, one := range l[:600] {
		b.Bit(one)
	}
	x := b.Row()
	first := choose.New(x)
	for _, one := range l[600:] {
		b.Bit(one)
	}
	second, same := choose.New(b.Row()), choose.New(x)
	check(t, second, l)
	check(t, first, l[:600])
	check(t, same, l[:600])
}
