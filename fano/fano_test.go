package fano_test

import (
	"math"
	"slices"
	"strings"
	"testing"

	"lacework/api"
	"lacework/bits"
	"lacework/fano"
)

const (
	maxBound = 1 << 40
	maxCount = 1<<24 - 1
)

// dice tells numbers that look thrown, the same ones each time.
type dice uint64

func (d *dice) next() uint64 {
	x := uint64(*d)
	x ^= x << 13
	x ^= x >> 7
	x ^= x << 17
	*d = dice(x)
	return x
}

// thrown tells n numbers below the bound that rise.
func thrown(seed uint64, n, bound int) []int {
	d := dice(seed*2654435761 + 88172645463325252)
	l := make([]int, n)
	for i := range l {
		l[i] = int(d.next() % uint64(bound))
	}
	slices.Sort(l)
	return l
}

// alike tells n times the same number.
func alike(n, x int) []int {
	return slices.Repeat([]int{x}, n)
}

// made is the sequence of these numbers.
func made(t *testing.T, l []int, bound int) *fano.Seq {
	t.Helper()
	s, e := fano.Make(l, bound)
	if e != api.OK {
		t.Fatalf("Make of %d numbers below %d: %d", len(l), bound, e)
	}
	return s
}

// widthOf tells a width by the chapter's words.
func widthOf(n, bound int) int {
	if n == 0 || bound < 2*n {
		return 0
	}
	w := 0
	for bound/n>>(w+1) > 0 {
		w++
	}
	return w
}

// digits tells the n bits of v, the bit 0 first, as signs.
func digits(v, n int) string {
	var b strings.Builder
	for i := range n {
		b.WriteByte('0' + byte(v>>i&1))
	}
	return b.String()
}

// lowOf and highOf write the rows as signs, by the chapter's words.
func lowOf(l []int, bound int) string {
	w := widthOf(len(l), bound)
	var b strings.Builder
	for _, x := range l {
		b.WriteString(digits(x, w))
	}
	return b.String()
}

func highOf(l []int, bound int) string {
	w := widthOf(len(l), bound)
	var b strings.Builder
	last := 0
	for _, x := range l {
		b.WriteString(strings.Repeat("0", x>>w-last))
		b.WriteByte('1')
		last = x >> w
	}
	all := len(l) + (bound-1)>>w + 1
	return b.String() + strings.Repeat("0", all-b.Len())
}

// headOf writes as signs what stands ahead of the rows.
func headOf(n, bound int) string {
	return digits(n, 24) + digits(bound, 41)
}

// packed tells the bytes of the row with these signs, by layer 2's words.
func packed(signs string) string {
	b := make([]byte, 8+(len(signs)+63)/64*8)
	for i := range 8 {
		b[i] = byte(len(signs) >> (8 * i))
	}
	for i := range len(signs) {
		b[8+i/8] |= (signs[i] - '0') << (i % 8)
	}
	return string(b)
}

// bytesOf tells a sequence's bytes by the chapter's words.
func bytesOf(l []int, bound int) string {
	return packed(headOf(len(l), bound) + lowOf(l, bound) + highOf(l, bound))
}

// refused holds that s is no sequence's bytes.
func refused(t *testing.T, what, s string) {
	t.Helper()
	if q, e := fano.Of(s); q != nil || e != api.ErrForm {
		t.Errorf("%s: Of is %v, %d, want nil, ErrForm", what, q, e)
	}
}

// sample is numbers with their bound.
type sample struct {
	l     []int
	bound int
}

// samples are ordinary ones, and such as stand at the edges.
func samples() []sample {
	l := []sample{
		{nil, 1}, {nil, 2}, {nil, 64}, {nil, 1000},
		{[]int{0}, 1}, {[]int{0}, 2}, {[]int{1}, 2}, {[]int{0}, 3}, {[]int{2}, 3},
		{[]int{0}, maxBound}, {[]int{maxBound - 1}, maxBound}, {[]int{1 << 39}, maxBound - 1}, {[]int{0, maxBound - 1}, maxBound},
		{alike(5, 0), 1}, {alike(700, 0), 1}, {alike(700, 0), 2}, {alike(700, 1), 2},
		{alike(1000, 123456789), maxBound}, {alike(1000, maxBound-1), maxBound}, {alike(1000, 0), maxBound},
		{[]int{1, 4, 4, 9}, 10}, {[]int{1, 4, 4, 9}, 1 << 20},
		// One high part that is crowded, and others about it.
		{slices.Concat(alike(40, 64), alike(40, 65), alike(40, 127), []int{128, 5000}), 10000},
		{slices.Concat([]int{3, 63}, alike(17, 64), alike(1, 100), alike(16, 127), alike(15, 128)), 5000},
	}
	for _, n := range []int{1, 2, 3, 4, 5, 7, 8, 15, 16, 17, 63, 64, 65, 255, 256, 257, 600, 1500} {
		for _, bound := range []int{n, n + 1, 2*n - 1, 2 * n, 2*n + 1, 3 * n, 4*n - 1, 4 * n, 4*n + 1, 64 * n, 100003 * n, maxBound} {
			l = append(l, sample{thrown(uint64(n*bound), n, bound), bound}, sample{thrown(uint64(n), n, (bound+7)/8), bound})
		}
	}
	return l
}

// about tells numbers that are about those of a sequence and about its bound, and odd ones.
func about(l []int, bound int) []int {
	xs := []int{math.MinInt, math.MinInt + 1, math.MinInt32, -maxBound, -2, -1, 0, 1, 2, bound / 2, bound - 2, bound - 1, bound, bound + 1,
		2 * bound, maxBound - 1, maxBound, maxBound + 1, math.MaxUint32, math.MaxInt - 1, math.MaxInt}
	for i, x := range l {
		// Of many alike one will do.
		if i == 0 || x != l[i-1] {
			xs = append(xs, x-1, x, x+1)
		}
	}
	return xs
}

// askNumbers holds Len, Bound, Get against the list.
func askNumbers(t *testing.T, s *fano.Seq, l []int, bound int) {
	t.Helper()
	if s.Len() != len(l) || s.Bound() != bound {
		t.Fatalf("Len, Bound are %d, %d, want %d, %d", s.Len(), s.Bound(), len(l), bound)
	}
	for i, want := range l {
		if x, e := s.Get(i); x != want || e != api.OK {
			t.Fatalf("of %d below %d Get(%d) is %d, %d, want %d", len(l), bound, i, x, e, want)
		}
	}
	n := len(l)
	for _, i := range []int{-1, -2, -64, math.MinInt32, math.MinInt, n, n + 1, n + 64, n + 100000, maxCount + n, math.MaxInt32, math.MaxInt} {
		if x, e := s.Get(i); x != 0 || e != api.ErrRange {
			t.Fatalf("of %d below %d Get(%d) is %d, %d, want 0, ErrRange", n, bound, i, x, e)
		}
	}
}

// askPlaces holds Less, Next, Prev and Has of x against the list.
func askPlaces(t *testing.T, s *fano.Seq, l []int, x int) {
	t.Helper()
	less, found := slices.BinarySearch(l, x)
	next, prev, hasNext, hasPrev := 0, 0, less < len(l), false
	if hasNext {
		next = l[less]
	}
	if found {
		prev, hasPrev = x, true
	} else if less > 0 {
		prev, hasPrev = l[less-1], true
	}
	if got := s.Less(x); got != less {
		t.Fatalf("of %d below %d Less(%d) is %d, want %d", len(l), s.Bound(), x, got, less)
	}
	if got, ok := s.Next(x); got != next || ok != hasNext {
		t.Fatalf("of %d below %d Next(%d) is %d, %v, want %d, %v", len(l), s.Bound(), x, got, ok, next, hasNext)
	}
	if got, ok := s.Prev(x); got != prev || ok != hasPrev {
		t.Fatalf("of %d below %d Prev(%d) is %d, %v, want %d, %v", len(l), s.Bound(), x, got, ok, prev, hasPrev)
	}
	if got := s.Has(x); got != found {
		t.Fatalf("of %d below %d Has(%d) is %v", len(l), s.Bound(), x, got)
	}
}

// check holds all that a sequence tells of its numbers against the list.
func check(t *testing.T, s *fano.Seq, l []int, bound int) {
	t.Helper()
	askNumbers(t, s, l, bound)
	for _, x := range about(l, bound) {
		askPlaces(t, s, l, x)
	}
}

// P5.1: numbers at their places, and places of numbers.
func TestNumbers(t *testing.T) {
	for _, c := range samples() {
		check(t, made(t, c.l, c.bound), c.l, c.bound)
	}
}

// P5.1: every small sequence, asked for every number about its bound.
func TestEverySmallSequence(t *testing.T) {
	for bound := 1; bound <= 9; bound++ {
		for n := range 5 {
			for l := range risingLists(n, bound) {
				s := made(t, l, bound)
				askNumbers(t, s, l, bound)
				for x := -3; x <= bound+3; x++ {
					askPlaces(t, s, l, x)
				}
			}
		}
	}
}

// risingLists goes through all lists of n numbers below the bound that rise.
func risingLists(n, bound int) func(func([]int) bool) {
	return func(yield func([]int) bool) {
		l := make([]int, n)
		for {
			if !yield(slices.Clone(l)) {
				return
			}
			i := n - 1
			for i >= 0 && l[i] == bound-1 {
				i--
			}
			if i < 0 {
				return
			}
			up := l[i] + 1
			for ; i < n; i++ {
				l[i] = up
			}
		}
	}
}

// P5.1: what is no sequence.
func TestWrongNumbers(t *testing.T) {
	for _, c := range []sample{
		{nil, 0}, {nil, -1}, {nil, math.MinInt}, {nil, maxBound + 1}, {nil, math.MaxInt},
		{[]int{0}, 0}, {[]int{0}, -1}, {[]int{-1}, 0}, {[]int{0}, maxBound + 1}, {[]int{0}, math.MaxInt}, {[]int{0}, math.MinInt},
		{[]int{-1}, 1}, {[]int{-1}, 10}, {[]int{math.MinInt}, 10}, {[]int{-1, 0}, 10}, {[]int{0, -1}, 10}, {[]int{-2, -1}, 10},
		{[]int{1}, 1}, {[]int{10}, 10}, {[]int{11}, 10}, {[]int{0, 10}, 10}, {[]int{10, 10}, 10}, {[]int{math.MaxInt}, 10},
		{[]int{maxBound}, maxBound}, {[]int{0, maxBound}, maxBound}, {[]int{maxBound - 1}, maxBound - 1},
		{[]int{2, 1}, 10}, {[]int{1, 0}, 10}, {[]int{9, 8}, 10}, {[]int{1, 2, 2, 1}, 10}, {[]int{5, 5, 4, 9}, 10}, {[]int{1, 9, 0}, 10},
		{append(thrown(1, 1000, 1000), 0), 1001}, {append(alike(1000, 7), 6), 10},
	} {
		if s, e := fano.Make(c.l, c.bound); s != nil || e != api.ErrArg {
			t.Errorf("Make of %d numbers below %d is %v, %d, want nil, ErrArg", len(c.l), c.bound, s, e)
		}
	}
}

// P5.1: the edges of what is a sequence, each of which is one.
func TestNumbersAtTheirEdges(t *testing.T) {
	for _, c := range []sample{
		{nil, 1}, {[]int{}, 1}, {nil, maxBound}, {[]int{0}, 1}, {[]int{9}, 10}, {[]int{0, 9}, 10}, {alike(50, 0), 1},
		{[]int{maxBound - 1}, maxBound}, {[]int{0, 0, maxBound - 1, maxBound - 1}, maxBound}, {[]int{3, 3, 4}, 10},
	} {
		check(t, made(t, c.l, c.bound), c.l, c.bound)
	}
}

// P5.1, P5.2: as many numbers as may be, and one more.
func TestAsManyAsMayBe(t *testing.T) {
	l := make([]int, maxCount+1)
	for i := range l {
		l[i] = i * 65521
	}
	if s, e := fano.Make(l, maxBound); s != nil || e != api.ErrArg {
		t.Errorf("one more: %v, %d, want nil, ErrArg", s, e)
	}
	l = l[:maxCount]
	s := made(t, l, maxBound)
	again, e := fano.Of(s.Bytes())
	if e != api.OK {
		t.Fatal("Of:", e)
	}
	// u / n, rounded down, is 65536, of which the last 1 is at 16.
	if want := maxCount*16 + maxCount + (maxBound-1)>>16 + 1; s.Size() != want {
		t.Errorf("Size is %d, want %d", s.Size(), want)
	}
	for _, q := range []*fano.Seq{s, again} {
		if q.Len() != maxCount || q.Bound() != maxBound {
			t.Fatal("Len, Bound are", q.Len(), q.Bound())
		}
		for i := 0; i < maxCount; i += 99991 {
			if x, e := q.Get(i); x != l[i] || e != api.OK {
				t.Fatalf("Get(%d) is %d, %d, want %d", i, x, e, l[i])
			}
			for _, x := range []int{l[i] - 1, l[i], l[i] + 1} {
				askPlaces(t, q, l, x)
			}
		}
		if x, e := q.Get(maxCount - 1); x != l[maxCount-1] || e != api.OK {
			t.Error("the last one is", x, e)
		}
		if x, e := q.Get(maxCount); x != 0 || e != api.ErrRange {
			t.Error("one more is", x, e)
		}
		askPlaces(t, q, l, math.MaxInt)
	}
}

// P5.1: many numbers of one high part are told of as often as few are, in time.
func TestCrowdOfOneHighPart(t *testing.T) {
	l := make([]int, 1<<20)
	for i := range l {
		l[i] = 1<<30 + i/16
	}
	s := made(t, l, maxBound)
	for x := 1<<30 - 2; x < 1<<30+1<<16+2; x++ {
		askPlaces(t, s, l, x)
	}
}

// P5.1, P5.2: without numbers the bound alone is told, however great it is.
func TestNoNumbers(t *testing.T) {
	for _, bound := range []int{1, 2, 63, 64, 65, 1000, 1 << 20, api.MaxBits - 65, api.MaxBits - 64, api.MaxBits, api.MaxBits + 1, maxBound - 1, maxBound} {
		s := made(t, nil, bound)
		check(t, s, nil, bound)
		// The width is 0, and the high row has u 0s.
		if s.Size() != bound {
			t.Errorf("below %d Size is %d", bound, s.Size())
		}
		if o := s.Over(); o < 0 || o > 3*bound/2+1024 {
			t.Errorf("below %d Over is %d", bound, o)
		}
	}
}

// P5.2: of no numbers below so great a bound no row has all the bits, and there are no bytes.
func TestNoRowHasSoManyBits(t *testing.T) {
	for _, bound := range []int{api.MaxBits - 64, api.MaxBits, 1 << 39, maxBound} {
		if b := made(t, nil, bound).Bytes(); b != "" {
			t.Errorf("below %d there are %d bytes", bound, len(b))
		}
	}
}

// P5.1, P5.2: the example of the chapter.
func TestChapterExample(t *testing.T) {
	l := []int{1, 4, 4, 9}
	s := made(t, l, 10)
	check(t, s, l, 10)
	want := packed(headOf(4, 10) + "1001" + "100110010")
	if got := s.Bytes(); got != want {
		t.Errorf("Bytes are %x, want %x", got, want)
	}
	if s.Size() != 4+9 {
		t.Error("Size is", s.Size())
	}
}

// P5.2: a width changes at a bound of twice as many as there are numbers, and at powers of 2 times that.
func TestWidthAtItsEdges(t *testing.T) {
	for _, c := range []struct{ n, bound, width int }{
		{1, 1, 0}, {1, 2, 1}, {1, 3, 1}, {1, 4, 2}, {1, maxBound - 1, 39}, {1, maxBound, 40},
		{5, 9, 0}, {5, 10, 1}, {5, 11, 1}, {5, 19, 1}, {5, 20, 2}, {5, 39, 2}, {5, 40, 3},
		{1000, 1, 0}, {1000, 999, 0}, {1000, 1000, 0}, {1000, 1999, 0}, {1000, 2000, 1}, {1000, 3999, 1}, {1000, 4000, 2},
		{0, 1, 0}, {0, 100, 0},
	} {
		l := thrown(uint64(c.n), c.n, c.bound)
		s := made(t, l, c.bound)
		if want := c.n*c.width + c.n + (c.bound-1)>>c.width + 1; s.Size() != want {
			t.Errorf("of %d below %d Size is %d, want %d", c.n, c.bound, s.Size(), want)
		}
		if s.Bytes() != bytesOf(l, c.bound) {
			t.Errorf("of %d below %d the bytes are others", c.n, c.bound)
		}
		check(t, s, l, c.bound)
	}
}

// P5.2: bytes, sizes, and the sequence that comes again.
func TestBytesAndSizes(t *testing.T) {
	for _, c := range samples() {
		s := made(t, c.l, c.bound)
		high := len(highOf(c.l, c.bound))
		if got := s.Size(); got != len(lowOf(c.l, c.bound))+high {
			t.Fatalf("of %d below %d Size is %d", len(c.l), c.bound, got)
		}
		if o := s.Over(); o < 0 || o > 3*high/2+1024 {
			t.Fatalf("of %d below %d Over is %d, of a high row of %d", len(c.l), c.bound, o, high)
		}
		b := s.Bytes()
		if b != bytesOf(c.l, c.bound) {
			t.Fatalf("of %d below %d Bytes are %x, want %x", len(c.l), c.bound, b, bytesOf(c.l, c.bound))
		}
		again, e := fano.Of(b)
		if e != api.OK {
			t.Fatalf("of %d below %d Of: %d", len(c.l), c.bound, e)
		}
		check(t, again, c.l, c.bound)
		if again.Bytes() != b || again.Size() != s.Size() || again.Over() != s.Over() {
			t.Fatalf("of %d below %d another one comes again", len(c.l), c.bound)
		}
	}
}

// P5.2: of all bits that may stand behind a head, just those are taken that some sequence has.
func TestEveryRowBehindAHead(t *testing.T) {
	for bound := 1; bound <= 7; bound++ {
		for n := range 4 {
			known := map[string][]int{}
			for l := range risingLists(n, bound) {
				known[bytesOf(l, bound)] = l
			}
			size := len(lowOf(make([]int, n), bound)) + len(highOf(make([]int, n), bound))
			for _, length := range []int{size - 1, size, size + 1} {
				for v := range 1 << length {
					b := packed(headOf(n, bound) + digits(v, length))
					l, ok := known[b]
					if !ok {
						refused(t, "behind a head", b)
						continue
					}
					s, e := fano.Of(b)
					if e != api.OK {
						t.Fatalf("of %v below %d Of: %d", l, bound, e)
					}
					askNumbers(t, s, l, bound)
					delete(known, b)
				}
			}
			if len(known) > 0 {
				t.Errorf("of %d below %d some weren't met: %v", n, bound, known)
			}
		}
	}
}

// P5.2: with any one bit turned, there is an error or another sequence, whose bytes just these are.
func TestTurnedBits(t *testing.T) {
	for _, c := range samples() {
		if len(c.l) > 65 {
			continue
		}
		whole := bytesOf(c.l, c.bound)
		for i := range 8 * len(whole) {
			b := []byte(whole)
			b[i/8] ^= 1 << (i % 8)
			s, e := fano.Of(string(b))
			if e == api.ErrForm && s == nil {
				continue
			}
			if e != api.OK || s.Bytes() != string(b) {
				t.Fatalf("of %v below %d with the bit %d turned: %d", c.l, c.bound, i, e)
			}
		}
	}
}

// P5.2: strings that are cut, longer, or no row's.
func TestCutAndLonger(t *testing.T) {
	for _, c := range []sample{{nil, 1}, {nil, 64}, {nil, 63}, {[]int{1, 4, 4, 9}, 10}, {thrown(3, 100, 5000), 5000}} {
		b := bytesOf(c.l, c.bound)
		for i := range len(b) {
			refused(t, "cut at its end", b[:i])
			refused(t, "cut at its beginning", b[i+1:])
		}
		for _, more := range []string{"\x00", "\x01", strings.Repeat("\x00", 7), strings.Repeat("\x00", 8), strings.Repeat("\xff", 8), b} {
			refused(t, "longer", b+more)
			refused(t, "longer ahead", more+b)
		}
	}
	for _, s := range []string{"", "1", "lacework", strings.Repeat("\x00", 8), strings.Repeat("\x00", 16), strings.Repeat("\xff", 8), strings.Repeat("\xff", 24)} {
		refused(t, "another string", s)
	}
}

// P5.2: rows whose beginning is no sequence's.
func TestWrongHeads(t *testing.T) {
	rows := lowOf([]int{1, 4, 4, 9}, 10) + highOf([]int{1, 4, 4, 9}, 10)
	refused(t, "no head", packed(""))
	for i := range 65 {
		refused(t, "a head that is cut", packed(headOf(0, 1)[:i]))
	}
	refused(t, "a head without its rows", packed(headOf(0, 1)))
	for _, c := range []struct {
		what     string
		n, bound int
	}{{"a number more", 5, 10}, {"a number less", 3, 10}, {"a bound that asks for more", 4, 12}, {"for less", 4, 8}, {"no numbers", 0, 10}, {"a bound of 0", 4, 0},
		{"a bound beyond all", 4, maxBound + 1}, {"the greatest bound", 4, 1<<41 - 1}, {"many numbers", maxCount, 10}, {"many below a great bound", maxCount, maxBound}} {
		refused(t, c.what, packed(headOf(c.n, c.bound)+rows))
	}
	for _, length := range []int{0, 1, 2, 64} {
		refused(t, "no numbers below 0", packed(headOf(0, 0)+strings.Repeat("0", length)))
	}
	// As one more than 2^40 the rows would have just this form.
	refused(t, "one number below one more than 2^40", packed(headOf(1, maxBound+1)+strings.Repeat("0", 40)+"100"))
}

// P5.2: rows of the right length with wrong numbers in them.
func TestWrongRows(t *testing.T) {
	for _, c := range []struct{ what, s string }{
		{"the example", headOf(4, 10) + "1001" + "100110010"},
		{"a 1 more", headOf(4, 10) + "1001" + "100110011"},
		{"a 1 less", headOf(4, 10) + "1001" + "100110000"},
		{"alike high parts, a lesser low one behind", headOf(4, 10) + "1001" + "110010010"},
		{"a high part beyond the bound", headOf(4, 10) + "1000" + "100110001"},
		{"a number of just the bound", headOf(4, 9) + "1001" + "100110010"},
		{"a 1 below no numbers", headOf(0, 9) + "000000001"},
		{"a 1 at the beginning of no numbers", headOf(0, 9) + "100000000"},
	} {
		if c.what == "the example" {
			if _, e := fano.Of(packed(c.s)); e != api.OK {
				t.Error(c.what, e)
			}
			continue
		}
		refused(t, c.what, packed(c.s))
	}
	refused(t, "a 1 far behind no numbers", packed(headOf(0, 100000)+strings.Repeat("0", 99999)+"1"))
}

// leastWidth tells the least w so that 2^w n isn't less than u.
func leastWidth(n, u int) int {
	w := 0
	for n<<w < u {
		w++
	}
	return w
}

// P5.3: Size keeps to its bound, for all bounds about powers of 2, and for all small ones.
func TestSizeFollows(t *testing.T) {
	look := func(l []int, bound int) {
		n := len(l)
		if s := made(t, l, bound); s.Size() > 2*n+n*leastWidth(n, bound)+2 {
			t.Fatalf("of %d below %d Size is %d", n, bound, s.Size())
		}
	}
	for n := 1; n <= 40; n++ {
		for bound := 1; bound <= 400; bound++ {
			look(alike(n, bound-1), bound)
		}
		for k := range 41 {
			for _, bound := range []int{1<<k - 1, 1 << k, 1<<k + 1, n<<k - 1, n << k, n<<k + 1} {
				if bound >= 1 && bound <= maxBound {
					look(alike(n, bound-1), bound)
				}
			}
		}
	}
}

// P5.3: a sequence comes again from its bytes, and tells what it told.
func TestComesAgain(t *testing.T) {
	for seed := range uint64(60) {
		n := int(seed*seed*7%900 + 1)
		for _, bound := range []int{1, n, 2*n - 1, 2 * n, 77 * n, 1 << 33, maxBound} {
			l := thrown(seed, n, bound)
			s := made(t, l, bound)
			again, e := fano.Of(s.Bytes())
			if e != api.OK {
				t.Fatalf("of %d below %d Of: %d", n, bound, e)
			}
			askNumbers(t, again, l, bound)
			if again.Bytes() != s.Bytes() {
				t.Fatalf("of %d below %d other bytes come again", n, bound)
			}
		}
	}
	// Without numbers, too.
	for _, bound := range []int{1, 2, 62, 63, 64, 127, 128, 1 << 20} {
		again, e := fano.Of(made(t, nil, bound).Bytes())
		if e != api.OK {
			t.Fatalf("of none below %d Of: %d", bound, e)
		}
		check(t, again, nil, bound)
		if again.Size() != bound || again.Bytes() != bytesOf(nil, bound) {
			t.Errorf("of none below %d another one comes again", bound)
		}
	}
}

// R5: the list is left as it is, its spare room too, and isn't kept.
func TestListIsNotKept(t *testing.T) {
	room := thrown(5, 300, 4000)
	before := slices.Clone(room)
	s := made(t, room[:200], 4000)
	if !slices.Equal(room, before) {
		t.Error("the list has changed")
	}
	clear(room)
	check(t, s, before[:200], 4000)
}

// R7: sequences do not hang on one another; what is asked changes nothing.
func TestSequencesAreApart(t *testing.T) {
	l, m := thrown(6, 300, 4000), thrown(7, 500, 90)
	s := made(t, l, 4000)
	b := s.Bytes()
	q := made(t, m, 90)
	r, e := fano.Of(b)
	if e != api.OK {
		t.Fatal("Of:", e)
	}
	check(t, q, m, 90)
	check(t, s, l, 4000)
	check(t, r, l, 4000)
	check(t, s, l, 4000)
	if s.Bytes() != b || r.Bytes() != b {
		t.Error("the bytes have changed")
	}
}

// P5.2: the bytes are those of a layer 2's row, of so many bits as the chapter says.
func TestBytesAreARows(t *testing.T) {
	s := made(t, []int{1, 4, 4, 9}, 10)
	x, e := bits.Of(s.Bytes())
	if e != api.OK || x.Len() != 24+41+s.Size() {
		t.Fatal("Of:", e)
	}
	n, _ := x.Field(0, 24)
	u, _ := x.Field(24, 41)
	if n != 4 || u != 10 {
		t.Error("the head is", n, u)
	}
}
