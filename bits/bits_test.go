package bits_test

import (
	"encoding/binary"
	"math"
	"strings"
	"testing"

	"lacework/api"
	"lacework/bits"
)

const all = ^uint64(0)

// dice tells numbers that look thrown, the same ones each time.
type dice uint64

func (d *dice) next() uint64 {
	x := uint64(*d)
	x ^= x << 13
	x ^= x >> 7
	x ^= x << 17
	*d = dice(x)
	return x
}

// plain tells n bits, one by one.
func plain(seed uint64, n int) []bool {
	d := dice(seed*2654435761 + 88172645463325252)
	l := make([]bool, n)
	for i := range l {
		l[i] = d.next()>>40&1 == 1
	}
	return l
}

// built is a row of these bits, put one by one.
func built(t *testing.T, l []bool) *bits.Row {
	t.Helper()
	var b bits.Builder
	for _, one := range l {
		if e := b.Bit(one); e != api.OK {
			t.Fatal("Bit:", e)
		}
	}
	return b.Row()
}

// same fails if x hasn't just these bits, by each of its calls.
func same(t *testing.T, x *bits.Row, l []bool) {
	t.Helper()
	if x == nil {
		t.Fatal("no row")
	}
	if x.Len() != len(l) {
		t.Fatalf("Len %d, want %d", x.Len(), len(l))
	}
	words := make([]uint64, (len(l)+63)/64)
	for i, one := range l {
		if x.Get(i) != one {
			t.Fatalf("of %d bits the bit %d is %v", len(l), i, x.Get(i))
		}
		if one {
			words[i/64] |= 1 << (i % 64)
		}
	}
	want := binary.LittleEndian.AppendUint64(nil, uint64(len(l)))
	for i, w := range words {
		if x.Word(i) != w {
			t.Fatalf("of %d bits the word %d is %#x, want %#x", len(l), i, x.Word(i), w)
		}
		want = binary.LittleEndian.AppendUint64(want, w)
	}
	if s := x.Bytes(); s != string(want) {
		t.Fatalf("of %d bits the bytes are % x, want % x", len(l), s, want)
	}
}

// lengths are about the ends of words.
func lengths() []int {
	return []int{0, 1, 2, 7, 8, 63, 64, 65, 100, 127, 128, 129, 191, 192, 193, 1000}
}

// odd are ints of which none is a place in a row of these tests.
func odd() []int {
	return []int{math.MinInt, math.MinInt + 1, math.MinInt + 64, math.MinInt32, -1 << 32, -65, -64, -63, -1,
		1001, 1 << 20, 1 << 32, math.MaxInt32, math.MaxInt - 64, math.MaxInt - 63, math.MaxInt - 1, math.MaxInt}
}

func TestChapterExample(t *testing.T) {
	var b bits.Builder
	if b.Put(5, 3) != api.OK || b.Bit(true) != api.OK {
		t.Fatal("not put")
	}
	same(t, b.Row(), []bool{true, false, true, true})
	if s := b.Row().Bytes(); s != "\x04\x00\x00\x00\x00\x00\x00\x00\x0d\x00\x00\x00\x00\x00\x00\x00" {
		t.Errorf("% x", s)
	}
}

// P2.1

func TestZeroBuilderHasNoBits(t *testing.T) {
	var b bits.Builder
	if b.Len() != 0 {
		t.Error(b.Len())
	}
	same(t, b.Row(), nil)
}

func TestPutAtEachPlace(t *testing.T) {
	d := dice(7)
	for lead := range 130 {
		for n := range 65 {
			want := plain(uint64(lead), lead)
			var b bits.Builder
			for _, one := range want {
				b.Bit(one)
			}
			v := d.next()
			if n < 64 {
				v %= 1 << n
			}
			if e := b.Put(v, n); e != api.OK {
				t.Fatalf("Put(%#x, %d): %d", v, n, e)
			}
			if e := b.Put(2, 2); e != api.OK {
				t.Fatal(e)
			}
			for j := range n {
				want = append(want, v>>j&1 == 1)
			}
			want = append(want, false, true)
			if b.Len() != len(want) {
				t.Fatal("Len", b.Len(), len(want))
			}
			same(t, b.Row(), want)
		}
	}
}

func TestBitIsPutOfOne(t *testing.T) {
	var b, c bits.Builder
	for _, one := range plain(3, 200) {
		v := uint64(0)
		if one {
			v = 1
		}
		if b.Bit(one) != api.OK || c.Put(v, 1) != api.OK {
			t.Fatal("not put")
		}
	}
	if b.Len() != 200 || b.Row().Bytes() != c.Row().Bytes() {
		t.Error("Bit and Put tell different rows")
	}
}

func TestPutRefuses(t *testing.T) {
	type put struct {
		v uint64
		n int
	}
	l := []put{{0, -1}, {0, 65}, {all, 65}, {0, 128}, {1, 0}, {2, 1}, {8, 3}, {all, 63}, {1 << 63, 63}, {1 << 32, 32}}
	for _, n := range odd() {
		l = append(l, put{0, n}, put{1, n}, put{all, n})
	}
	for _, lead := range []int{0, 5, 64, 70} {
		want := plain(9, lead)
		var b bits.Builder
		for _, one := range want {
			b.Bit(one)
		}
		for _, p := range l {
			if e := b.Put(p.v, p.n); e != api.ErrArg {
				t.Errorf("Put(%#x, %d): %d", p.v, p.n, e)
			}
			if b.Len() != lead {
				t.Fatal("an error put bits")
			}
		}
		same(t, b.Row(), want)
		b.Put(5, 3)
		same(t, b.Row(), append(want, true, false, true))
	}
}

func TestPutTakesWhatJustFits(t *testing.T) {
	for n := range 65 {
		var b bits.Builder
		v := uint64(1)<<n - 1
		if e := b.Put(v, n); e != api.OK || b.Len() != n || b.Row().Word(0) != v {
			t.Errorf("Put(%#x, %d): %d", v, n, e)
		}
		if n < 64 {
			if e := b.Put(v+1, n); e != api.ErrArg {
				t.Errorf("Put(%#x, %d): %d", v+1, n, e)
			}
		}
	}
}

func TestRowsStayAsTheyAre(t *testing.T) {
	bit := plain(11, 300)
	var b bits.Builder
	var rows []*bits.Row
	for _, one := range bit {
		rows = append(rows, b.Row())
		b.Bit(one)
	}
	b.Put(all, 64)
	for n, x := range rows {
		same(t, x, bit[:n])
	}
	if p, q := b.Row(), b.Row(); p == q {
		t.Error("two rows are one")
	}
}

func TestBuildersAreApart(t *testing.T) {
	var b, c bits.Builder
	var want [2][]bool
	for i, one := range plain(13, 400) {
		if i%3 == 0 {
			b.Bit(one)
			want[0] = append(want[0], one)
		} else {
			c.Bit(one)
			want[1] = append(want[1], one)
		}
	}
	same(t, b.Row(), want[0])
	same(t, c.Row(), want[1])
}

// P2.2

func TestOfRefuses(t *testing.T) {
	number := func(l ...uint64) string {
		var s []byte
		for _, v := range l {
			s = binary.LittleEndian.AppendUint64(s, v)
		}
		return string(s)
	}
	bad := []string{"", "\x00", "\x00\x00\x00\x00\x00\x00\x00", number(0) + "\x00", number(0) + "\x00\x00\x00\x00\x00\x00\x00",
		number(0, 0), number(0, 1), number(1), number(1, 2), number(1, 1<<63), number(1, 1, 0), number(1, 1) + "\x00",
		number(63, 1<<63), number(64), number(64, 0, 0), number(65, 0), number(65, 0, 2), number(65, all, all), number(127, 0, 1<<63),
		number(128, 1), number(128, 1, 1, 1), number(1 << 32), number(1<<32+1, 0), number(1 << 63), number(1<<63, 0),
		number(1<<63+1, 1), number(all), number(all, 0), number(all - 62), number(all-62, 1), number(1<<32 + 64), number(1 << 56),
		"lacework", "laceworklacework", strings.Repeat("\xff", 24)}
	for _, s := range bad {
		if x, e := bits.Of(s); e != api.ErrForm || x != nil {
			t.Errorf("Of(% x): %v, %d", s, x, e)
		}
	}
	good := []string{number(0), number(1, 0), number(1, 1), number(63, 1<<63-1), number(64, all), number(65, 0, 1), number(127, all, 1<<63-1),
		number(128, 1, all)}
	for _, s := range good {
		x, e := bits.Of(s)
		if e != api.OK || x == nil || x.Bytes() != s {
			t.Errorf("Of(% x): %d", s, e)
		}
	}
}

// A changed beginning, or a byte more or less, is some other row's or none's; whatever is taken comes again.
func TestOfTakesNothingElse(t *testing.T) {
	for _, n := range lengths() {
		s := built(t, plain(17, n)).Bytes()
		for cut := range s {
			if x, e := bits.Of(s[:cut]); e != api.ErrForm || x != nil {
				t.Fatalf("%d of %d bytes: %d", cut, len(s), e)
			}
			for bit := range 8 {
				c := []byte(s)
				c[cut] ^= 1 << bit
				x, e := bits.Of(string(c))
				fine := cut >= 8 && (cut-8)*8+bit < n
				if cut < 8 {
					m := binary.LittleEndian.Uint64(c)
					fine = m < 1<<20 && (int(m)+63)/64 == len(s)/8-1 && rest(s, int(m))
				}
				if fine != (e == api.OK) || !fine && (e != api.ErrForm || x != nil) {
					t.Fatalf("of %d bits the bit %d of the byte %d turned: %d", n, bit, cut, e)
				}
				if fine && x.Bytes() != string(c) {
					t.Fatal("another row")
				}
			}
		}
		if x, e := bits.Of(s + "\x00"); e != api.ErrForm || x != nil {
			t.Fatal("a byte more:", e)
		}
		if x, e := bits.Of(s + "\x00\x00\x00\x00\x00\x00\x00\x00"); e != api.ErrForm || x != nil {
			t.Fatal("a word more:", e)
		}
	}
}

// rest tells whether all bits of s's words from n on are 0.
func rest(s string, n int) bool {
	for i := n; i < (len(s)-8)*8; i++ {
		if s[8+i/8]>>(i%8)&1 == 1 {
			return false
		}
	}
	return true
}

func TestGetOfNoBit(t *testing.T) {
	for _, n := range lengths() {
		l := make([]bool, n)
		for i := range l {
			l[i] = true
		}
		x := built(t, l)
		same(t, x, l)
		for _, i := range append(odd(), n, n+1, n+63, n+64) {
			if x.Get(i) {
				t.Errorf("of %d bits the bit %d is there", n, i)
			}
		}
	}
}

func TestWordOfNoWord(t *testing.T) {
	for _, n := range lengths() {
		l := make([]bool, n)
		for i := range l {
			l[i] = true
		}
		x := built(t, l)
		for _, i := range append(odd(), (n+63)/64, (n+63)/64+1) {
			if w := x.Word(i); w != 0 {
				t.Errorf("of %d bits the word %d is %#x", n, i, w)
			}
		}
	}
}

func TestFieldTellsNumber(t *testing.T) {
	for _, count := range lengths() {
		l := plain(uint64(count), count)
		x := built(t, l)
		for at := 0; at <= count; at++ {
			want := uint64(0)
			for n := 0; n <= 64; n++ {
				v, e := x.Field(at, n)
				if at+n > count {
					if v != 0 || e != api.ErrRange {
						t.Fatalf("of %d bits Field(%d, %d) = %#x, %d", count, at, n, v, e)
					}
					continue
				}
				if n > 0 && l[at+n-1] {
					want |= 1 << (n - 1)
				}
				if v != want || e != api.OK {
					t.Fatalf("of %d bits Field(%d, %d) = %#x, %d, want %#x", count, at, n, v, e, want)
				}
			}
		}
	}
}

func TestFieldRefuses(t *testing.T) {
	for _, count := range lengths() {
		x := built(t, plain(5, count))
		for _, n := range append(odd(), 65, 66, 128) {
			for _, at := range append(odd(), 0, count) {
				if v, e := x.Field(at, n); v != 0 || e != api.ErrArg {
					t.Errorf("of %d bits Field(%d, %d) = %#x, %d", count, at, n, v, e)
				}
			}
		}
		for _, at := range append(odd(), count+1) {
			for _, n := range []int{0, 1, 63, 64} {
				if v, e := x.Field(at, n); v != 0 || e != api.ErrRange {
					t.Errorf("of %d bits Field(%d, %d) = %#x, %d", count, at, n, v, e)
				}
			}
		}
	}
}

func TestClipTellsPiece(t *testing.T) {
	for _, n := range []int{0, 1, 63, 64, 65, 130, 200} {
		l := plain(uint64(n), n)
		x := built(t, l)
		for from := -2; from <= n+2; from++ {
			for to := -2; to <= n+2; to++ {
				a := min(max(from, 0), n)
				b := min(max(to, a), n)
				y := x.Clip(from, to)
				if y.Len() != b-a {
					t.Fatalf("of %d bits Clip(%d, %d) has %d", n, from, to, y.Len())
				}
				if from%7 == 0 || to%9 == 0 {
					same(t, y, l[a:b])
				}
			}
		}
		same(t, x, l)
	}
}

func TestClipOddEnds(t *testing.T) {
	l := plain(19, 1000)
	x := built(t, l)
	for _, from := range append(odd(), 0, 1, 64, 999, 1000) {
		for _, to := range append(odd(), 0, 1, 64, 999, 1000) {
			a := min(max(from, 0), 1000)
			b := min(max(to, a), 1000)
			same(t, x.Clip(from, to), l[a:b])
		}
	}
	same(t, built(t, nil).Clip(math.MinInt, math.MaxInt), nil)
	same(t, x.Clip(900, 100), nil)
}

// P2.3

func TestWhatIsPutIsThere(t *testing.T) {
	type piece struct {
		v     uint64
		at, n int
	}
	d := dice(23)
	var b bits.Builder
	var l []piece
	for range 2000 {
		n := int(d.next() % 65)
		v := d.next()
		if n < 64 {
			v %= 1 << n
		}
		l = append(l, piece{v, b.Len(), n})
		if e := b.Put(v, n); e != api.OK {
			t.Fatal(e)
		}
	}
	x := b.Row()
	for _, p := range l {
		if v, e := x.Field(p.at, p.n); v != p.v || e != api.OK {
			t.Fatalf("Field(%d, %d) = %#x, %d, want %#x", p.at, p.n, v, e, p.v)
		}
	}
}

func TestRowComesAgainFromItsBytes(t *testing.T) {
	for _, n := range lengths() {
		l := plain(uint64(n), n)
		x := built(t, l)
		y, e := bits.Of(x.Bytes())
		if e != api.OK {
			t.Fatal(e)
		}
		same(t, y, l)
		z, e := bits.Of(x.Clip(n/3, n).Bytes())
		if e != api.OK {
			t.Fatal(e)
		}
		same(t, z, l[n/3:])
	}
}
