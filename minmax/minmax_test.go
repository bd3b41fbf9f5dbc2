package minmax_test

import (
	"math"
	"strings"
	"testing"

	"lacework/api"
	"lacework/bits"
	"lacework/minmax"
	"lacework/paren"
)

// span is how many bits a block has.
const span = 512

// dice tells numbers that look thrown, the same ones each time.
type dice uint64

func (d *dice) next() uint64 {
	x := uint64(*d)
	x ^= x << 13
	x ^= x >> 7
	x ^= x << 17
	*d = dice(x)
	return x
}

// thrown tells n parentheses of which about so many of 256 are (.
func thrown(seed uint64, n, of256 int) string {
	d := dice(seed*2654435761 + 88172645463325252)
	s := make([]byte, n)
	for i := range s {
		s[i] = ')'
		if int(d.next()>>40&255) < of256 {
			s[i] = '('
		}
	}
	return string(s)
}

// nested tells n pairs, the one in the other.
func nested(n int) string {
	return strings.Repeat("(", n) + strings.Repeat(")", n)
}

// balanced tells n pairs that are thrown.
func balanced(seed uint64, n int) string {
	d := dice(seed*2654435761 + 88172645463325252)
	var s strings.Builder
	open, left := 0, n
	for left > 0 || open > 0 {
		if left > 0 && (open == 0 || d.next()>>40&1 == 1) {
			s.WriteByte('(')
			open, left = open+1, left-1
		} else {
			s.WriteByte(')')
			open--
		}
	}
	return s.String()
}

// row is one of these parentheses.
func row(t *testing.T, s string) *bits.Row {
	t.Helper()
	var b bits.Builder
	for i := range len(s) {
		if e := b.Bit(s[i] == '('); e != api.OK {
			t.Fatal("Bit:", e)
		}
	}
	return b.Row()
}

// tree is that of a row of these parentheses.
func tree(t *testing.T, s string) *minmax.Tree {
	t.Helper()
	return minmax.New(row(t, s))
}

// counted is the excess of each beginning: of no bits, of one, and so on up to all.
func counted(s string) []int {
	e := make([]int, 1, len(s)+1)
	for i := range len(s) {
		if s[i] == '(' {
			e = append(e, e[i]+1)
		} else {
			e = append(e, e[i]-1)
		}
	}
	return e
}

// met is where each excess is met first, with the least and the greatest one of them.
type met struct {
	at        map[int]int
	low, high int
}

// add tells of one more that is met.
func (m *met) add(d, at int) {
	if m.at == nil {
		m.at, m.low, m.high = map[int]int{}, d, d
	}
	if _, old := m.at[d]; !old {
		m.at[d] = at
	}
	m.low, m.high = min(m.low, d), max(m.high, d)
}

// place tells where d is met; -1, if it isn't.
func (m *met) place(d int) int {
	if at, ok := m.at[d]; ok {
		return at
	}
	return -1
}

// within tells the place that i counts as.
func within(i, n int) int {
	return min(max(i, 0), n)
}

// forths goes through all beginnings from a place on, one by one.
func forths(e []int, from int) met {
	var m met
	from = within(from, len(e)-1)
	for k := from; k < len(e)-1; k++ {
		m.add(e[k+1]-e[from], k)
	}
	return m
}

// backs goes through all ends ahead of a place, one by one.
func backs(e []int, to int) met {
	var m met
	to = within(to, len(e)-1)
	for k := to - 1; k >= 0; k-- {
		m.add(e[to]-e[k], k)
	}
	return m
}

// asked are those d at which a place is looked at: the least, the greatest, about 0, those just beyond, those at the blocks' ends, and some between.
func asked(e []int, m met, at int) []int {
	n := len(e) - 1
	l := []int{-n - 1, -n, n, n + 1}
	for _, near := range []int{m.low, 0, m.high} {
		for d := near - 2; d <= near+2; d++ {
			l = append(l, d)
		}
	}
	for i := 0; i <= n; i += span {
		d := e[i] - e[within(at, n)]
		l = append(l, d-1, d, d+1, -d-1, -d, -d+1)
	}
	for d := m.low; d <= m.high; d += 1 + (m.high-m.low)/40 {
		l = append(l, d)
	}
	return l
}

// look holds what is found from a place, and ahead of it, against what is counted.
func look(t *testing.T, x *minmax.Tree, e []int, at int) {
	t.Helper()
	if got, want := x.Excess(at), e[within(at, len(e)-1)]; got != want {
		t.Fatalf("of %d bits Excess(%d) is %d, want %d", len(e)-1, at, got, want)
	}
	m := forths(e, at)
	for _, d := range asked(e, m, at) {
		if got, want := x.Forth(at, d), m.place(d); got != want {
			t.Fatalf("of %d bits Forth(%d, %d) is %d, want %d", len(e)-1, at, d, got, want)
		}
	}
	m = backs(e, at)
	for _, d := range asked(e, m, at) {
		if got, want := x.Back(at, d), m.place(d); got != want {
			t.Fatalf("of %d bits Back(%d, %d) is %d, want %d", len(e)-1, at, d, got, want)
		}
	}
}

// right tells whether parentheses are balanced, by the excess of each beginning.
func right(e []int) bool {
	for _, d := range e {
		if d < 0 {
			return false
		}
	}
	return e[len(e)-1] == 0
}

// rows are those of n bits at which the calls are held against the counts: of all kinds.
func rows(n int) []string {
	half := strings.Repeat("(", n/2) + strings.Repeat(")", n-n/2)
	dips := strings.Repeat(strings.Repeat(")", 300)+strings.Repeat("(", 300), n/600+1)[:n]
	l := []string{strings.Repeat("(", n), strings.Repeat(")", n), strings.Repeat("()", n)[:n], strings.Repeat(")(", n)[:n], half, dips}
	if n > 0 {
		l = append(l, strings.Repeat("()", n)[:n-1]+")", strings.Repeat("(", n-1)+")", "("+strings.Repeat("()", n)[:n-1])
	}
	if n%2 == 0 {
		l = append(l, balanced(uint64(n)+5, n/2))
	}
	for i, fill := range []int{20, 120, 128, 136, 236} {
		l = append(l, thrown(uint64(8*n+i), n, fill))
	}
	return l
}

// lengths are about the ends of blocks: of none, of one, of two, of three, of many.
func lengths() []int {
	return []int{0, 1, 2, 63, 64, 65, 300, 510, 511, 512, 513, 514, 1000, 1023, 1024, 1025, 1535, 1536, 1537, 2047, 2048, 2049,
		5*span - 1, 5 * span, 5*span + 1, 6*span + 100, 7 * span, 8*span - 1, 8 * span, 8*span + 1, 9*span + 300, 17*span + 1}
}

// places are all blocks' first ones, last ones and ones in the midst, those about Len, and those that are none.
func places(n int) []int {
	l := []int{-span - 1, -span, -2, -1, n - 2, n - 1, n, n + 1, n + span, n + 2*span}
	for i := 0; i <= n; i += span {
		l = append(l, i-1, i, i+1, i+span/2, i+span-1)
	}
	return l
}

// odd are numbers that are no place and no excess.
func odd() []int {
	return []int{math.MinInt, math.MinInt + 1, math.MinInt + 511, math.MinInt + 512, math.MinInt + 513, math.MinInt32, -1 << 32, -1000000,
		1000000, 1 << 32, math.MaxInt32, math.MaxInt - 513, math.MaxInt - 512, math.MaxInt - 511, math.MaxInt - 1, math.MaxInt}
}

// P7.1: the example of the chapter.
func TestChapterExample(t *testing.T) {
	x := tree(t, nested(600))
	if f, b := x.Forth(0, 0), x.Back(1200, 0); f != 1199 || b != 0 {
		t.Error("Forth(0, 0) and Back(1200, 0) are", f, b)
	}
}

// P7.1: rows that end about blocks, places about blocks, each d that matters.
func TestPlacesAboutBlocks(t *testing.T) {
	for _, n := range lengths() {
		for _, s := range rows(n) {
			x, e := tree(t, s), counted(s)
			for _, at := range places(n) {
				look(t, x, e, at)
			}
		}
	}
}

// P7.1: every place of some rows of few blocks, and every d.
func TestEveryPlaceEveryExcess(t *testing.T) {
	for _, s := range []string{thrown(3, 1300, 128), thrown(4, 1540, 100), strings.Repeat("()", 700), nested(520), balanced(9, 800)} {
		x, e := tree(t, s), counted(s)
		for at := range len(s) + 1 {
			f, b := forths(e, at), backs(e, at)
			for d := min(f.low, b.low) - 2; d <= max(f.high, b.high)+2; d++ {
				if got, want := x.Forth(at, d), f.place(d); got != want {
					t.Fatalf("of %d bits Forth(%d, %d) is %d, want %d", len(s), at, d, got, want)
				}
				if got, want := x.Back(at, d), b.place(d); got != want {
					t.Fatalf("of %d bits Back(%d, %d) is %d, want %d", len(s), at, d, got, want)
				}
			}
			if got := x.Excess(at); got != e[at] {
				t.Fatalf("of %d bits Excess(%d) is %d, want %d", len(s), at, got, e[at])
			}
		}
	}
}

// P7.1: every row of few bits.
func TestEveryShortRow(t *testing.T) {
	for n := range 8 {
		for v := range 1 << n {
			b := make([]byte, n)
			for i := range b {
				b[i] = ")("[v>>i&1]
			}
			s := string(b)
			x, e := tree(t, s), counted(s)
			for at := -2; at <= n+2; at++ {
				look(t, x, e, at)
			}
			if x.Balanced() != right(e) {
				t.Fatalf("Balanced of %q is %v", s, x.Balanced())
			}
		}
	}
}

// P7.1: layer 7 finds what layer 6 does, also of places that are none.
func TestAsLayer6(t *testing.T) {
	for _, n := range []int{0, 1, 511, 512, 513, 1024, 3000} {
		for _, s := range rows(n) {
			y := row(t, s)
			x := minmax.New(y)
			for _, at := range []int{math.MinInt, -1, 0, 1, n / 3, n / 2, 512, n - 1, n, n + 1, math.MaxInt} {
				if got, want := x.Excess(at), paren.Excess(y, 0, at); got != want {
					t.Fatalf("of %d bits Excess(%d) is %d, want %d", n, at, got, want)
				}
				for d := -40; d <= 40; d++ {
					if got, want := x.Forth(at, d), paren.Forth(y, at, n, d); got != want {
						t.Fatalf("of %d bits Forth(%d, %d) is %d, want %d", n, at, d, got, want)
					}
					if got, want := x.Back(at, d), paren.Back(y, 0, at, d); got != want {
						t.Fatalf("of %d bits Back(%d, %d) is %d, want %d", n, at, d, got, want)
					}
				}
			}
			if got, want := x.Balanced(), paren.Balanced(y); got != want {
				t.Fatalf("of %d bits Balanced is %v, want %v", n, got, want)
			}
		}
	}
}

// P7.1: what is found is in the block that was asked, in the next one, many blocks further on, at the row's first place, at its last one, or nowhere.
func TestWhereItIsFound(t *testing.T) {
	far := "(" + strings.Repeat("()", 10000) + ")"
	last := len(far) - 1
	deep := nested(5 * span)
	for _, c := range []struct {
		what            string
		s               string
		at, d           int
		isForth, isBack int
	}{
		{"the first bit", far, 0, 1, 0, -1}, {"the last bit", far, last + 1, -1, -1, last}, {"the same block", far, 1, 0, 2, -1},
		{"the whole row", far, 0, 0, last, -1}, {"the whole row, back", far, last + 1, 0, -1, 0}, {"its last place", far, 1, -1, last, -1},
		{"its first place", far, last, 1, -1, 0}, {"one more than is met", far, 0, 3, -1, -1}, {"one less than is met", far, 0, -1, -1, -1},
		{"one less behind the first", far, 1, -2, -1, -1}, {"two more ahead of the last", far, last, 2, -1, -1},
		{"the next block", deep, span - 1, 2, span, span - 3}, {"the block's last bit", deep, 0, span, span - 1, -1},
		{"the next block's first bit", deep, 0, span + 1, span, -1}, {"the next block's last bit", deep, 0, 2 * span, 2*span - 1, -1},
		{"from a block's first bit", deep, span, 0, 9*span - 1, -1}, {"from a block's last bit", deep, span - 1, 0, 9 * span, -1},
		{"from its midst", deep, 700, 0, 10*span - 701, -1}, {"back over a block's end", deep, 2 * span, span, 3*span - 1, span},
		{"back over it by one", deep, 2 * span, span + 1, 3 * span, span - 1}, {"back to the first bit", deep, 2 * span, 2 * span, 4*span - 1, 0},
		{"back to ahead of it", deep, 2 * span, 2*span + 1, 4 * span, -1}, {"back to the midst", deep, 9 * span, 0, -1, span},
		{"the greatest", deep, 0, 5 * span, 5*span - 1, -1}, {"one more", deep, 0, 5*span + 1, -1, -1},
		{"the least end", deep, 10 * span, -5 * span, -1, 5 * span}, {"one less", deep, 10 * span, -5*span - 1, -1, -1},
		{"nothing from the end on", deep, 10 * span, 0, -1, 0}, {"nothing ahead of the first", deep, 0, 0, 10*span - 1, -1},
	} {
		x := tree(t, c.s)
		if got := x.Forth(c.at, c.d); got != c.isForth {
			t.Errorf("%s: Forth(%d, %d) is %d, want %d", c.what, c.at, c.d, got, c.isForth)
		}
		if got := x.Back(c.at, c.d); got != c.isBack {
			t.Errorf("%s: Back(%d, %d) is %d, want %d", c.what, c.at, c.d, got, c.isBack)
		}
	}
}

// P7.1: places of a row at which one thing alone is to be found, in each of its blocks.
func TestLonePeaks(t *testing.T) {
	const n = 11*span + 77
	flat := strings.Repeat("()", n)[:n]
	for at := 0; at+1 < n; at += 2 {
		if at%span > 3 && at%span < span-4 && at%62 != 0 {
			continue
		}
		// One pair turned: there, and nowhere else, the excess is below 0, from the first bit on and back from behind it.
		s := flat[:at] + ")(" + flat[at+2:]
		x := tree(t, s)
		if got := x.Forth(0, -1); got != at {
			t.Fatalf("a pair turned at %d is found forth at %d", at, got)
		}
		if got := x.Back(n-n%2, 1); got != at+1 {
			t.Fatalf("a pair turned at %d is found back at %d", at, got)
		}
		if x.Balanced() {
			t.Fatalf("balanced, with a pair turned at %d", at)
		}
	}
}

// P7.1: a row without bits.
func TestRowWithoutBits(t *testing.T) {
	var b bits.Builder
	empty, e := bits.Of("\x00\x00\x00\x00\x00\x00\x00\x00")
	if e != api.OK {
		t.Fatal("Of:", e)
	}
	for _, y := range []*bits.Row{b.Row(), empty, row(t, nested(600)).Clip(520, 520)} {
		x := minmax.New(y)
		if x.Row() != y || !x.Balanced() || x.Size() < 0 || x.Size() > 2048 {
			t.Error("of no bits:", x.Row().Len(), x.Balanced(), x.Size())
		}
		for _, at := range append(odd(), -1, 0, 1) {
			for _, d := range append(odd(), -1, 0, 1) {
				if e, f, b := x.Excess(at), x.Forth(at, d), x.Back(at, d); e != 0 || f != -1 || b != -1 {
					t.Fatalf("of no bits at %d and %d: %d, %d, %d", at, d, e, f, b)
				}
			}
		}
	}
}

// P7.1, R1: places and excesses that are none.
func TestOddArguments(t *testing.T) {
	for _, n := range []int{1, 511, 512, 513, 1024, 2600} {
		for _, s := range rows(n) {
			x, e := tree(t, s), counted(s)
			for _, at := range append(odd(), -1, 0, n/2, n, n+1) {
				look(t, x, e, at)
				for _, d := range odd() {
					if f, b := x.Forth(at, d), x.Back(at, d); f != -1 || b != -1 {
						t.Fatalf("of %d bits Forth and Back of %d and %d are %d and %d", n, at, d, f, b)
					}
				}
			}
		}
	}
}

// P7.1: Row is the row that was given.
func TestRowIsIt(t *testing.T) {
	for _, n := range lengths() {
		y := row(t, thrown(uint64(n), n, 128))
		if minmax.New(y).Row() != y {
			t.Errorf("of %d bits it is another one", n)
		}
	}
}

// P7.1: rows that weren't put together bit by bit are told of alike.
func TestRowsOfOtherMakes(t *testing.T) {
	s := thrown(12, 4000, 128)
	y := row(t, s)
	again, e := bits.Of(y.Bytes())
	if e != api.OK {
		t.Fatal("Of:", e)
	}
	for _, at := range places(4000) {
		look(t, minmax.New(again), counted(s), at)
	}
	for _, c := range [][2]int{{0, 512}, {1, 513}, {37, 3500}, {3999, 4000}, {100, 1124}} {
		piece := s[c[0]:c[1]]
		for _, at := range places(len(piece)) {
			look(t, minmax.New(y.Clip(c[0], c[1])), counted(piece), at)
		}
	}
}

// P7.1: rows that are balanced, and rows that miss it by one thing.
func TestBalancedEdges(t *testing.T) {
	all := strings.Repeat
	for _, c := range []struct {
		what, s string
		want    bool
	}{
		{"no bits", "", true}, {"one (", "(", false}, {"one )", ")", false}, {"a pair", "()", true}, {"a pair turned", ")(", false},
		{"an excess of 0 with a beginning below 0", "())(()", false}, {"right beginnings alone", all("(()", 1000), false},
		{"a block nested", nested(256), true}, {"a block of pairs", all("()", 256), true}, {"a block turned", all(")", 256) + all("(", 256), false},
		{"a block and one that opens", nested(256) + "(", false}, {"a block and one that closes", nested(256) + ")", false},
		{"one less than a block", all("()", 255) + "(", false}, {"two blocks nested", nested(512), true}, {"three blocks nested", nested(768), true},
		{"three blocks, each nested", all(nested(256), 3), true}, {"three blocks, the second turned", nested(256) + all(")(", 256) + nested(256), false},
		{"many blocks nested", nested(40000), true}, {"many, one open", "(" + nested(40000), false}, {"many, one closed", nested(40000) + ")", false},
		{"many of pairs", all("()", 40000), true}, {"many of pairs turned", all(")(", 40000), false},
		{"below 0 at a block's last bit", all("()", 255) + "(" + "))" + "(" + nested(9), false}, {"below 0 at a block's first bit", nested(256) + ")(", false},
		{"below 0 at the row's first bit", ")" + nested(5000) + "(", false}, {"below 0 at the last but one", nested(5000) + ")(", false},
		{"far below 0", nested(5000) + all(")", 9000) + all("(", 9000), false}, {"an excess of 0, the one turned for the other", all(")", 5000) + all("(", 5000), false},
		{"all open", all("(", 3000), false}, {"all closed", all(")", 3000), false}, {"up alone", nested(3000) + all("(", 600), false},
	} {
		if got := tree(t, c.s).Balanced(); got != c.want {
			t.Errorf("%s: %v", c.what, got)
		}
	}
}

// P7.1: a balanced row of several blocks is no more so with one bit turned, or one more or less; with two bits changed for one another it hangs on them.
func TestBalancedByOneBit(t *testing.T) {
	for _, s := range []string{nested(800), strings.Repeat("()", 800), balanced(4, 800)} {
		if !tree(t, s).Balanced() {
			t.Fatal("it isn't")
		}
		for i := 0; i < len(s); i += 7 {
			other := ")"
			if s[i] == ')' {
				other = "("
			}
			for _, wrong := range []string{s[:i] + other + s[i+1:], s[:i] + s[i+1:], s[:i] + other + s[i:]} {
				if tree(t, wrong).Balanced() {
					t.Fatalf("it still is, with another bit at %d", i)
				}
			}
			if i+1 < len(s) && s[i] != s[i+1] {
				c := s[:i] + s[i+1:i+2] + s[i:i+1] + s[i+2:]
				if got, want := tree(t, c).Balanced(), right(counted(c)); got != want {
					t.Fatalf("with two changed at %d: %v", i, got)
				}
			}
		}
	}
}

// P7.1: Size is within its bounds, whatever the row is.
func TestSizeAtItsBounds(t *testing.T) {
	look := func(x *minmax.Tree) {
		t.Helper()
		if n := x.Row().Len(); x.Size() < 0 || x.Size() > 3*n+2048 {
			t.Fatalf("of %d bits Size is %d", n, x.Size())
		}
	}
	long := row(t, thrown(8, 70*span, 128))
	for n := range 3 * span {
		look(minmax.New(long.Clip(0, n)))
	}
	for blocks := range 70 {
		for n := blocks*span - 1; n <= blocks*span+1; n++ {
			look(minmax.New(long.Clip(0, n)))
		}
	}
	var b bits.Builder
	for n := 1 << 15; n <= 1<<21; n *= 2 {
		for b.Len() < n {
			b.Put(0x0123456789ABCDEF, 64)
		}
		y := b.Row()
		for _, to := range []int{n - span + 1, n - 1, n} {
			look(minmax.New(y.Clip(0, to)))
		}
		b.Put(1, 1)
		look(minmax.New(b.Row()))
	}
}

// P7.1: a great row, whose excesses take more than 16 bits.
func TestGreatRow(t *testing.T) {
	const n = 1 << 19
	x := tree(t, nested(n))
	if !x.Balanced() || x.Excess(n) != n || x.Excess(2*n) != 0 || x.Excess(2*n-1) != 1 {
		t.Error("counts")
	}
	for at := 0; at < n; at += 97 {
		if f, b := x.Forth(at, 0), x.Back(2*n-at, 0); f != 2*n-1-at || b != at {
			t.Fatalf("from %d Forth is %d, Back is %d", at, f, b)
		}
		if f, b := x.Forth(0, at+1), x.Back(2*n, -at-1); f != at || b != 2*n-1-at {
			t.Fatalf("of %d Forth is %d, Back is %d", at+1, f, b)
		}
	}
	if f, b := x.Forth(0, n+1), x.Back(2*n, -n-1); f != -1 || b != -1 {
		t.Error("one more:", f, b)
	}
}

// P7.1: a great row without an order.
func TestGreatThrownRow(t *testing.T) {
	for _, fill := range []int{120, 128, 136} {
		s := thrown(31, 200*span+3, fill)
		x, e := tree(t, s), counted(s)
		for at := 0; at <= len(s); at += 4999 {
			look(t, x, e, at)
		}
		for _, at := range []int{127*span - 1, 127 * span, 128*span - 1, 128 * span, 128*span + 1, 192 * span, 199 * span, 200 * span, len(s)} {
			look(t, x, e, at)
		}
	}
}

// P7.2: up to what is found the excess is what was asked, and nothing between has it; if nothing is found, nothing has it at all.
func TestNothingMetBetween(t *testing.T) {
	for _, s := range []string{thrown(5, 3000, 128), balanced(6, 1500), nested(1500), strings.Repeat("()", 1500), thrown(7, 3001, 118)} {
		x := tree(t, s)
		n := x.Row().Len()
		for _, at := range []int{0, 1, 200, 511, 512, 513, 1023, 1024, 1400, 2048, 2559, 2560, n - 1, n} {
			for d := -70; d <= 70; d += 1 + max(d, -d)/9 {
				nothingForth(t, x, at, d)
				nothingBack(t, x, at, d)
			}
		}
	}
}

// nothingForth asks each place between by the tree's own excesses.
func nothingForth(t *testing.T, x *minmax.Tree, from, d int) {
	t.Helper()
	k, start := x.Forth(from, d), x.Excess(from)
	if k >= 0 && (k < from || x.Excess(k+1)-start != d) {
		t.Fatalf("Forth(%d, %d) is %d, with an excess of %d", from, d, k, x.Excess(k+1)-start)
	}
	end := k
	if k == -1 {
		end = x.Row().Len()
	}
	for j := from; j < end; j++ {
		if x.Excess(j+1)-start == d {
			t.Fatalf("Forth(%d, %d) is %d, but %d has it", from, d, k, j)
		}
	}
}

// nothingBack likewise, ahead of a place.
func nothingBack(t *testing.T, x *minmax.Tree, to, d int) {
	t.Helper()
	k, end := x.Back(to, d), x.Excess(to)
	if k >= 0 && (k >= to || end-x.Excess(k) != d) {
		t.Fatalf("Back(%d, %d) is %d, with an excess of %d", to, d, k, end-x.Excess(k))
	}
	for j := to - 1; j > k; j-- {
		if end-x.Excess(j) == d {
			t.Fatalf("Back(%d, %d) is %d, but %d has it", to, d, k, j)
		}
	}
}

// P7.2: what opens is closed by what it opened, and no two of them by one.
func TestPairsFindEachOther(t *testing.T) {
	for _, s := range []string{balanced(2, 2000), nested(2000), strings.Repeat("()", 2000), nested(300) + balanced(3, 2000) + nested(513)} {
		x := tree(t, s)
		var open []int
		for i := range len(s) {
			if s[i] == '(' {
				open = append(open, i)
				continue
			}
			first := open[len(open)-1]
			open = open[:len(open)-1]
			if got := x.Forth(first, 0); got != i {
				t.Fatalf("what is opened at %d is closed at %d, want %d", first, got, i)
			}
			if got := x.Back(i+1, 0); got != first {
				t.Fatalf("what is closed at %d is opened at %d, want %d", i, got, first)
			}
		}
	}
}

// R5, R7: a row that is asked stays as it is; trees of one row, and of others, tell the same each time.
func TestNothingChanges(t *testing.T) {
	s, other := thrown(40, 2100, 128), nested(1050)
	y := row(t, s)
	before := y.Bytes()
	a, b := minmax.New(y), minmax.New(y)
	c := tree(t, other)
	for range 2 {
		for _, at := range places(2100) {
			look(t, a, counted(s), at)
			look(t, c, counted(other), at)
			look(t, b, counted(s), at)
		}
		if a.Balanced() || b.Balanced() || !c.Balanced() || a.Size() != b.Size() {
			t.Error("the trees differ")
		}
	}
	if y.Bytes() != before {
		t.Error("the row has changed")
	}
}
