package paren_test

import (
	"math"
	"strings"
	"testing"

	"lacework/api"
	"lacework/bits"
	"lacework/paren"
)

// dice tells numbers that look thrown, the same ones each time.
type dice uint64

func (d *dice) next() uint64 {
	x := uint64(*d)
	x ^= x << 13
	x ^= x >> 7
	x ^= x << 17
	*d = dice(x)
	return x
}

// thrown tells n parentheses of which about so many of 256 are (.
func thrown(seed uint64, n, of256 int) string {
	d := dice(seed*2654435761 + 88172645463325252)
	s := make([]byte, n)
	for i := range s {
		s[i] = ")("[btoi(int(d.next()>>40&255) < of256)]
	}
	return string(s)
}

func btoi(b bool) int {
	if b {
		return 1
	}
	return 0
}

// nested tells n pairs, the one in the other.
func nested(n int) string {
	return strings.Repeat("(", n) + strings.Repeat(")", n)
}

// balanced tells n pairs that are thrown.
func balanced(seed uint64, n int) string {
	d := dice(seed*2654435761 + 88172645463325252)
	var s strings.Builder
	open, left := 0, n
	for left > 0 || open > 0 {
		if left > 0 && (open == 0 || d.next()>>40&1 == 1) {
			s.WriteByte('(')
			open, left = open+1, left-1
		} else {
			s.WriteByte(')')
			open--
		}
	}
	return s.String()
}

// built is a row of these parentheses.
func built(t *testing.T, s string) *bits.Row {
	t.Helper()
	var b bits.Builder
	for i := range len(s) {
		if e := b.Bit(s[i] == '('); e != api.OK {
			t.Fatal("Bit:", e)
		}
	}
	return b.Row()
}

// lies tells what a stretch is of these parentheses, and where it begins.
func lies(s string, from, to int) (string, int) {
	from = min(max(from, 0), len(s))
	to = min(max(to, from), len(s))
	return s[from:to], from
}

// worth is what one of them adds to an excess.
func worth(c byte) int {
	if c == '(' {
		return 1
	}
	return -1
}

// told is what is told of a stretch: the excess, the least and the greatest one of a beginning, and for each d the place that is found forth, and back.
type told struct {
	excess, least, most int
	forth, back         map[int]int
}

// tell counts it one by one.
func tell(s string, from, to int) told {
	piece, first := lies(s, from, to)
	w := told{forth: map[int]int{}, back: map[int]int{}}
	for i := range len(piece) {
		w.excess += worth(piece[i])
		if i == 0 {
			w.least, w.most = w.excess, w.excess
		}
		w.least, w.most = min(w.least, w.excess), max(w.most, w.excess)
		if _, met := w.forth[w.excess]; !met {
			w.forth[w.excess] = first + i
		}
	}
	e := 0
	for i := len(piece) - 1; i >= 0; i-- {
		e += worth(piece[i])
		if _, met := w.back[e]; !met {
			w.back[e] = first + i
		}
	}
	return w
}

// place tells what is found for d; -1, if nothing is.
func place(l map[int]int, d int) int {
	if k, met := l[d]; met {
		return k
	}
	return -1
}

// odd are numbers that are no place and no excess.
func odd() []int {
	return []int{math.MinInt, math.MinInt + 1, math.MinInt + 63, math.MinInt + 64, math.MinInt + 65, math.MinInt32, -1 << 32, -100000,
		100000, 1 << 32, math.MaxInt32, math.MaxInt - 65, math.MaxInt - 64, math.MaxInt - 63, math.MaxInt - 1, math.MaxInt}
}

// check holds all that is told of one stretch against what is counted, for each of these d.
func check(t *testing.T, x *bits.Row, s string, from, to int, ds []int) {
	t.Helper()
	w := tell(s, from, to)
	if got := paren.Excess(x, from, to); got != w.excess {
		t.Fatalf("of %d bits Excess(%d, %d) is %d, want %d", len(s), from, to, got, w.excess)
	}
	if got := paren.Reach(x, from, to); got != complex(float64(w.least), float64(w.most)) {
		t.Fatalf("of %d bits Reach(%d, %d) is %v, want %d and %d", len(s), from, to, got, w.least, w.most)
	}
	for _, d := range ds {
		if got, want := paren.Forth(x, from, to, d), place(w.forth, d); got != want {
			t.Fatalf("of %d bits Forth(%d, %d, %d) is %d, want %d", len(s), from, to, d, got, want)
		}
		if got, want := paren.Back(x, from, to, d), place(w.back, d); got != want {
			t.Fatalf("of %d bits Back(%d, %d, %d) is %d, want %d", len(s), from, to, d, got, want)
		}
	}
}

// edges are all d that some beginning, or some end, of the stretch has, and the two beyond them on both sides.
func edges(s string, from, to int) []int {
	w := tell(s, from, to)
	low, high := w.least, w.most
	for d := range w.back {
		low, high = min(low, d), max(high, d)
	}
	var l []int
	for d := low - 2; d <= high+2; d++ {
		l = append(l, d)
	}
	return l
}

// rows are those of n bits at which the calls are held against the counts: of all kinds.
func rows(n int) []string {
	l := []string{strings.Repeat("(", n), strings.Repeat(")", n), strings.Repeat("()", n)[:n], strings.Repeat(")(", n)[:n]}
	if n > 0 {
		l = append(l, strings.Repeat("(", n-1)+")", ")"+strings.Repeat("(", n-1), strings.Repeat(")", n-1)+"(", "("+strings.Repeat(")", n-1))
	}
	if n%2 == 0 {
		l = append(l, nested(n/2), balanced(uint64(n), n/2))
	}
	for i, fill := range []int{20, 110, 128, 146, 236} {
		l = append(l, thrown(uint64(8*n+i), n, fill))
	}
	return l
}

// lengths are about the ends of words.
func lengths() []int {
	return []int{0, 1, 2, 62, 63, 64, 65, 66, 126, 127, 128, 129, 130, 191, 192, 193, 200, 256, 321}
}

// P6.1: the examples of the chapter.
func TestChapterExample(t *testing.T) {
	x := built(t, "(())")
	if got := [3]int{paren.Forth(x, 0, 4, 0), paren.Forth(x, 1, 4, 0), paren.Back(x, 0, 3, 0)}; got != [3]int{3, 2, 1} {
		t.Error("Forth(0, 4, 0), Forth(1, 4, 0), Back(0, 3, 0) are", got)
	}
}

// P6.1: every row of few bits, every stretch of it, every d.
func TestEveryShortRow(t *testing.T) {
	for n := range 9 {
		var ds []int
		for d := -n - 2; d <= n+2; d++ {
			ds = append(ds, d)
		}
		for v := range 1 << n {
			s := short(v, n)
			x := built(t, s)
			for from := -2; from <= n+2; from++ {
				for to := -2; to <= n+2; to++ {
					check(t, x, s, from, to, ds)
				}
			}
		}
	}
}

// short tells the n parentheses that the bits of v are.
func short(v, n int) string {
	s := make([]byte, n)
	for i := range s {
		s[i] = ")("[v>>i&1]
	}
	return string(s)
}

// P6.1: rows of several words, stretches that begin and end about the words' ends, each d that is met and those just beyond.
func TestStretchesAboutWords(t *testing.T) {
	for _, n := range lengths() {
		at := []int{-65, -64, -1, 0, 1, 2, 31, 62, 63, 64, 65, 66, 127, 128, 129, 192, n - 65, n - 64, n - 63, n - 1, n, n + 1, n + 64}
		for _, s := range rows(n) {
			x := built(t, s)
			for _, from := range at {
				for _, to := range at {
					check(t, x, s, from, to, append(edges(s, from, to), -n-1, -n, n, n+1))
				}
			}
		}
	}
}

// P6.1: every stretch of one row of three words.
func TestEveryStretch(t *testing.T) {
	for _, s := range []string{thrown(5, 150, 128), nested(75), thrown(6, 150, 60)} {
		x := built(t, s)
		for from := -1; from <= len(s)+1; from++ {
			for to := -1; to <= len(s)+1; to++ {
				check(t, x, s, from, to, []int{-65, -64, -63, -10, -3, -1, 0, 1, 3, 10, 63, 64, 65})
			}
		}
	}
}

// P6.1: places and excesses that are none.
func TestOddArguments(t *testing.T) {
	for _, n := range []int{0, 1, 63, 64, 65, 200} {
		for _, s := range rows(n) {
			x := built(t, s)
			at := append(odd(), 0, n/2, n)
			for _, from := range at {
				for _, to := range at {
					check(t, x, s, from, to, at)
				}
			}
		}
	}
}

// P6.1: of a stretch without bits nothing is told, whatever its places are.
func TestEmptyStretch(t *testing.T) {
	for _, s := range []string{"", "(", ")", nested(100), thrown(9, 200, 128)} {
		x := built(t, s)
		n := len(s)
		for _, c := range [][2]int{{0, 0}, {n, n}, {n, n + 5}, {n + 5, n + 9}, {n + 9, n + 5}, {n, 0}, {n / 2, n / 2}, {n, n / 2}, {n, -1},
			{-5, 0}, {-5, -3}, {-3, -5}, {0, -1}, {math.MaxInt, math.MinInt}, {math.MinInt, math.MinInt}, {math.MaxInt, math.MaxInt}} {
			if e, r := paren.Excess(x, c[0], c[1]), paren.Reach(x, c[0], c[1]); e != 0 || r != 0 {
				t.Fatalf("of %d bits Excess and Reach of %v are %d and %v", n, c, e, r)
			}
			for _, d := range append(odd(), -65, -1, 0, 1, 65) {
				if f, b := paren.Forth(x, c[0], c[1], d), paren.Back(x, c[0], c[1], d); f != -1 || b != -1 {
					t.Fatalf("of %d bits Forth and Back of %v and %d are %d and %d", n, c, d, f, b)
				}
			}
		}
	}
}

// P6.1: what is found may be the stretch's first place, its last one, or none; bits beside the stretch do not count.
func TestFirstPlaceLastPlaceNone(t *testing.T) {
	s := nested(200)
	x := built(t, s)
	for _, c := range []struct{ from, to, d, forth, back int }{
		{10, 150, 1, 10, 149}, {10, 150, 140, 149, 10}, {10, 150, 141, -1, -1}, {10, 150, 0, -1, -1}, {10, 150, -1, -1, -1},
		{10, 74, 64, 73, 10}, {10, 73, 64, -1, -1}, {10, 75, 65, 74, 10}, {64, 128, 64, 127, 64}, {64, 128, 65, -1, -1},
		{250, 390, -1, 250, 389}, {250, 390, -140, 389, 250}, {250, 390, -141, -1, -1}, {250, 390, 0, -1, -1},
		{0, 400, 0, 399, 0}, {1, 400, -1, 399, 399}, {0, 399, 1, 0, 0}, {100, 300, 0, 299, 100}, {100, 299, 0, -1, 101}, {101, 300, 0, 298, -1},
		{7, 8, 1, 7, 7}, {7, 8, -1, -1, -1}, {7, 8, 0, -1, -1}, {399, 400, -1, 399, 399}, {399, 999, -1, 399, 399}, {-9, 1, 1, 0, 0},
	} {
		if got := paren.Forth(x, c.from, c.to, c.d); got != c.forth {
			t.Errorf("Forth(%d, %d, %d) is %d, want %d", c.from, c.to, c.d, got, c.forth)
		}
		if got := paren.Back(x, c.from, c.to, c.d); got != c.back {
			t.Errorf("Back(%d, %d, %d) is %d, want %d", c.from, c.to, c.d, got, c.back)
		}
	}
}

// P6.1: a word in which an excess could be met, and isn't, is left behind like the others.
func TestNearlyMet(t *testing.T) {
	// 40 down and 40 up again: the 10 is within the 1s of many words, and only met in the last one.
	dip := strings.Repeat(strings.Repeat(")", 40)+strings.Repeat("(", 40), 20)
	s := dip + strings.Repeat("(", 10)
	x := built(t, s)
	check(t, x, s, 0, len(s), []int{9, 10, 11})
	if got := paren.Forth(x, 0, len(s), 10); got != len(s)-1 {
		t.Error("Forth is", got)
	}
	turned := strings.Repeat(")", 10) + strings.Repeat(strings.Repeat(")", 40)+strings.Repeat("(", 40), 20)
	y := built(t, turned)
	check(t, y, turned, 0, len(turned), []int{-9, -10, -11})
	if got := paren.Back(y, 0, len(turned), -10); got != 0 {
		t.Error("Back is", got)
	}
}

// P6.1: rows that weren't put together bit by bit are told of alike.
func TestRowsOfOtherMakes(t *testing.T) {
	s := thrown(12, 700, 128)
	x := built(t, s)
	again, e := bits.Of(x.Bytes())
	if e != api.OK {
		t.Fatal("Of:", e)
	}
	check(t, again, s, 3, 690, edges(s, 3, 690))
	for _, c := range [][2]int{{0, 64}, {1, 65}, {37, 500}, {699, 700}, {300, 300}} {
		y, piece := x.Clip(c[0], c[1]), s[c[0]:c[1]]
		check(t, y, piece, 0, len(piece), edges(piece, 0, len(piece)))
		// A stretch of the whole tells what the piece does, moved by where it begins.
		for _, d := range edges(piece, 0, len(piece)) {
			f, g := paren.Forth(y, 0, len(piece), d), paren.Forth(x, c[0], c[1], d)
			if f >= 0 {
				f += c[0]
			}
			if f != g {
				t.Fatalf("Forth of the piece %v and %d is %d, want %d", c, d, f, g)
			}
		}
	}
}

// P6.1, P6.2: a great row, whose excesses take more than 16 bits.
func TestGreatRow(t *testing.T) {
	const n = 1 << 19
	s := nested(n)
	x := built(t, s)
	if !paren.Balanced(x) || paren.Excess(x, 0, n) != n || paren.Excess(x, 0, 2*n) != 0 || paren.Reach(x, 0, 2*n) != complex(0, n) || paren.Reach(x, n, 2*n) != complex(-n, -1) {
		t.Error("counts")
	}
	for at := 0; at < n; at += 9973 {
		if f, b := paren.Forth(x, at, 2*n, 0), paren.Back(x, 0, 2*n-at, 0); f != 2*n-1-at || b != at {
			t.Fatalf("from %d Forth is %d, Back is %d", at, f, b)
		}
		if f, b := paren.Forth(x, 0, 2*n, at+1), paren.Back(x, 0, 2*n, -at-1); f != at || b != 2*n-1-at {
			t.Fatalf("of %d Forth is %d, Back is %d", at+1, f, b)
		}
	}
	if f, b := paren.Forth(x, 0, 2*n, n+1), paren.Back(x, 0, 2*n, -n-1); f != -1 || b != -1 {
		t.Error("one more:", f, b)
	}
}

// P6.1: of a great row without an order all is told, by some stretches of it.
func TestGreatThrownRow(t *testing.T) {
	s := thrown(31, 100003, 130)
	x := built(t, s)
	for _, c := range [][2]int{{0, len(s)}, {1, len(s) - 1}, {63, 64000}, {64, 64064}, {50000, 50001}, {777, 99999}} {
		check(t, x, s, c[0], c[1], edges(s, c[0], c[1]))
	}
}

// right tells whether parentheses are balanced, by taking pairs out till there are none.
func right(s string) bool {
	for strings.Contains(s, "()") {
		s = strings.ReplaceAll(s, "()", "")
	}
	return s == ""
}

// P6.2: rows that are balanced, and rows that miss it by one thing.
func TestBalancedEdges(t *testing.T) {
	all := func(s string, n int) string { return strings.Repeat(s, n) }
	for _, c := range []struct {
		what, s string
		want    bool
	}{
		{"no bits", "", true}, {"one (", "(", false}, {"one )", ")", false}, {"a pair", "()", true}, {"a pair turned", ")(", false},
		{"both (", "((", false}, {"both )", "))", false}, {"an excess of 0 with a beginning below 0", "())(()", false},
		{"a word of pairs", all("()", 32), true}, {"a word of pairs turned", all(")(", 32), false}, {"a word nested", nested(32), true},
		{"a word turned", all(")", 32) + all("(", 32), false}, {"one less than a word", all("()", 31) + "(", false},
		{"one more than a word", nested(32) + ")", false}, {"one more that opens", nested(32) + "(", false},
		{"over words", nested(1000), true}, {"over words, one open", "(" + nested(1000), false}, {"over words, one closed", nested(1000) + ")", false},
		{"below 0 in the second word", nested(32) + ")(", false}, {"below 0 at a word's end", nested(31) + "())" + "(" + nested(9), false},
		{"below 0 at the first bit", ")" + nested(100) + "(", false}, {"below 0 at the last but one", nested(100) + ")(", false},
		{"far below 0", nested(100) + all(")", 300) + all("(", 300), false}, {"right beginnings alone", all("(()", 100), false},
	} {
		if got := paren.Balanced(built(t, c.s)); got != c.want {
			t.Errorf("%s: %v", c.what, got)
		}
	}
}

// P6.2: every row of few bits.
func TestBalancedOfEveryShortRow(t *testing.T) {
	for n := range 14 {
		for v := range 1 << n {
			s := short(v, n)
			if got := paren.Balanced(built(t, s)); got != right(s) {
				t.Fatalf("%q: %v", s, got)
			}
		}
	}
}

// P6.2: longer rows that are balanced are no more so with any one bit turned, or with one bit more or less.
func TestBalancedOfLongerRows(t *testing.T) {
	for _, pairs := range []int{31, 32, 33, 64, 100, 160} {
		for _, s := range []string{nested(pairs), strings.Repeat("()", pairs), balanced(uint64(pairs), pairs)} {
			if !paren.Balanced(built(t, s)) {
				t.Fatalf("of %d pairs it isn't", pairs)
			}
			for i := range len(s) {
				other := ")"
				if s[i] == ')' {
					other = "("
				}
				for _, wrong := range []string{s[:i] + other + s[i+1:], s[:i] + s[i+1:], s[:i] + other + s[i:]} {
					if paren.Balanced(built(t, wrong)) {
						t.Fatalf("of %d pairs it still is, with another bit at %d", pairs, i)
					}
				}
			}
			// Two of them changed for one another leave the excess as it is.
			for i := 0; i+1 < len(s); i++ {
				if s[i] != s[i+1] {
					c := s[:i] + s[i+1:i+2] + s[i:i+1] + s[i+2:]
					if got := paren.Balanced(built(t, c)); got != right(c) {
						t.Fatalf("of %d pairs with two changed at %d: %v", pairs, i, got)
					}
				}
			}
		}
	}
}

// P6.3: the excess of two stretches, one behind the other, is both ones'.
func TestExcessesAddUp(t *testing.T) {
	for _, n := range lengths() {
		for _, s := range rows(n) {
			x := built(t, s)
			at := []int{0, 1, n / 3, 63, 64, 65, n / 2, 128, n - 1, n, n + 7, math.MaxInt}
			for _, from := range append(at, -3, math.MinInt) {
				for _, mid := range at {
					for _, to := range at {
						if from > mid || mid > to {
							continue
						}
						if got, sum := paren.Excess(x, from, to), paren.Excess(x, from, mid)+paren.Excess(x, mid, to); got != sum {
							t.Fatalf("of %d bits Excess(%d, %d) is %d, with %d between %d", n, from, to, got, mid, sum)
						}
					}
				}
			}
		}
	}
}

// P6.3: a row is balanced just if its reach isn't below 0 and its excess is 0.
func TestBalancedByReachAndExcess(t *testing.T) {
	look := func(s string) {
		x := built(t, s)
		want := real(paren.Reach(x, 0, x.Len())) >= 0 && paren.Excess(x, 0, x.Len()) == 0
		if got := paren.Balanced(x); got != want {
			t.Fatalf("of %d bits Balanced is %v, by reach and excess %v", len(s), got, want)
		}
	}
	for n := range 11 {
		for v := range 1 << n {
			look(short(v, n))
		}
	}
	for _, n := range lengths() {
		for _, s := range rows(n) {
			look(s)
			look("(" + s + ")")
			look(s + ")(")
		}
	}
}

// P6.3: up to a place that is found forth, and from one that is found back, the excess is what was asked, and what was met between isn't.
func TestWhatIsFoundHasTheExcess(t *testing.T) {
	s := thrown(77, 400, 128)
	x := built(t, s)
	for from := 0; from < 400; from += 37 {
		for to := from; to <= 400; to += 41 {
			for d := -30; d <= 30; d++ {
				if k := paren.Forth(x, from, to, d); k >= 0 {
					if paren.Excess(x, from, k+1) != d || paren.Forth(x, from, k, d) != -1 {
						t.Fatalf("Forth(%d, %d, %d) is %d", from, to, d, k)
					}
				}
				if k := paren.Back(x, from, to, d); k >= 0 {
					if paren.Excess(x, k, to) != d || paren.Back(x, k+1, to, d) != -1 {
						t.Fatalf("Back(%d, %d, %d) is %d", from, to, d, k)
					}
				}
			}
		}
	}
}

// R5, R7: a row that is asked stays as it is, and tells the same each time.
func TestRowStaysAsItIs(t *testing.T) {
	for _, n := range lengths() {
		s := thrown(uint64(n)+3, n, 128)
		x := built(t, s)
		before := x.Bytes()
		for range 2 {
			check(t, x, s, 0, n, edges(s, 0, n))
			paren.Balanced(x)
		}
		if x.Bytes() != before {
			t.Errorf("the row of %d bits has changed", n)
		}
	}
}
