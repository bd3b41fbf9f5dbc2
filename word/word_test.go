package word_test

import (
	"math"
	"testing"

	"lacework/word"
)

const all = ^uint64(0)

// words are those at which the calls are held against the plain counts below.
func words() []uint64 {
	l := []uint64{0, 1, 2, 3, 5, 0b0011, 0b1100, 1 << 31, 1 << 32, 1 << 62, 1 << 63, 1<<63 | 1, all, all - 1, all >> 1,
		0x5555555555555555, 0xAAAAAAAAAAAAAAAA, 0x00000000FFFFFFFF, 0xFFFFFFFF00000000, 0x0123456789ABCDEF}
	x := uint64(88172645463325252)
	for range 40 {
		x ^= x << 13
		x ^= x >> 7
		x ^= x << 17
		l = append(l, x)
	}
	return l
}

// counts are counts of bits, places and excesses: all within a word and about its ends, and the ints at the ends.
func counts() []int {
	l := []int{math.MinInt, math.MinInt + 1, math.MinInt + 63, math.MinInt + 64, math.MinInt32, -1 << 20, math.MaxInt32, 1 << 32,
		math.MaxInt - 64, math.MaxInt - 63, math.MaxInt - 1, math.MaxInt}
	for n := -130; n <= 130; n++ {
		l = append(l, n)
	}
	return l
}

// there tells the bit at of w, 0 if it isn't there.
func there(w uint64, at int) uint64 {
	if at < 0 || at > 63 {
		return 0
	}
	return w / (uint64(1) << uint(at)) % 2
}

// within tells how many bits the first n are.
func within(n int) int {
	if n < 0 {
		return 0
	}
	if n > 64 {
		return 64
	}
	return n
}

// excesses are those of the first 0, of the first 1, and so on to the first n bits.
func excesses(w uint64, n int) []int {
	l := []int{0}
	for at := range within(n) {
		if there(w, at) == 1 {
			l = append(l, l[at]+1)
		} else {
			l = append(l, l[at]-1)
		}
	}
	return l
}

func TestChapterExamples(t *testing.T) {
	if x := word.Ones(5, 2); x != 1 {
		t.Error("Ones", x)
	}
	if x := word.Select(5, 1); x != 2 {
		t.Error("Select", x)
	}
	if x := word.Reach(5, 3); x != complex(0, 1) {
		t.Error("Reach", x)
	}
}

// P1.1

func TestOnesCountsFirstBits(t *testing.T) {
	for _, w := range words() {
		for _, n := range counts() {
			want := 0
			for at := range within(n) {
				want += int(there(w, at))
			}
			if x := word.Ones(w, n); x != want {
				t.Fatalf("Ones(%#x, %d) = %d, want %d", w, n, x, want)
			}
		}
	}
}

func TestOnesEdges(t *testing.T) {
	for _, c := range []struct {
		w       uint64
		n, want int
	}{{all, -1, 0}, {all, math.MinInt, 0}, {all, 0, 0}, {all, 1, 1}, {all, 63, 63}, {all, 64, 64}, {all, 65, 64}, {all, 128, 64},
		{all, math.MaxInt, 64}, {1 << 63, 63, 0}, {1 << 63, 64, 1}, {0, 64, 0}} {
		if x := word.Ones(c.w, c.n); x != c.want {
			t.Errorf("Ones(%#x, %d) = %d, want %d", c.w, c.n, x, c.want)
		}
	}
}

func TestSelectTellsPlaceOfOne(t *testing.T) {
	for _, w := range words() {
		var places []int
		for at := range 64 {
			if there(w, at) == 1 {
				places = append(places, at)
			}
		}
		for _, k := range counts() {
			want := 64
			if k >= 0 && k < len(places) {
				want = places[k]
			}
			if x := word.Select(w, k); x != want {
				t.Fatalf("Select(%#x, %d) = %d, want %d", w, k, x, want)
			}
		}
	}
}

func TestSelectEdges(t *testing.T) {
	for _, c := range []struct {
		w       uint64
		k, want int
	}{{0, 0, 64}, {0, -1, 64}, {1, 0, 0}, {1, 1, 64}, {1, -1, 64}, {all, -1, 64}, {all, math.MinInt, 64}, {all, 0, 0}, {all, 63, 63},
		{all, 64, 64}, {all, math.MaxInt, 64}, {1 << 63, 0, 63}, {1 << 63, 1, 64}} {
		if x := word.Select(c.w, c.k); x != c.want {
			t.Errorf("Select(%#x, %d) = %d, want %d", c.w, c.k, x, c.want)
		}
	}
}

// field tells Field's number by its bits.
func field(w uint64, at, n int) uint64 {
	v := uint64(0)
	for j := range within(n) {
		// A place that an int can't hold is none of the word's.
		if at <= math.MaxInt-j {
			v += there(w, at+j) << uint(j)
		}
	}
	return v
}

func TestFieldTellsNumberOfBits(t *testing.T) {
	for _, w := range words() {
		for _, at := range counts() {
			for _, n := range []int{math.MinInt, -64, -1, 0, 1, 2, 3, 7, 8, 31, 32, 33, 62, 63, 64, 65, 127, 128, math.MaxInt} {
				if x, want := word.Field(w, at, n), field(w, at, n); x != want {
					t.Fatalf("Field(%#x, %d, %d) = %#x, want %#x", w, at, n, x, want)
				}
			}
		}
	}
}

func TestFieldEdges(t *testing.T) {
	for _, c := range []struct {
		w     uint64
		at, n int
		want  uint64
	}{{all, 0, 0, 0}, {all, 0, -1, 0}, {all, 0, math.MinInt, 0}, {all, 0, 64, all}, {all, 0, 65, all}, {all, 0, math.MaxInt, all},
		{all, 63, 1, 1}, {all, 63, 64, 1}, {all, 64, 64, 0}, {all, math.MaxInt, 64, 0}, {all, -1, 1, 0}, {all, -1, 2, 2},
		{all, -63, 64, 1 << 63}, {all, -63, 63, 0}, {all, -64, 64, 0}, {all, -64, math.MaxInt, 0}, {all, math.MinInt, 64, 0},
		{all, math.MinInt, math.MaxInt, 0}, {0xABCD, 4, 8, 0xBC}} {
		if x := word.Field(c.w, c.at, c.n); x != c.want {
			t.Errorf("Field(%#x, %d, %d) = %#x, want %#x", c.w, c.at, c.n, x, c.want)
		}
	}
}

func TestNeedTellsBits(t *testing.T) {
	if x := word.Need(0); x != 0 {
		t.Error("Need of 0:", x)
	}
	for at := range 64 {
		v := uint64(1) << uint(at)
		if x := word.Need(v); x != at+1 {
			t.Errorf("Need(%#x) = %d", v, x)
		}
		if x := word.Need(v | (v - 1)); x != at+1 {
			t.Errorf("Need(%#x) = %d", v|(v-1), x)
		}
	}
}

// P1.2

func TestExcessIsOnesLessZeros(t *testing.T) {
	for _, w := range words() {
		for _, n := range counts() {
			want := excesses(w, n)[within(n)]
			if x := word.Excess(w, n); x != want {
				t.Fatalf("Excess(%#x, %d) = %d, want %d", w, n, x, want)
			}
		}
	}
}

func TestExcessEdges(t *testing.T) {
	for _, c := range []struct {
		w       uint64
		n, want int
	}{{5, 3, 1}, {all, -1, 0}, {0, -1, 0}, {0, math.MinInt, 0}, {0, 0, 0}, {0, 64, -64}, {0, 65, -64}, {0, math.MaxInt, -64},
		{all, 64, 64}, {all, 65, 64}, {1 << 63, 63, -63}, {1 << 63, 64, -62}} {
		if x := word.Excess(c.w, c.n); x != c.want {
			t.Errorf("Excess(%#x, %d) = %d, want %d", c.w, c.n, x, c.want)
		}
	}
}

func TestReachTellsLeastAndGreatest(t *testing.T) {
	for _, w := range words() {
		for _, n := range counts() {
			least, most := 0, 0
			for i, e := range excesses(w, n)[1:] {
				if i == 0 || e < least {
					least = e
				}
				if i == 0 || e > most {
					most = e
				}
			}
			if x := word.Reach(w, n); x != complex(float64(least), float64(most)) {
				t.Fatalf("Reach(%#x, %d) = %v, want %d and %d", w, n, x, least, most)
			}
		}
	}
}

func TestReachEdges(t *testing.T) {
	for _, c := range []struct {
		w    uint64
		n    int
		want complex128
	}{{all, 0, 0}, {0, 0, 0}, {all, -1, 0}, {0, math.MinInt, 0}, {1, 1, complex(1, 1)}, {0, 1, complex(-1, -1)},
		{0b0011, 4, complex(0, 2)}, {0b1100, 3, complex(-2, -1)}, {all, 64, complex(1, 64)}, {all, math.MaxInt, complex(1, 64)},
		{0, 64, complex(-64, -1)}, {0, 65, complex(-64, -1)}, {1 << 63, 63, complex(-63, -1)}} {
		if x := word.Reach(c.w, c.n); x != c.want {
			t.Errorf("Reach(%#x, %d) = %v, want %v", c.w, c.n, x, c.want)
		}
	}
}

func TestFindTellsLeastCount(t *testing.T) {
	for _, w := range words() {
		for _, n := range []int{math.MinInt, -64, -1, 0, 1, 2, 3, 31, 32, 33, 63, 64, 65, 128, math.MaxInt} {
			for _, d := range counts() {
				want := 0
				for k, e := range excesses(w, n) {
					if k > 0 && e == d {
						want = k
						break
					}
				}
				if x := word.Find(w, n, d); x != want {
					t.Fatalf("Find(%#x, %d, %d) = %d, want %d", w, n, d, x, want)
				}
			}
		}
	}
}

func TestFindEdges(t *testing.T) {
	for _, c := range []struct {
		w          uint64
		n, d, want int
	}{{5, 0, 0, 0}, {5, -1, 0, 0}, {5, math.MinInt, 1, 0}, {1, 1, 1, 1}, {1, 1, 0, 0}, {1, 2, 0, 2}, {0b0011, 4, 0, 4}, {0b0011, 3, 0, 0},
		{0b0011, 4, 2, 2}, {0b0011, 4, 3, 0}, {all, 64, 64, 64}, {all, 63, 64, 0}, {all, 99, 64, 64}, {all, 99, 65, 0}, {0, 64, -64, 64},
		{0, math.MaxInt, -65, 0}, {0, 64, math.MinInt, 0}, {all, 64, math.MaxInt, 0}} {
		if x := word.Find(c.w, c.n, c.d); x != c.want {
			t.Errorf("Find(%#x, %d, %d) = %d, want %d", c.w, c.n, c.d, x, c.want)
		}
	}
}

// P1.3

func TestEachOneIsFound(t *testing.T) {
	for _, w := range words() {
		for at := range 64 {
			if word.Field(w, at, 1) == 1 {
				if x := word.Select(w, word.Ones(w, at)); x != at {
					t.Fatalf("of %#x the 1 at %d is found at %d", w, at, x)
				}
			}
		}
		for k := range word.Ones(w, 64) {
			at := word.Select(w, k)
			if word.Field(w, at, 1) != 1 || word.Ones(w, at) != k {
				t.Fatalf("of %#x Select(%d) = %d is no such 1", w, k, at)
			}
		}
		if x := word.Select(w, word.Ones(w, 64)); x != 64 {
			t.Fatalf("of %#x one 1 too many, at %d", w, x)
		}
	}
}

func TestExcessGoesByOne(t *testing.T) {
	for _, w := range words() {
		for n := range 64 {
			went := word.Excess(w, n+1) - word.Excess(w, n)
			if went != 1 && went != -1 {
				t.Fatalf("of %#x the excess goes by %d at %d", w, went, n)
			}
		}
	}
}

// As the excess goes by one, all within the reach is met, and nothing beside it.
func TestWhatReachHoldsIsFound(t *testing.T) {
	for _, w := range words() {
		for n := 1; n <= 64; n++ {
			reach := word.Reach(w, n)
			for d := -66; d <= 66; d++ {
				k := word.Find(w, n, d)
				in := float64(d) >= real(reach) && float64(d) <= imag(reach)
				if in != (k > 0) || k > 0 && word.Excess(w, k) != d {
					t.Fatalf("Find(%#x, %d, %d) = %d, with the reach %v", w, n, d, k, reach)
				}
			}
		}
	}
}
