package utf_test

import (
	"math"
	"strings"
	"testing"
	"unicode/utf8"

	"lacework/utf"
)

// last is the greatest scalar, nothing the state of what can't go on.
const (
	last    = 0x10ffff
	nothing = 8
)

// dice tells numbers that look thrown, the same ones each time.
type dice uint64

func (d *dice) next() uint64 {
	x := uint64(*d)
	x ^= x << 13
	x ^= x >> 7
	x ^= x << 17
	*d = dice(x)
	return x
}

// under tells one of the numbers below n.
func (d *dice) under(n int) int {
	return int(d.next() >> 20 % uint64(n))
}

// isScalar says it by the chapter's words.
func isScalar(c int) bool {
	return c >= 0 && c <= 0xd7ff || c >= 0xe000 && c <= last
}

// worded tells a scalar's bytes by the chapter's words.
func worded(c int) string {
	switch {
	case c < 0x80:
		return string([]byte{byte(c)})
	case c < 0x800:
		return string([]byte{byte(0xc0 + c/64), byte(0x80 + c%64)})
	case c < 0x10000:
		return string([]byte{byte(0xe0 + c/4096), byte(0x80 + c/64%64), byte(0x80 + c%64)})
	}
	return string([]byte{byte(0xf0 + c/262144), byte(0x80 + c/4096%64), byte(0x80 + c/64%64), byte(0x80 + c%64)})
}

// begun holds all that scalars' bytes begin with and don't end with, and not of no bytes.
func begun() map[string]bool {
	l := map[string]bool{}
	for c := 0x80; c <= last; c++ {
		if !isScalar(c) {
			continue
		}
		s := worded(c)
		for n := 1; n < len(s); n++ {
			l[s[:n]] = true
		}
	}
	return l
}

// known tells the scalar that s begins with and how many bytes it has, as the library knows it; 0, 0, if there is none.
func known(s string) (int, int) {
	c, n := utf8.DecodeRuneInString(s)
	if c == utf8.RuneError && n < 2 {
		return 0, 0
	}
	return int(c), n
}

// alive tells how long the longest beginning of s is that some well formed bytes begin with: scalars, and then what one begins with.
func alive(s string, l map[string]bool) int {
	at := 0
	for {
		_, n := known(s[at:])
		if n == 0 {
			break
		}
		at += n
	}
	for n := min(3, len(s)-at); n > 0; n-- {
		if l[s[at:at+n]] {
			return at + n
		}
	}
	return at
}

// look holds all that is told of s against what is known of it.
func look(t *testing.T, s string, l map[string]bool) {
	t.Helper()
	if got, want := utf.Live(s), alive(s, l); got != want {
		t.Fatalf("Live of % x is %d, want %d", s, got, want)
	}
	if got, want := utf.Right(s), utf8.ValidString(s); got != want {
		t.Fatalf("Right of % x is %v", s, got)
	}
	c, n := utf.Scalar(s)
	if wantC, wantN := known(s); c != wantC || n != wantN {
		t.Fatalf("Scalar of % x is %x, %d, want %x, %d", s, c, n, wantC, wantN)
	}
}

// noStates are numbers that are no state, some of which would be one if they were cut to fewer bits.
func noStates() []int {
	l := []int{math.MinInt, math.MinInt + 1, math.MinInt32, -256, -255, -9, -8, -2, -1, 9, 10, 11, 12, 15, 16, 99, 127, 128, math.MaxInt32, math.MaxUint32, math.MaxInt - 1, math.MaxInt}
	for state := range nothing + 1 {
		l = append(l, 16+state, 256+state, 65536+state, 1<<32+state, math.MinInt+state)
	}
	return l
}

// P9.1: Step, of all states and all bytes, by the chapter's words of the states.
func TestStepOfAllStatesAndBytes(t *testing.T) {
	type span struct{ from, to, then int }
	states := [nothing + 1][]span{
		0: {{0x00, 0x7f, 0}, {0xc2, 0xdf, 1}, {0xe0, 0xe0, 4}, {0xe1, 0xec, 2}, {0xed, 0xed, 5}, {0xee, 0xef, 2}, {0xf0, 0xf0, 6}, {0xf1, 0xf3, 3}, {0xf4, 0xf4, 7}},
		1: {{0x80, 0xbf, 0}},
		2: {{0x80, 0xbf, 1}},
		3: {{0x80, 0xbf, 2}},
		4: {{0xa0, 0xbf, 1}},
		5: {{0x80, 0x9f, 1}},
		6: {{0x90, 0xbf, 2}},
		7: {{0x80, 0x8f, 2}},
		8: {},
	}
	for state, spans := range states {
		for b := range 256 {
			want := nothing
			for _, x := range spans {
				if b >= x.from && b <= x.to {
					want = x.then
				}
			}
			if got := utf.Step(state, byte(b)); got != want {
				t.Errorf("Step(%d, %x) is %d, want %d", state, b, got, want)
			}
		}
	}
}

// P9.1: Step of no state.
func TestStepOfNoState(t *testing.T) {
	for _, state := range noStates() {
		for b := range 256 {
			if got := utf.Step(state, byte(b)); got != nothing {
				t.Fatalf("Step(%d, %x) is %d", state, b, got)
			}
		}
	}
}

// P9.1: the named first bytes.
func TestStepOfFirstBytes(t *testing.T) {
	for b, want := range map[byte]int{0x00: 0, 0x41: 0, 0x7f: 0, 0x80: 8, 0xbf: 8, 0xc0: 8, 0xc1: 8, 0xc2: 1, 0xdf: 1, 0xe0: 4, 0xe1: 2, 0xec: 2, 0xed: 5, 0xee: 2, 0xef: 2, 0xf0: 6, 0xf1: 3, 0xf3: 3, 0xf4: 7, 0xf5: 8, 0xf7: 8, 0xf8: 8, 0xfe: 8, 0xff: 8} {
		if got := utf.Step(0, b); got != want {
			t.Errorf("Step(0, %x) is %d, want %d", b, got, want)
		}
	}
}

// P9.1: the bytes at the edges of what may come behind those first bytes that narrow it.
func TestStepBehindNarrowFirstBytes(t *testing.T) {
	bytes := [8]byte{0x7f, 0x80, 0x8f, 0x90, 0x9f, 0xa0, 0xbf, 0xc0}
	for first, want := range map[byte][8]int{
		0xe0: {8, 8, 8, 8, 8, 1, 1, 8},
		0xed: {8, 1, 1, 1, 1, 8, 8, 8},
		0xf0: {8, 8, 8, 2, 2, 2, 2, 8},
		0xf4: {8, 2, 2, 8, 8, 8, 8, 8},
		0xe1: {8, 1, 1, 1, 1, 1, 1, 8},
		0xf1: {8, 2, 2, 2, 2, 2, 2, 8},
		0xc2: {8, 0, 0, 0, 0, 0, 0, 8},
	} {
		for k, b := range bytes {
			s := string([]byte{first, b})
			if got := utf.Step(utf.Step(0, first), b); got != want[k] {
				t.Errorf("behind % x the state is %d, want %d", s, got, want[k])
			}
			alive := 2
			if want[k] == nothing {
				alive = 1
			}
			if got := utf.Live(s); got != alive {
				t.Errorf("Live of % x is %d, want %d", s, got, alive)
			}
		}
	}
}

// P9.1: a state tells what may come: behind all that a scalar begins with, just those bytes go on with which a scalar does, and 0 is where one ends.
func TestStepGoesOnWhereScalarsDo(t *testing.T) {
	l := begun()
	ahead := []string{""}
	for s := range l {
		ahead = append(ahead, s)
	}
	for _, s := range ahead {
		state := 0
		for at := range len(s) {
			state = utf.Step(state, s[at])
		}
		for b := range 256 {
			longer := s + string([]byte{byte(b)})
			whole := utf8.ValidString(longer)
			got := utf.Step(state, byte(b))
			if whole != (got == 0) || (whole || l[longer]) != (got != nothing) {
				t.Fatalf("behind % x the state is %d", longer, got)
			}
		}
	}
}

// P9.1, P9.2: the chapter's examples, and each kind of what is right and wrong, told one by one.
func TestTold(t *testing.T) {
	for _, x := range []struct {
		s     string
		live  int
		right bool
		c, n  int
	}{
		{"", 0, true, 0, 0},
		{"\x00", 1, true, 0, 1},
		{"a", 1, true, 'a', 1},
		{"abc", 3, true, 'a', 1},
		{"\x7f", 1, true, 0x7f, 1},
		{"\xc2\x80", 2, true, 0x80, 2},
		{"\xdf\xbf", 2, true, 0x7ff, 2},
		{"\xe0\xa0\x80", 3, true, 0x800, 3},
		{"\xe2\x82\xac", 3, true, 0x20ac, 3},
		{"\xed\x9f\xbf", 3, true, 0xd7ff, 3},
		{"\xee\x80\x80", 3, true, 0xe000, 3},
		{"\xef\xbf\xbd", 3, true, 0xfffd, 3},
		{"\xef\xbf\xbf", 3, true, 0xffff, 3},
		{"\xf0\x90\x80\x80", 4, true, 0x10000, 4},
		{"\xf0\x9f\x98\x80", 4, true, 0x1f600, 4},
		{"\xf4\x8f\xbf\xbf", 4, true, 0x10ffff, 4},
		// Cut short.
		{"\xc3", 1, false, 0, 0},
		{"\xe2", 1, false, 0, 0},
		{"\xe2\x82", 2, false, 0, 0},
		{"\xf0", 1, false, 0, 0},
		{"\xf0\x9f", 2, false, 0, 0},
		{"\xf0\x9f\x98", 3, false, 0, 0},
		{"\xf4\x8f\xbf", 3, false, 0, 0},
		// A wrong byte at each place.
		{"\x80", 0, false, 0, 0},
		{"\xbf", 0, false, 0, 0},
		{"\xff", 0, false, 0, 0},
		{"\xc3A", 1, false, 0, 0},
		{"\xc3\xc3", 1, false, 0, 0},
		{"\xe2A\xac", 1, false, 0, 0},
		{"\xe2\x82A", 2, false, 0, 0},
		{"\xe2\x82\xe2\x82\xac", 2, false, 0, 0},
		{"\xf0A\x98\x80", 1, false, 0, 0},
		{"\xf0\x9fA\x80", 2, false, 0, 0},
		{"\xf0\x9f\x98A", 3, false, 0, 0},
		{"\xf0\x9f\x98\xc0", 3, false, 0, 0},
		// Longer than the scalar's bytes are.
		{"\xc0\x80", 0, false, 0, 0},
		{"\xc1\xbf", 0, false, 0, 0},
		{"\xe0\x80\x80", 1, false, 0, 0},
		{"\xe0\x9f\xbf", 1, false, 0, 0},
		{"\xf0\x80\x80\x80", 1, false, 0, 0},
		{"\xf0\x8f\xbf\xbf", 1, false, 0, 0},
		// No scalars: d800 to dfff, and beyond 10ffff.
		{"\xed\xa0\x80", 1, false, 0, 0},
		{"\xed\xbf\xbf", 1, false, 0, 0},
		{"\xed\xa0\xbd\xed\xb8\x80", 1, false, 0, 0},
		{"\xf4\x90\x80\x80", 1, false, 0, 0},
		{"\xf5\x80\x80\x80", 0, false, 0, 0},
		{"\xf8\x88\x80\x80\x80", 0, false, 0, 0},
		// Well formed ones ahead of wrong ones, which others stand behind.
		{"a\xff", 1, false, 'a', 1},
		{"\xe2\x82\xac\xff", 3, false, 0x20ac, 3},
		{"\xe2\x82\xac\x80", 3, false, 0x20ac, 3},
		{"a\xc3\xa4\xe2\x82\xac\xf0\x9f\x98\x80\xed\xa0", 11, false, 'a', 1},
		{"\xffabc", 0, false, 0, 0},
		{"ab\x80cd\xe2\x82\xac", 2, false, 'a', 1},
		{"\xc3\xa4\xe2\x82", 4, false, 0xe4, 2},
		{"\xe2\x82Abc", 2, false, 0, 0},
		// Many scalars, and others behind the first one.
		{"a\xc3\xa4\xe2\x82\xac\xf0\x9f\x98\x80", 10, true, 'a', 1},
		{"\xf0\x9f\x98\x80\xe2\x82\xac\xc3\xa4a", 10, true, 0x1f600, 4},
		{"\xc3\xa4\xc3\xa4", 4, true, 0xe4, 2},
	} {
		if got := utf.Live(x.s); got != x.live {
			t.Errorf("Live of % x is %d, want %d", x.s, got, x.live)
		}
		if got := utf.Right(x.s); got != x.right {
			t.Errorf("Right of % x is %v", x.s, got)
		}
		if c, n := utf.Scalar(x.s); c != x.c || n != x.n {
			t.Errorf("Scalar of % x is %x, %d, want %x, %d", x.s, c, n, x.c, x.n)
		}
	}
	if got := utf.Step(0, 0xed); got != 5 {
		t.Errorf("Step(0, ed) is %d", got)
	}
	if got := utf.Put(0x20ac); got != "\xe2\x82\xac" {
		t.Errorf("Put(20ac) is % x", got)
	}
}

// P9.1, P9.2: all bytes by ones and twos, with and without others ahead and behind.
func TestAllShortBytes(t *testing.T) {
	l := begun()
	for a := range 256 {
		for _, behind := range []string{"", "a", "\x80", "\xff"} {
			look(t, string([]byte{byte(a)})+behind, l)
		}
		for b := range 256 {
			s := string([]byte{byte(a), byte(b)})
			for _, ahead := range []string{"", "z", "\xe2\x82\xac"} {
				for _, behind := range []string{"", "a", "\x80", "\xbf\xbf", "\x80\x80\xc2"} {
					look(t, ahead+s+behind, l)
				}
			}
		}
	}
}

// P9.1, P9.2: all bytes that stand at edges, by threes and fours, and some by fives.
func TestAllEdges(t *testing.T) {
	l := begun()
	edges := "A\x00\x7f\x80\x8f\x90\x9f\xa0\xbf\xc0\xc1\xc2\xdf\xe0\xe1\xec\xed\xee\xef\xf0\xf1\xf3\xf4\xf5\xff"
	row := make([]byte, 5)
	var fill func(at, size int)
	fill = func(at, size int) {
		if at == size {
			look(t, string(row[:size]), l)
			return
		}
		for k := range len(edges) {
			row[at] = edges[k]
			fill(at+1, size)
		}
	}
	fill(0, 3)
	fill(0, 4)
	for _, ahead := range []string{"aa", "\xc3\xa4", "\xe2\x82", "\xf0\x9f", "\xed\x9f", "\xf4\x8f"} {
		copy(row, ahead)
		fill(2, 5)
	}
}

// P9.1, P9.2: scalars thrown together, then cut, or with bytes put in, left out and changed.
func TestThrown(t *testing.T) {
	l := begun()
	d := dice(88172645463325252)
	tops := [4]int{0x80, 0x800, 0x10000, last + 1}
	for range 20000 {
		var s strings.Builder
		for range d.under(12) {
			s.WriteString(string(rune(d.under(tops[d.under(4)]))))
		}
		right := s.String()
		look(t, right, l)
		at := d.under(len(right) + 1)
		look(t, right[:at], l)
		look(t, right[at:], l)
		other := string([]byte{byte(d.under(256))})
		look(t, right[:at]+other+right[at:], l)
		if at < len(right) {
			look(t, right[:at]+right[at+1:], l)
			look(t, right[:at]+other+right[at+1:], l)
		}
	}
}

// P9.2: Put, at the named edges.
func TestPutAtEdges(t *testing.T) {
	for c, want := range map[int]string{
		0: "\x00", 'a': "a", 0x7f: "\x7f", 0x80: "\xc2\x80", 0x7ff: "\xdf\xbf", 0x800: "\xe0\xa0\x80", 0xd7ff: "\xed\x9f\xbf", 0xd800: "", 0xdbff: "", 0xdc00: "", 0xdfff: "", 0xe000: "\xee\x80\x80", 0xfffd: "\xef\xbf\xbd", 0xffff: "\xef\xbf\xbf", 0x10000: "\xf0\x90\x80\x80", 0x10ffff: "\xf4\x8f\xbf\xbf", 0x110000: "", 0x13ffff: "", 0x140000: "", 0x1fffff: "", 0x200000: "",
	} {
		if got := utf.Put(c); got != want {
			t.Errorf("Put(%x) is % x, want % x", c, got, want)
		}
	}
}

// P9.2: Put of numbers far from scalars, some of which would be one if they were cut to fewer bits.
func TestPutOfOddNumbers(t *testing.T) {
	odd := []int{-1, -2, -0x80, -0x800, -0xd800, -0x10ffff, math.MinInt32, math.MaxInt32, math.MaxUint32, math.MinInt, math.MaxInt}
	for _, c := range []int{0, 'a', 0x7ff, 0x20ac, 0x10000, 0x10ffff} {
		odd = append(odd, 1<<21+c, 1<<31+c, 1<<32+c, 1<<40+c, math.MinInt+c, math.MaxInt-c, -c-1, c-1<<32)
	}
	for _, c := range odd {
		if got := utf.Put(c); got != "" {
			t.Errorf("Put(%d) is % x", c, got)
		}
	}
}

// P9.2, P9.3: of all numbers about the scalars: no bytes of those that are none; of the others those that the words tell, from which it comes again, whatever stands behind them.
func TestEachScalarComesAgain(t *testing.T) {
	for c := -0x1000; c <= last+0x10000; c++ {
		s := utf.Put(c)
		if !isScalar(c) {
			if s != "" {
				t.Fatalf("Put(%x) is % x", c, s)
			}
			continue
		}
		if s != worded(c) || s != string(rune(c)) {
			t.Fatalf("Put(%x) is % x, want % x", c, s, worded(c))
		}
		for _, behind := range []string{"", "a", "\x80", "\xff"} {
			if got, n := utf.Scalar(s + behind); got != c || n != len(s) {
				t.Fatalf("Scalar of % x is %x, %d, want %x, %d", s+behind, got, n, c, len(s))
			}
		}
	}
}

// P9.3: each scalar's bytes are alive to their end, well formed then, and not ahead of that.
func TestEachScalarIsAlive(t *testing.T) {
	for c := range last + 1 {
		s := utf.Put(c)
		if !utf.Right(s) || utf.Live(s) != len(s) {
			t.Fatalf("% x is alive up to %d", s, utf.Live(s))
		}
		for n := 1; n < len(s); n++ {
			if utf.Right(s[:n]) || utf.Live(s[:n]) != n {
				t.Fatalf("% x of % x is alive up to %d", s[:n], s, utf.Live(s[:n]))
			}
			if got, m := utf.Scalar(s[:n]); got != 0 || m != 0 {
				t.Fatalf("Scalar of % x is %x, %d", s[:n], got, m)
			}
		}
	}
}

// P9.1, P9.3: all scalars in one text, gone through, cut, and with a wrong byte in them.
func TestAllScalarsInOneText(t *testing.T) {
	var b strings.Builder
	for c := range last + 1 {
		b.WriteString(utf.Put(c))
	}
	s := b.String()
	if !utf.Right(s) || utf.Live(s) != len(s) {
		t.Fatalf("of %d bytes %d are alive", len(s), utf.Live(s))
	}
	at := 0
	for c := range last + 1 {
		if !isScalar(c) {
			continue
		}
		got, n := utf.Scalar(s[at:])
		if got != c || n == 0 {
			t.Fatalf("at %d the scalar is %x, of %d bytes, want %x", at, got, n, c)
		}
		at += n
	}
	if at != len(s) {
		t.Fatalf("of %d bytes %d are gone through", len(s), at)
	}
	if cut := s[:len(s)-1]; utf.Right(cut) || utf.Live(cut) != len(cut) {
		t.Error("the text that is cut is alive up to", utf.Live(cut))
	}
	for _, wrong := range []int{0, 1, 200, len(s) / 2, len(s) - 1} {
		changed := s[:wrong] + "\xff" + s[wrong+1:]
		if utf.Right(changed) || utf.Live(changed) != wrong {
			t.Errorf("with a wrong byte at %d the text is alive up to %d", wrong, utf.Live(changed))
		}
	}
}

// P9.1: a state that has come to nothing stays there, and Live and Right don't go on behind it, however much follows.
func TestNothingGoesOnBehindWrongBytes(t *testing.T) {
	for _, wrong := range []string{"\x80", "\xc0", "\xc3(", "\xe0\x80", "\xed\xa0", "\xf0\x80", "\xf4\x90", "\xf5", "\xff"} {
		state := 0
		for at := range len(wrong) {
			state = utf.Step(state, wrong[at])
		}
		if state != nothing {
			t.Errorf("behind % x the state is %d", wrong, state)
		}
		for _, behind := range []string{"a", "\x80", "\xbf\xbf\xbf", "\xe2\x82\xac", strings.Repeat("a\xc3\xa4", 500)} {
			s := "z" + wrong + behind
			if utf.Right(s) || utf.Live(s) != len(wrong) {
				t.Errorf("of % x and %d bytes behind it %d are alive", wrong, len(behind), utf.Live(s))
			}
		}
	}
}
