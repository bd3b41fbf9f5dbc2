package num_test

import (
	"cmp"
	"math"
	"math/big"
	"regexp"
	"strconv"
	"strings"
	"testing"

	"lacework/api"
	"lacework/num"
)

// form is what a number is by the chapter's words.
var form = regexp.MustCompile(`\A-?(0|[1-9][0-9]*)(\.[0-9]+)?([eE][+-]?[0-9]+)?\z`)

// dice tells numbers that look thrown, the same ones each time.
type dice uint64

func (d *dice) next() uint64 {
	x := uint64(*d)
	x ^= x << 13
	x ^= x >> 7
	x ^= x << 17
	*d = dice(x)
	return x
}

// under tells one of the numbers below n.
func (d *dice) under(n int) int {
	return int(d.next() >> 20 % uint64(n))
}

// digits tells n of them.
func (d *dice) digits(n int) string {
	row := make([]byte, n)
	for at := range row {
		// Noughts and nines stand where something is carried or trimmed.
		row[at] = "0009991234567800"[d.under(16)]
	}
	return string(row)
}

// number tells a number whose exponent has at most two digits.
func (d *dice) number() string {
	s := []string{"", "-"}[d.under(2)]
	s += strings.TrimLeft(d.digits(d.under(24)), "0")
	if s == "" || s == "-" {
		s += "0"
	}
	if d.under(2) == 0 {
		s += "." + d.digits(1+d.under(24))
	}
	if d.under(2) == 0 {
		s += []string{"e", "E"}[d.under(2)] + []string{"", "+", "-"}[d.under(3)] + d.digits(1+d.under(2))
	}
	return s
}

// value tells what a number says, as the library reads it.
func value(t *testing.T, s string) *big.Rat {
	t.Helper()
	v, ok := new(big.Rat).SetString(s)
	if !ok {
		t.Fatalf("the library doesn't read %q", s)
	}
	return v
}

// nears are whole numbers about those where something changes.
func nears() []int64 {
	l := []int64{math.MinInt64, math.MinInt64 + 1, math.MaxInt64 - 1, math.MaxInt64}
	for _, about := range []int64{0, 5, 10, 99, 100, 1000, 1<<31 - 1, 1 << 32, api.MaxInt, 1e15, 1e16, 1e17, 1e18} {
		for by := int64(-1); by < 2; by++ {
			l = append(l, about+by, -about+by)
		}
	}
	return l
}

// checkWhole holds Whole of a number against its value.
func checkWhole(t *testing.T, s string, v *big.Rat) {
	t.Helper()
	var want int64
	wanted := v.IsInt() && v.Num().IsInt64() && v.Num().Int64() <= api.MaxInt && v.Num().Int64() >= -api.MaxInt
	if wanted {
		want = v.Num().Int64()
	}
	if n, ok := num.Whole(s); n != want || ok != wanted {
		t.Fatalf("Whole(%q) is %d, %v, want %d, %v", s, n, ok, want, wanted)
	}
}

// checkCmp holds Cmp of a number against its value.
func checkCmp(t *testing.T, s string, v *big.Rat, n int64) {
	t.Helper()
	if got, want := num.Cmp(s, n), v.Cmp(new(big.Rat).SetInt64(n)); got != want {
		t.Fatalf("Cmp(%q, %d) is %d, want %d", s, n, got, want)
	}
}

// checkNone asks that of s, which is no number, nothing is told.
func checkNone(t *testing.T, s string) {
	t.Helper()
	if num.Is(s) {
		t.Fatalf("Is(%q) is true", s)
	}
	if n, ok := num.Whole(s); n != 0 || ok {
		t.Fatalf("Whole(%q) is %d, %v", s, n, ok)
	}
	for _, n := range []int64{math.MinInt64, -1, 0, 1, 5, math.MaxInt64} {
		if got := num.Cmp(s, n); got != 0 {
			t.Fatalf("Cmp(%q, %d) is %d", s, n, got)
		}
	}
}

// P10.1: numbers, told one by one.
func TestIsNumber(t *testing.T) {
	for _, s := range []string{
		"0", "-0", "1", "9", "-1", "-9", "10", "-10", "100", "1234567890", "9007199254740993", "-98765432109876543210",
		"0.0", "-0.0", "0.5", "0.05", "1.5", "-1.50", "10.01", "1.00", "0.000", "120.0340",
		"0e0", "0E0", "-0e0", "1e5", "1E5", "1e+5", "1E+5", "1e-5", "1E-5", "1e0", "1e-0", "1e+0", "1e00", "1e05", "1E+05", "1e-005", "1e10", "1e0000000000000000000000000001",
		"1.5e5", "-1.0e-2", "-10.20E+30", "0.0e-9", "1e999999999999999999999", "-1e-999999999999999999999",
	} {
		if !num.Is(s) {
			t.Errorf("Is(%q) is false", s)
		}
	}
}

// none are texts that are no numbers.
func none() []string {
	return []string{
		"", "-", "+", "--", "--1", "-+1", "+-1", "+1", "+0", "1-", "1+", "-1-", "1-1", "1+1",
		"00", "01", "-00", "-01", "007", "00.5", "01.5", "01e5", "-0123",
		".", "-.", ".5", "-.5", "1.", "-1.", "0.", "1..5", "1.5.", "1.5.2", "1..", "..1", ".e1", "1.e5", "1.E5", ".5e5", "1.-5", "1.+5", "-.e",
		"e", "E", "-e", "e5", "E5", "-e5", "1e", "1E", "1e+", "1e-", "1E+", "1E-", "1.5e", "1.5e-", "1e5e5", "1e5E5", "1ee5", "1eE5", "1e++5", "1e--5", "1e+-5", "1e-+5", "1e5+", "1e5-", "1e5+5",
		"1e5.", "1e5.5", "1e.5", "1e-.5", "1e0.0",
		" ", " 1", "1 ", "\t1", "1\t", "\n1", "1\n", "\r1", "1\r", "- 1", "1 .5", "1. 5", "1 e5", "1e 5", "1e+ 5", "1 2", "1\x00", "\x001", "\x00", "1.\x00", "1e\x00",
		"0x1", "0b1", "0o1", "0X", "1_000", "1,5", "1,000", "1f", "1d", "1L", "a", "a1", "1a", "-a", "1.a", "1ea", "1e5a", "1p5", "0x1p5", "inf", "-Infinity", "NaN", "nan", "null", "true", "\"1\"", "[1]", "1/2", "1:", "1;", "/", ":",
		"\xc2\xb2", "\xd9\xa3", "\xef\xbc\x91", "1\xd9\xa3", "\xe2\x88\x921", "1\xff", "\xff", "1.\x80", "\xef\xbb\xbf1", "1\xc2\xa0", "1e\xe2\x88\x925",
	}
}

// P10.1: what is no number, told one by one.
func TestNoNumber(t *testing.T) {
	for _, s := range none() {
		checkNone(t, s)
	}
}

// P10.1: numbers cut short behind each of their bytes: a 1 marks what is a number yet.
func TestNumbersCutShort(t *testing.T) {
	for _, x := range [][2]string{
		{"-12.50e+678", "001101100111"},
		{"-12.50E-678", "001101100111"},
		{"120.034e05", "01110111011"},
		{"-0.0e0", "0010101"},
		{"0e+0", "01001"},
		{"0.00", "01011"},
		{"7", "01"},
		{"-1000", "001111"},
	} {
		s, want := x[0], x[1]
		for n := range len(s) + 1 {
			if got := num.Is(s[:n]); got != (want[n] == '1') {
				t.Errorf("Is(%q) is %v", s[:n], got)
			}
		}
	}
}

// P10.1: all bytes, ahead, in the place of each byte, between, and behind.
func TestAllBytesInNumbers(t *testing.T) {
	for _, s := range []string{"", "0", "-0", "7", "-12.50e+678", "120.034E-05", "10e5", "0.0"} {
		for b := range 256 {
			other := string([]byte{byte(b)})
			for at := range len(s) + 1 {
				l := []string{s[:at] + other + s[at:]}
				if at < len(s) {
					l = append(l, s[:at]+other+s[at+1:])
				}
				for _, x := range l {
					if got, want := num.Is(x), form.MatchString(x); got != want {
						t.Fatalf("Is(%q) is %v", x, got)
					}
				}
			}
		}
	}
}

// eachText goes through all texts of at most so many of these bytes.
func eachText(of string, most int, see func(string)) {
	row := make([]byte, 0, most)
	var fill func()
	fill = func() {
		see(string(row))
		if len(row) == most {
			return
		}
		for at := range len(of) {
			row = append(row, of[at])
			fill()
			row = row[:len(row)-1]
		}
	}
	fill()
}

// P10.1: all short texts of a number's bytes and of others.
func TestAllShortTexts(t *testing.T) {
	eachText("-+.0 19eEx", 5, func(s string) {
		if form.MatchString(s) {
			if !num.Is(s) {
				t.Fatalf("Is(%q) is false", s)
			}
			return
		}
		checkNone(t, s)
	})
}

// P10.1, P10.2: all short numbers: what their values are.
func TestAllShortNumbers(t *testing.T) {
	eachText("-.015e9", 6, func(s string) {
		if !form.MatchString(s) || len(s)-strings.IndexByte(s+"e", 'e') > 4 {
			return
		}
		if !num.Is(s) {
			t.Fatalf("Is(%q) is false", s)
		}
		v := value(t, s)
		checkWhole(t, s, v)
		for _, n := range []int64{-1000, -51, -10, -9, -5, -1, 0, 1, 5, 9, 10, 11, 50, 99, 100, 101, 999, 5000, math.MaxInt64} {
			checkCmp(t, s, v, n)
		}
	})
}

// P10.1: numbers thrown together: what their values are.
func TestThrownNumbers(t *testing.T) {
	d := dice(88172645463325252)
	l := nears()
	for range 40000 {
		s := d.number()
		if !num.Is(s) {
			t.Fatalf("Is(%q) is false", s)
		}
		v := value(t, s)
		checkWhole(t, s, v)
		checkCmp(t, s, v, l[d.under(len(l))])
		checkCmp(t, s, v, int64(d.next())>>d.under(64))
		// And what is just about it.
		if near := new(big.Int).Quo(v.Num(), v.Denom()); near.IsInt64() {
			for by := int64(-1); by < 2; by++ {
				checkCmp(t, s, v, near.Int64()+by)
			}
		}
	}
}

// P10.1: Whole, told one by one.
func TestWholeTold(t *testing.T) {
	for _, x := range []struct {
		s string
		n int64
	}{
		{"0", 0}, {"-0", 0}, {"0.0", 0}, {"-0.0", 0}, {"0e0", 0}, {"-0.0e9", 0}, {"0.000e-5", 0}, {"-0E+7", 0},
		{"1", 1}, {"-1", -1}, {"7", 7}, {"10", 10}, {"-10", -10}, {"1234567890", 1234567890}, {"-1234567890", -1234567890},
		{"1.0", 1}, {"-1.000", -1}, {"100.00", 100}, {"12.0e0", 12}, {"5.00000000000000000000000000000000000", 5},
		{"1e2", 100}, {"1E+2", 100}, {"1e02", 100}, {"1.5e1", 15}, {"-1.50e1", -15}, {"0.12e2", 12}, {"0.012e3", 12}, {"0.00012e5", 12}, {"12.34e2", 1234}, {"12.34e4", 123400}, {"1.0e1", 10}, {"-2.50e+3", -2500}, {"0.1e1", 1},
		{"100e-2", 1}, {"10e-1", 1}, {"-1200e-2", -12}, {"1200.0e-2", 12}, {"1200.00e-1", 120}, {"10000000000000000000000000e-20", 100000}, {"5000000000000000000000000000000000000e-36", 5},
		{"1e15", 1e15}, {"-1e15", -1e15}, {"0.0000000000000000000000000000003e31", 3}, {"0.0000000000000000000000000000003e32", 30},
		{"1e0", 1}, {"1e-0", 1}, {"1e+0", 1}, {"1e00000000000000000000000000000", 1}, {"1e-00000000000000000000000000000", 1}, {"1e0000000000000000000000000000000000000000002", 100}, {"100e-0000000000000000000000000000000000000000002", 1},
		{"9007199254740991", api.MaxInt}, {"-9007199254740991", -api.MaxInt}, {"9007199254740990", api.MaxInt - 1}, {"-9007199254740990", -api.MaxInt + 1}, {"9007199254740991.000", api.MaxInt}, {"-9007199254740991.0", -api.MaxInt},
		{"9007199254740991e0", api.MaxInt}, {"0.9007199254740991e16", api.MaxInt}, {"-9.007199254740991e15", -api.MaxInt}, {"90071992547409910e-1", api.MaxInt}, {"-900719925474099100000000000000e-14", -api.MaxInt}, {"9007199254740.991e3", api.MaxInt}, {"900719925474099.1e1", api.MaxInt}, {"900719925474099e1", api.MaxInt - 1}, {"-90071992547409900e-1", -api.MaxInt + 1},
		{"0e999999999999999999999999", 0}, {"-0e-999999999999999999999999", 0}, {"0.000e999999999999999999999999", 0}, {"0e9223372036854775807", 0}, {"0e9223372036854775808", 0}, {"0e-18446744073709551616", 0},
	} {
		if n, ok := num.Whole(x.s); n != x.n || !ok {
			t.Errorf("Whole(%q) is %d, %v, want %d", x.s, n, ok, x.n)
		}
	}
}

// P10.1: Whole of numbers that have no such value.
func TestNotWhole(t *testing.T) {
	for _, s := range []string{
		"0.5", "-0.5", "1.5", "-1.5", "1.01", "100.001", "0.1", "1.00000000000000000000000000000000001", "0.00000000000000000000000000000000001", "9007199254740990.5", "9007199254740991.00000000000000000000001",
		"1e-1", "-1e-1", "15e-1", "10e-2", "100e-3", "101e-2", "1.5e0", "1.55e1", "-1.234e2", "0.5e0", "0.05e1", "123456e-5", "1.0e-1", "100000000000000000001e-1", "1000000000000000000010e-2",
		"9007199254740992", "-9007199254740992", "9007199254740993", "-9007199254740993", "9007199254740992.0", "-9007199254740992.00", "9.007199254740992e15", "-0.9007199254740992e16", "90071992547409920e-1", "90071992547409911e-1", "900719925474099200000000000000e-14", "9007199254741000", "900719925474100e1", "9007199254740991e1", "-9007199254740991e1", "90071992547409910", "9999999999999999",
		"1e16", "-1e16", "1e17", "1e18", "1e19", "1e20", "1e21", "1e400", "9223372036854775807", "9223372036854775808", "-9223372036854775808", "18446744073709551615", "18446744073709551616", "18446744073709551617", "-18446744073709551617", "10000000000000000000", "100000000000000000000", "100000000000000000005", "18446744073709551621.0",
		"1e999999999999999999999", "-1e999999999999999999999", "1e-999999999999999999999", "1.5e-999999999999999999999", "-1e-9223372036854775808", "1e9223372036854775807", "1e9223372036854775808", "1e18446744073709551616", "1e-18446744073709551616", "1e4294967296", "1e-4294967296", "100e-4294967298", "1e2147483648", "1e65536", "1e256", "1e-65536", "1e-256",
	} {
		if n, ok := num.Whole(s); n != 0 || ok {
			t.Errorf("Whole(%q) is %d, %v", s, n, ok)
		}
		if !num.Is(s) {
			t.Errorf("Is(%q) is false", s)
		}
	}
}

// P10.1: Whole about the greatest number and about others, written in many ways.
func TestWholeAboutNumbers(t *testing.T) {
	for _, n := range nears() {
		for by := -12; by < 13; by++ {
			s := strconv.FormatInt(n, 10)
			for _, behind := range []string{"", ".0", ".5", ".0000000000000000000001", "e0", "e1", "e-1", "0e-1", "00000e-5", ".10e1", ".0e1", "000.00e-3"} {
				if x := s + behind; form.MatchString(x) {
					checkWhole(t, x, value(t, x))
				}
			}
			x := s + "e" + strconv.Itoa(by)
			checkWhole(t, x, value(t, x))
		}
	}
}

// P10.1: Cmp, told one by one.
func TestCmpTold(t *testing.T) {
	for _, x := range []struct {
		s    string
		n    int64
		want int
	}{
		// Of as many digits, of more and of fewer.
		{"5", 4, 1}, {"5", 5, 0}, {"5", 6, -1}, {"-5", -4, -1}, {"-5", -5, 0}, {"-5", -6, 1},
		{"99", 100, -1}, {"100", 99, 1}, {"-99", -100, 1}, {"-100", -99, -1}, {"123456", 123457, -1}, {"223456", 123457, 1}, {"9", 10, -1}, {"10", 9, 1}, {"1000", 1000, 0},
		{"5", -5, 1}, {"-5", 5, -1}, {"5", -6, 1}, {"-6", 5, -1}, {"1", -100, 1}, {"-100", 1, -1}, {"-2", -1, -1}, {"-1", -2, 1},
		// 0.
		{"0", 0, 0}, {"-0", 0, 0}, {"0.0", 0, 0}, {"-0.000", 0, 0}, {"0e5", 0, 0}, {"-0e-5", 0, 0}, {"0", 5, -1}, {"0", -5, 1}, {"-0", 5, -1}, {"-0", -5, 1}, {"-0.0e9", 1, -1}, {"-0.0e9", -1, 1}, {"1", 0, 1}, {"-1", 0, -1}, {"0.1", 0, 1}, {"-0.1", 0, -1}, {"1e-1", 0, 1}, {"-1e-1", 0, -1},
		{"0", math.MinInt64, 1}, {"0", math.MaxInt64, -1}, {"-0", math.MinInt64, 1}, {"-0", math.MaxInt64, -1},
		// With a point.
		{"1.5", 1, 1}, {"1.5", 2, -1}, {"-1.5", -1, -1}, {"-1.5", -2, 1}, {"0.5", 1, -1}, {"0.99999999999999999999999999999", 1, -1}, {"-0.99999999999999999999999999999", -1, 1}, {"1.0", 1, 0}, {"-1.0", -1, 0}, {"12.000", 12, 0}, {"1.0000000000000000000000000000001", 1, 1}, {"-1.0000000000000000000000000000001", -1, -1}, {"5.4999", 5, 1}, {"0.05", 5, -1}, {"50.5", 505, -1}, {"0.000000000000000000000000000000000001", 0, 1}, {"-0.000000000000000000000000000000000001", 0, -1},
		// With an exponent.
		{"0.1e1", 1, 0}, {"1e2", 100, 0}, {"1e2", 99, 1}, {"1e2", 101, -1}, {"1E+2", 100, 0}, {"-1e2", -100, 0}, {"-1e2", -99, -1}, {"100e-2", 1, 0}, {"100e-3", 0, 1}, {"100e-3", 1, -1}, {"12e0", 12, 0}, {"1.25e1", 12, 1}, {"1.25e1", 13, -1}, {"1.25e2", 125, 0}, {"0.00125e5", 125, 0}, {"0.00125e4", 12, 1}, {"0.00125e4", 13, -1}, {"0.00125e6", 1250, 0}, {"125000e-3", 125, 0}, {"125001e-3", 125, 1}, {"124999e-3", 125, -1}, {"1e18", 1e18, 0}, {"1e18", 1e18 + 1, -1}, {"1e18", 1e18 - 1, 1}, {"10e17", 1e18, 0}, {"0.0001e22", 1e18, 0},
		// Whose difference stands behind many digits.
		{"123456789012345678", 123456789012345677, 1}, {"123456789012345678", 123456789012345678, 0}, {"123456789012345678", 123456789012345679, -1}, {"-123456789012345678", -123456789012345679, 1}, {"9007199254740993", 9007199254740992, 1}, {"9007199254740993", 9007199254740994, -1}, {"9007199254740993", 9007199254740993, 0}, {"123456789012345678.00000000000000000000000000000000000000001", 123456789012345678, 1}, {"123456789012345677.99999999999999999999999999999999999999999", 123456789012345678, -1}, {"0.1234567890123456780000000000001e18", 123456789012345678, 1},
		// The least and the greatest, and about them.
		{"9223372036854775807", math.MaxInt64, 0}, {"9223372036854775806", math.MaxInt64, -1}, {"9223372036854775808", math.MaxInt64, 1}, {"9223372036854775807.5", math.MaxInt64, 1}, {"9223372036854775806.5", math.MaxInt64, -1}, {"9223372036854775807.0", math.MaxInt64, 0}, {"9.223372036854775807e18", math.MaxInt64, 0}, {"9.223372036854775808e18", math.MaxInt64, 1}, {"9223372036854775807", math.MaxInt64 - 1, 1}, {"92233720368547758070e-1", math.MaxInt64, 0}, {"92233720368547758071e-1", math.MaxInt64, 1},
		{"-9223372036854775808", math.MinInt64, 0}, {"-9223372036854775807", math.MinInt64, 1}, {"-9223372036854775809", math.MinInt64, -1}, {"-9223372036854775808.5", math.MinInt64, -1}, {"-9223372036854775807.5", math.MinInt64, 1}, {"-9223372036854775808.000", math.MinInt64, 0}, {"-9.223372036854775808E+18", math.MinInt64, 0}, {"-9223372036854775808", math.MinInt64 + 1, -1}, {"9223372036854775808", math.MinInt64, 1}, {"-9223372036854775807", math.MaxInt64, -1},
		{"10000000000000000000", math.MaxInt64, 1}, {"-10000000000000000000", math.MinInt64, -1}, {"1e19", math.MaxInt64, 1}, {"-1e19", math.MinInt64, -1}, {"1e18", math.MaxInt64, -1}, {"18446744073709551616", 0, 1}, {"18446744073709551617", 1, 1}, {"-18446744073709551617", -1, -1}, {"100000000000000000000", math.MaxInt64, 1}, {"100000000000000000000", 0, 1}, {"-100000000000000000000", 0, -1}, {"100000000000000000005", 5, 1},
		{"1", math.MaxInt64, -1}, {"-1", math.MinInt64, 1}, {"1e400", math.MaxInt64, 1}, {"-1e400", math.MinInt64, -1}, {"1e-400", math.MaxInt64, -1}, {"-1e-400", math.MinInt64, 1},
		// Exponents of many digits.
		{"1e-400", 0, 1}, {"-1e-400", 0, -1}, {"1e-400", 1, -1}, {"-1e-400", -1, 1}, {"1e999999999999999999999", math.MaxInt64, 1}, {"-1e999999999999999999999", math.MinInt64, -1}, {"1e-999999999999999999999", 0, 1}, {"-1e-999999999999999999999", 0, -1}, {"1e-999999999999999999999", 1, -1}, {"-1e-999999999999999999999", -1, 1}, {"1e999999999999999999999", 0, 1}, {"1e999999999999999999999", -1, 1}, {"-1e999999999999999999999", 1, -1},
		{"1e9223372036854775808", 1, 1}, {"1e18446744073709551616", 1, 1}, {"1e-18446744073709551616", 1, -1}, {"1e4294967296", 1, 1}, {"1e-4294967296", 1, -1}, {"0.1e9223372036854775807", 5, 1}, {"0.1e-9223372036854775808", 0, 1}, {"12.5e-9223372036854775807", 0, 1}, {"1e256", 1, 1}, {"1e-256", 1, -1},
		{"0e999999999999999999999", 0, 0}, {"0e-999999999999999999999", 0, 0}, {"-0.00e999999999999999999999", 0, 0}, {"0e999999999999999999999", 1, -1}, {"-0e999999999999999999999", -1, 1}, {"0.0e18446744073709551617", 0, 0},
		{"1e0000000000000000000000000000000000000000000000002", 100, 0}, {"100e-0000000000000000000000000000000000000000000002", 1, 0},
	} {
		if got := num.Cmp(x.s, x.n); got != x.want {
			t.Errorf("Cmp(%q, %d) is %d, want %d", x.s, x.n, got, x.want)
		}
	}
}

// P10.1: Cmp of numbers about others, written in many ways, against all of those.
func TestCmpAboutNumbers(t *testing.T) {
	l := nears()
	for _, about := range l {
		s := strconv.FormatInt(about, 10)
		for _, behind := range []string{"", ".0", ".5", ".00000000000000000000000001", "e0", "e1", "e-1", "0e-1", "9e-1", "0000000000000000000000001e-25", ".0e1", "000.00e-3", "E+18", "e-19"} {
			x := s + behind
			if !form.MatchString(x) {
				continue
			}
			v := value(t, x)
			for _, n := range l {
				checkCmp(t, x, v, n)
			}
		}
	}
}

// P10.2: a whole number's value is held against it as equal; against one more it is less, against one less it is greater.
func TestWholeIsEqual(t *testing.T) {
	d := dice(1181783497276652981)
	for range 40000 {
		s := d.number()
		n, ok := num.Whole(s)
		if !ok {
			continue
		}
		if num.Cmp(s, n) != 0 || num.Cmp(s, n-1) != 1 || num.Cmp(s, n+1) != -1 {
			t.Fatalf("%q is %d, and held against it %d", s, n, num.Cmp(s, n))
		}
	}
	for _, n := range nears() {
		s := strconv.FormatInt(n, 10)
		if num.Cmp(s, n) != 0 {
			t.Errorf("%s is held against itself as %d", s, num.Cmp(s, n))
		}
		got, ok := num.Whole(s)
		if in := -api.MaxInt <= n && n <= api.MaxInt; ok != in || in && got != n {
			t.Errorf("Whole(%q) is %d, %v", s, got, ok)
		}
	}
}

// same asks that two numbers have one value, as far as is told.
func same(t *testing.T, a, b string) {
	t.Helper()
	n, ok := num.Whole(a)
	if m, also := num.Whole(b); n != m || ok != also {
		t.Fatalf("Whole(%q) is %d, %v, Whole(%q) is %d, %v", a, n, ok, b, m, also)
	}
	for _, x := range append(nears(), n-1, n, n+1) {
		if c, d := num.Cmp(a, x), num.Cmp(b, x); c != d {
			t.Fatalf("Cmp(%q, %d) is %d, Cmp(%q, %d) is %d", a, x, c, b, x, d)
		}
	}
}

// pointed writes digits with the last n of them behind a point.
func pointed(digits string, n int) string {
	if n == 0 {
		return digits
	}
	digits = strings.Repeat("0", max(0, n+1-len(digits))) + digits
	return digits[:len(digits)-n] + "." + digits[len(digits)-n:]
}

// P10.2: moved by an exponent and back a number's value stays.
func TestMovedAndBack(t *testing.T) {
	d := dice(4101842887655102017)
	for range 60 {
		// Not 0, behind which no noughts may stand.
		digits := strconv.FormatUint(1+d.next()>>d.under(64), 10)
		for _, sign := range []string{"", "-"} {
			s := sign + digits
			for by := range 40 {
				places := strconv.Itoa(by)
				same(t, s, sign+pointed(digits, by)+"e"+places)
				same(t, s, sign+pointed(digits, by)+"E+"+places)
				same(t, s, s+strings.Repeat("0", by)+"e-"+places)
				same(t, s, s+".0e"+strings.Repeat("0", by+1))
				// From a number with a point, too.
				same(t, sign+pointed(digits, 3), s+"e-3")
				same(t, sign+pointed(digits, 3), sign+pointed(digits, 3+by)+"e"+places)
			}
		}
	}
}

// P10.2: 0 stays, wherever it is moved.
func TestNoughtMoved(t *testing.T) {
	for _, s := range []string{"0", "-0", "0.0", "-0.000"} {
		for _, e := range []string{"e0", "e5", "E-5", "e+19", "e-19", "e400", "e-400", "e99999999999999999999", "e-99999999999999999999"} {
			same(t, "0", s+e)
		}
	}
}

// P10.2: noughts of which there are many are taken away by as great an exponent.
func TestMovedFarAndBack(t *testing.T) {
	for _, many := range []int{100, 255, 256, 4097, 65536, 1 << 20} {
		places := strconv.Itoa(many)
		noughts := strings.Repeat("0", many)
		for _, x := range []struct {
			s    string
			want int64
			ok   bool
		}{
			{"12" + noughts + "e-" + places, 12, true},
			{"-12" + noughts + "." + noughts + "e-" + places, -12, true},
			{"0." + noughts + "34e" + strconv.Itoa(many+2), 34, true},
			{"-0." + noughts + "34e" + strconv.Itoa(many+3), -340, true},
			{"5." + noughts, 5, true},
			{"5e" + noughts + "1", 50, true},
			{"50e-" + noughts + "1", 5, true},
			{"12" + noughts + "e-" + strconv.Itoa(many-20), 0, false},
			{"12" + noughts + "e-" + strconv.Itoa(many+1), 0, false},
			{"0." + noughts + "34e" + strconv.Itoa(many+1), 0, false},
			{"0." + noughts + "34e" + strconv.Itoa(many), 0, false},
			{"5." + noughts + "1", 0, false},
			{"12" + noughts + "1e-" + strconv.Itoa(many+1), 0, false},
			{"12" + noughts, 0, false},
			{"0." + noughts + "1", 0, false},
		} {
			if n, ok := num.Whole(x.s); n != x.want || ok != x.ok {
				t.Errorf("of %d noughts, %.10s.. is %d, %v, want %d, %v", many, x.s, n, ok, x.want, x.ok)
			}
			if x.ok && (num.Cmp(x.s, x.want) != 0 || num.Cmp(x.s, x.want-1) != 1 || num.Cmp(x.s, x.want+1) != -1) {
				t.Errorf("of %d noughts, %.10s.. isn't held as %d", many, x.s, x.want)
			}
		}
	}
}

// P10.1: numbers of very many digits, and texts that would be some but for their last byte.
func TestLongNumbers(t *testing.T) {
	many := 1 << 20
	nines, noughts := strings.Repeat("9", many), strings.Repeat("0", many)
	for _, x := range []struct {
		s    string
		n    int64
		want int
	}{
		{nines, math.MaxInt64, 1}, {"-" + nines, math.MinInt64, -1},
		{"0." + nines, 1, -1}, {"0." + nines, 0, 1}, {"-0." + nines, -1, 1}, {"-0." + nines, 0, -1},
		{"7." + nines, 7, 1}, {"7." + nines, 8, -1},
		{"7." + noughts, 7, 0}, {"7." + noughts + "1", 7, 1}, {"-7." + noughts + "1", -7, -1},
		{"0." + noughts + "1", 0, 1}, {"-0." + noughts + "1", 0, -1}, {"0." + noughts, 0, 0}, {"-0." + noughts, 0, 0},
		{nines + "e-" + strconv.Itoa(many-1), 9, 1}, {nines + "e-" + strconv.Itoa(many-1), 10, -1}, {nines + "e-" + strconv.Itoa(many), 1, -1}, {nines + "e-" + strconv.Itoa(many), 0, 1},
		{"1e" + nines, math.MaxInt64, 1}, {"1e-" + nines, 0, 1}, {"0e" + nines, 0, 0}, {"-0e-" + nines, 0, 0}, {"3e" + noughts, 3, 0}, {"3e-" + noughts, 3, 0},
	} {
		if got := num.Cmp(x.s, x.n); got != x.want {
			t.Errorf("Cmp(%.10s.. of %d bytes, %d) is %d, want %d", x.s, len(x.s), x.n, got, x.want)
		}
		if !num.Is(x.s) {
			t.Errorf("Is(%.10s.. of %d bytes) is false", x.s, len(x.s))
		}
	}
	for _, s := range []string{noughts, "-" + noughts, nines + "x", "0." + nines + ".", "1e" + nines + "e", nines + " ", strings.Repeat("-", many), strings.Repeat(".", many), "1" + strings.Repeat("e5", many), nines + "e", noughts + "." + noughts} {
		if num.Is(s) {
			t.Errorf("Is(%.10s.. of %d bytes) is true", s, len(s))
		}
		if n, ok := num.Whole(s); n != 0 || ok || num.Cmp(s, 0) != 0 || num.Cmp(s, -1) != 0 || num.Cmp(s, 1) != 0 {
			t.Errorf("something is told of %.10s.. of %d bytes", s, len(s))
		}
	}
}

// P10.2: what is told hangs together: the less a number is held against, the greater it is, and the sign turns that round.
func TestHangsTogether(t *testing.T) {
	d := dice(2685821657736338717)
	for range 5000 {
		s := strings.TrimPrefix(d.number(), "-")
		for _, n := range nears() {
			got := num.Cmp(s, n)
			if n > math.MinInt64 && num.Cmp("-"+s, -n) != -got {
				t.Fatalf("Cmp(%q, %d) is %d, but Cmp(%q, %d) is %d", s, n, got, "-"+s, -n, num.Cmp("-"+s, -n))
			}
			if n < math.MaxInt64 && num.Cmp(s, n+1) > got {
				t.Fatalf("Cmp(%q, %d) is %d, but Cmp(%q, %d) is %d", s, n, got, s, n+1, num.Cmp(s, n+1))
			}
			if got != cmp.Compare(got, 0) {
				t.Fatalf("Cmp(%q, %d) is %d", s, n, got)
			}
		}
		n, ok := num.Whole(s)
		if m, also := num.Whole("-" + s); m != -n || also != ok {
			t.Fatalf("Whole(%q) is %d, %v, Whole(%q) is %d, %v", s, n, ok, "-"+s, m, also)
		}
	}
}
