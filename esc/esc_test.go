package esc_test

import (
	"encoding/json"
	"fmt"
	"regexp"
	"slices"
	"strings"
	"testing"
	"unicode/utf8"

	"lacework/api"
	"lacework/esc"
	"lacework/utf"
)

// last is the greatest scalar.
const last = 0x10ffff

// form is what a string is by the chapter's words, of bytes that are a text.
var form = regexp.MustCompile(`\A"([^\x00-\x1f"\\]|\\["\\/bfnrt]|\\u[0-9a-fA-F]{4})*"\z`)

// dice tells numbers that look thrown, the same ones each time.
type dice uint64

func (d *dice) next() uint64 {
	x := uint64(*d)
	x ^= x << 13
	x ^= x >> 7
	x ^= x << 17
	*d = dice(x)
	return x
}

// under tells one of the numbers below n.
func (d *dice) under(n int) int {
	return int(d.next() >> 20 % uint64(n))
}

// scalar tells one that is as likely to be of one length as of another.
func (d *dice) scalar() int {
	for {
		c := d.under([4]int{0x80, 0x800, 0x10000, last + 1}[d.under(4)])
		if isScalar(c) {
			return c
		}
	}
}

// scalars tells fewer than n of them.
func (d *dice) scalars(n int) []int {
	l := make([]int, d.under(n))
	for at := range l {
		l[at] = d.scalar()
	}
	return l
}

// isScalar says it by the words of UTF-8.
func isScalar(c int) bool {
	return c >= 0 && c <= 0xd7ff || c >= 0xe000 && c <= last
}

// textOf tells the text that has those scalars.
func textOf(l []int) string {
	var b strings.Builder
	for _, c := range l {
		b.WriteRune(rune(c))
	}
	return b.String()
}

// marked puts what stands inside a string between its marks.
func marked(inside string) string {
	return `"` + inside + `"`
}

// units writes them as a string has them, with digits of both kinds.
func units(l ...int) string {
	var b strings.Builder
	for at, u := range l {
		b.WriteString(fmt.Sprintf([]string{`\u%04x`, `\u%04X`}[at%2], u))
	}
	return b.String()
}

// pair tells the two units that together are the scalar c.
func pair(c int) []int {
	return []int{0xd800 + (c-0x10000)/0x400, 0xdc00 + (c-0x10000)%0x400}
}

// short tells the sign that stands behind 5c for the scalar c; "", if there is none.
func short(c int) string {
	return map[int]string{0x22: `"`, 0x5c: `\`, 0x2f: `/`, 0x08: "b", 0x0c: "f", 0x0a: "n", 0x0d: "r", 0x09: "t"}[c]
}

// written tells all ways in which a string may write the scalar c, but for the kinds of digits.
func written(c int) []string {
	var l []string
	if c >= 0x20 && c != 0x22 && c != 0x5c {
		l = append(l, string(rune(c)))
	}
	if short(c) != "" {
		l = append(l, `\`+short(c))
	}
	if c >= 0x10000 {
		p := pair(c)
		return append(l, units(p...), units(p[0])+units(p[1]))
	}
	return append(l, units(c), fmt.Sprintf(`\u%04X`, c))
}

// worded tells by the chapter's words how the scalar c is written in a shortest string.
func worded(c int) string {
	switch {
	case c != 0x2f && short(c) != "":
		return `\` + short(c)
	case c < 0x20:
		return fmt.Sprintf(`\u%04x`, c)
	}
	return string(rune(c))
}

// wordedSingle tells by the chapter's words how the scalar c is written in single marks.
func wordedSingle(c int) string {
	switch c {
	case 0x22:
		return `"`
	case 0x27:
		return `\'`
	}
	return worded(c)
}

// known tells the text of s as the library reads it, and whether s is a string.
func known(t *testing.T, s string) (string, bool) {
	t.Helper()
	if !utf8.ValidString(s) || !form.MatchString(s) {
		return "", false
	}
	var text string
	if err := json.Unmarshal([]byte(s), &text); err != nil {
		t.Fatalf("the library doesn't read %q: %v", s, err)
	}
	return text, true
}

// checkNone asks that of s, which is no string, nothing is told.
func checkNone(t *testing.T, s string) {
	t.Helper()
	if esc.Is(s) {
		t.Fatalf("Is(%q) is true", s)
	}
	if text, e := esc.Text(s); text != "" || e != api.ErrForm {
		t.Fatalf("Text(%q) is %q, %d", s, text, e)
	}
	texts := []string{"", s, strings.Trim(s, `"`), strings.ToValidUTF8(s, "\ufffd"), "\ufffd"}
	if len(s) > 1 {
		texts = append(texts, s[1:], s[:len(s)-1], s[1:len(s)-1])
	}
	for _, text := range texts {
		if esc.Equal(s, text) {
			t.Fatalf("Equal(%q, %q) is true", s, text)
		}
	}
}

// checkText asks that s is a string of just that text.
func checkText(t *testing.T, s, text string) {
	t.Helper()
	if !esc.Is(s) {
		t.Fatalf("Is(%q) is false", s)
	}
	if got, e := esc.Text(s); got != text || e != api.OK {
		t.Fatalf("Text(%q) is %q, %d, want %q", s, got, e, text)
	}
	if !esc.Equal(s, text) {
		t.Fatalf("Equal(%q, %q) is false", s, text)
	}
	others := []string{text + "x", "x" + text, text + "\x00", "\x00" + text, text + "\ufffd", text + "\xff", text + "\xc3", "\x80" + text}
	if text != "" {
		others = append(others, "", text[1:], text[:len(text)-1], text[:len(text)-1]+"\xff", "\xff"+text[1:])
	}
	for _, other := range others {
		if other != text && esc.Equal(s, other) {
			t.Fatalf("Equal(%q, %q) is true", s, other)
		}
	}
}

// look holds all that is told of s against what is known of it.
func look(t *testing.T, s string) {
	t.Helper()
	text, ok := known(t, s)
	if !ok {
		checkNone(t, s)
		return
	}
	checkText(t, s, text)
}

// noTexts are bytes that are no text.
func noTexts() []string {
	return []string{
		"\x80", "\xbf", "\xc0", "\xc1", "\xf5", "\xf8", "\xfe", "\xff", "\xc0\x80", "\xc1\xbf", "\xe0\x80\x80", "\xe0\x9f\xbf", "\xf0\x80\x80\x80", "\xf0\x8f\xbf\xbf",
		"\xed\xa0\x80", "\xed\xad\xbf", "\xed\xaf\xbf", "\xed\xb0\x80", "\xed\xbf\xbf", "\xed\xa0\xbd\xed\xb8\x80", "\xf4\x90\x80\x80", "\xf7\xbf\xbf\xbf",
		"\xc3", "\xe2", "\xe2\x82", "\xf0", "\xf0\x9f", "\xf0\x9f\x98", "\xc3\xc3", "\xe2\x82\xe2\x82\xac", "\xe2\x82\xac\x80", "\xc3\xa4\xff", "\xff\xc3\xa4",
	}
}

// eachText goes through all texts of at most so many of these bytes.
func eachText(of string, most int, see func(string)) {
	row := make([]byte, 0, most)
	var fill func()
	fill = func() {
		see(string(row))
		if len(row) == most {
			return
		}
		for at := range len(of) {
			row = append(row, of[at])
			fill()
			row = row[:len(row)-1]
		}
	}
	fill()
}

// P11.1: strings and their texts, told one by one.
func TestTextTold(t *testing.T) {
	for s, text := range map[string]string{
		// The chapter's examples.
		`"a\u20ac\ud83d\ude00"`: "a\u20ac\U0001f600",
		`"\ud800"`:              "\xef\xbf\xbd",
		// Characters that stand as they are.
		`""`: "", `" "`: " ", `"!"`: "!", `"#"`: "#", `"'"`: "'", `"/"`: "/", `"["`: "[", `"]"`: "]", `"abc"`: "abc", `"bfnrtu"`: "bfnrtu",
		"\"\x7f\"": "\x7f", "\"\xc2\x80\"": "\xc2\x80", "\"\xdf\xbf\"": "\xdf\xbf", "\"\xe0\xa0\x80\"": "\xe0\xa0\x80", "\"\xed\x9f\xbf\"": "\xed\x9f\xbf", "\"\xee\x80\x80\"": "\xee\x80\x80",
		"\"\xef\xbf\xbd\"": "\xef\xbf\xbd", "\"\xef\xbf\xbf\"": "\xef\xbf\xbf", "\"\xf0\x90\x80\x80\"": "\xf0\x90\x80\x80", "\"\xf4\x8f\xbf\xbf\"": "\xf4\x8f\xbf\xbf", "\"\xe2\x80\xa8\xe2\x80\xa9\"": "\xe2\x80\xa8\xe2\x80\xa9",
		// Signs.
		`"\""`: "\"", `"\\"`: "\\", `"\/"`: "/", `"\b"`: "\x08", `"\f"`: "\x0c", `"\n"`: "\x0a", `"\r"`: "\x0d", `"\t"`: "\x09",
		`"\"\\\/\b\f\n\r\t"`: "\x22\x5c\x2f\x08\x0c\x0a\x0d\x09", `"\\\\"`: `\\`, `"\\\""`: `\"`, `"\\n"`: `\n`, `"\\u0041"`: `\u0041`, `"a\tb\\\n\"c"`: "a\tb\\\n\"c", `"\"\""`: `""`, `"\\\\\\"`: `\\\`,
		// Units.
		`"\u0000"`: "\x00", `"\u001f"`: "\x1f", `"\u001F"`: "\x1f", `"\u0020"`: " ", `"\u0022"`: "\"", `"\u002f"`: "/", `"\u0041"`: "A", `"\u005c"`: "\\", `"\u005C"`: "\\", `"\u007f"`: "\x7f",
		`"\u0080"`: "\xc2\x80", `"\u07ff"`: "\xdf\xbf", `"\u0800"`: "\xe0\xa0\x80", `"\ud7ff"`: "\xed\x9f\xbf", `"\ue000"`: "\xee\x80\x80", `"\ufffd"`: "\xef\xbf\xbd", `"\uffff"`: "\xef\xbf\xbf", `"\uFFfF"`: "\xef\xbf\xbf",
		`"\u1234"`: "\u1234", `"\u5678"`: "\u5678", `"\u90ab"`: "\u90ab", `"\uCDEF"`: "\ucdef", `"\uabcd"`: "\uabcd", `"\uABcd"`: "\uabcd", `"\uefef"`: "\uefef", `"\u00411"`: "A1", `"\u0041\u0042"`: "AB", `"\u0041B\u0043"`: "ABC", `"\u005cn"`: `\n`, `"\u0022\u0022"`: `""`, `"\u005c\u0022"`: `\"`, `"\u005cu0041"`: `\u0041`,
		// Pairs.
		`"\ud800\udc00"`: "\xf0\x90\x80\x80", `"\ud800\udc01"`: "\xf0\x90\x80\x81", `"\ud801\udc00"`: "\xf0\x90\x90\x80", `"\ud800\udfff"`: "\xf0\x90\x8f\xbf", `"\udbff\udc00"`: "\xf4\x8f\xb0\x80", `"\udbff\udfff"`: "\xf4\x8f\xbf\xbf", `"\uD83D\uDE00"`: "\xf0\x9f\x98\x80", `"\uD83d\udE00"`: "\xf0\x9f\x98\x80", `"\ud83d\ude00\ud83d\ude01"`: "\xf0\x9f\x98\x80\xf0\x9f\x98\x81",
		// Halves alone, and ahead of what they make no pair with.
		`"\udbff"`: "\ufffd", `"\udc00"`: "\ufffd", `"\udfff"`: "\ufffd", `"\ud83d"`: "\ufffd", `"a\ud83d"`: "a\ufffd", `"\ud83da"`: "\ufffda", `"a\ude00"`: "a\ufffd", `"\ude00a"`: "\ufffda",
		`"\ud800\ud800"`: "\ufffd\ufffd", `"\udc00\udc00"`: "\ufffd\ufffd", `"\udc00\ud800"`: "\ufffd\ufffd", `"\ude00\ud83d"`: "\ufffd\ufffd", `"\ud800\udbff"`: "\ufffd\ufffd", `"\ud800\ud7ff"`: "\ufffd\ud7ff", `"\ud800\ue000"`: "\ufffd\ue000", `"\ud800\u0041"`: "\ufffdA", `"\ud800\n"`: "\ufffd\n", `"\ud800\\"`: "\ufffd\\", `"\ud800\""`: "\ufffd\"", "\"\\ud800\xf0\x9f\x98\x80\"": "\ufffd\U0001f600", "\"\\ud83d\xc3\xa4\"": "\ufffd\u00e4",
		`"\ud800\ud83d\ude00"`: "\ufffd\U0001f600", `"\ud800\ud800\ud83d\ude00"`: "\ufffd\ufffd\U0001f600", `"\ud83d\ude00\ude00"`: "\U0001f600\ufffd", `"\ude00\ud83d\ude00"`: "\ufffd\U0001f600", `"\ud83da\ude00"`: "\ufffda\ufffd", `"\ud83d\u0041\ude00"`: "\ufffdA\ufffd", `"\ud83d\\ude00"`: "\ufffd\\ude00", `"\ud83d\t\ude00"`: "\ufffd\t\ufffd", `"\ud7ff\ude00"`: "\ud7ff\ufffd", `"\ue000\ude00"`: "\ue000\ufffd", `"\ud83d\ud83d\ude00\ude00"`: "\ufffd\U0001f600\ufffd",
	} {
		checkText(t, s, text)
	}
}

// P11.1: what is no string, told one by one.
func TestNoString(t *testing.T) {
	for _, s := range []string{
		"", `"`, "a", `"a`, `a"`, `a""`, `""a`, ` ""`, `"" `, "\n\"\"", "\"\"\n", `"""`, `""""`, `"a"b"`, `"a""b"`, `"a"b`, `a"b"`, `'a'`, `''`, `"a'`, `'a"`, "`a`", "\"\"\x00", "\x00\"\"", "\xff\"\"", "\"\"\xff", "\xef\xbb\xbf\"\"", "\xe2\x80\x9ca\xe2\x80\x9d",
		`\`, `\"`, `\"\"`, `"\"`, `"\`, `"a\`, `"a\"`, `"\\\"`, `"\\\`, `"\\"\"`, `"\"a`, `\""`, `"\'"`, `"\a"`, `"\v"`, `"\e"`, `"\0"`, `"\x41"`, `"\ "`, `"\U0041"`, `"\B"`, `"\F"`, `"\N"`, `"\R"`, `"\T"`, `"\1"`, `"\s"`, `"\c"`, `"\u{41}"`, "\"\\\n\"", "\"\\\x00\"", "\"\\\x7f\"", "\"\\\xc3\xa4\"", "\"\\\xff\"", "\"\\\x08\"",
		`"\u"`, `"\u1"`, `"\u12"`, `"\u123"`, `"\u`, `"\u1`, `"\u12`, `"\u123`, `"\u1234`, `"\u12 4"`, `"\u 123"`, `"\u-123"`, `"\u+123"`, `"\u1_23"`, `"\u0x12"`, `"\ug000"`, `"\u0g00"`, `"\u00g0"`, `"\u000g"`, `"\u000G"`, "\"\\u000\xff\"", "\"\\u00\xc3\xa4\"", `"\u\u0041"`, `"\u00\u0041"`, `"\u004\"`, `"\u004"1"`, `"\u004/"`, `"\u004:"`, `"\u004@"`, "\"\\u004`\"",
		`"\ud83d\ude0"`, `"\ud83d\ude0g"`, `"\ud83d\u"`, `"\ud83d\"`, `"\ud83d\x"`, `"\ud83d`, `"\ud83d\ude00`, `"\ud83d\`, `"\ud83d"\ude00"`, "\"\\ud83d\x01\"", "\"\\ud83d\xed\xb8\x80\"", "\"\\ud83d\xff\"",
		"\"\n\"", "\"\t\"", "\"\x00\"", "\"a\x1fb\"", "\"\r\n\"", "\"\xc3\"", "\"\xff\"", "\"\x80\"", "\"a\xe2\x82\"", "\"\xe2\x82\"\xac", "\"\xed\xa0\x80\"", "\"\xed\xa0\xbd\xed\xb8\x80\"", "\"\xc0\xa2\"", "\"\xc0\xa2", "null", "1", "[]", `["a"]`, "{\"a\":1}",
	} {
		if form.MatchString(s) && utf8.ValidString(s) {
			t.Errorf("%q is one", s)
		}
		checkNone(t, s)
	}
}

// P11.1: each byte as a character, behind 5c, and in the place of each byte of strings, between and about them.
func TestAllBytesInStrings(t *testing.T) {
	signs := 0
	for b := range 256 {
		other := string([]byte{byte(b)})
		if is := b >= 0x20 && b != 0x22 && b != 0x5c && b < 0x80; esc.Is(marked(other)) != is {
			t.Errorf("Is(%q) is %v", marked(other), !is)
		}
		is := strings.ContainsRune(`"\/bfnrt`, rune(b))
		if is {
			signs++
		}
		if esc.Is(marked(`\`+other)) != is {
			t.Errorf("Is(%q) is %v", marked(`\`+other), !is)
		}
		for _, s := range []string{"", `"`, `""`, `"a"`, `"\n"`, `"\\"`, `"\u1234"`, `"\uABcd"`, `"\ud83d\ude00"`, `"\ud800\ud83d"`, "\"\xc3\xa4\"", "\"\xe2\x82\xac\"", "\"\xf0\x9f\x98\x80\"", "\"\\ud83d\xe2\x82\xac\\ude00\""} {
			for at := range len(s) + 1 {
				look(t, s[:at]+other+s[at:])
				if at < len(s) {
					look(t, s[:at]+other+s[at+1:])
				}
			}
		}
	}
	if signs != 8 {
		t.Errorf("%d signs were tried", signs)
	}
}

// P11.1: bytes that are no text, inside strings.
func TestNoTextInStrings(t *testing.T) {
	for _, no := range noTexts() {
		for _, ahead := range []string{"", "a", `\n`, `\ud83d`, `\\`, "\xe2\x82\xac"} {
			for _, behind := range []string{"", "a", `\n`, `\ude00`, `\`, "\xe2\x82\xac"} {
				checkNone(t, marked(ahead+no+behind))
			}
		}
	}
}

// P11.1: strings cut short behind each of their bytes.
func TestStringsCutShort(t *testing.T) {
	for _, s := range []string{
		`"a\u20ac\ud83d\ude00"`, `"\"\\\/\b\f\n\r\t"`, `"\ud800\ud83d\ude00\udc00"`, "\"\x7f\xc3\xa4\xe2\x82\xac\xf0\x9f\x98\x80\"", `"\u0022\u005c"`, `" '/ "`, `""`, `"\\\\\\\\"`,
	} {
		if !esc.Is(s) {
			t.Errorf("Is(%q) is false", s)
		}
		for n := range len(s) {
			checkNone(t, s[:n])
			// What is left ends with a sign 22, but doesn't begin with one.
			if s[n] != '"' {
				checkNone(t, s[n:])
			}
		}
	}
}

// P11.1: all short bytes of a string's and of others.
func TestAllShortStrings(t *testing.T) {
	eachText("\"\\un/'a\x1f\x7f\xc3\xa4", 5, func(s string) {
		look(t, s)
		if len(s) < 5 {
			look(t, marked(s))
		}
	})
}

// P11.1: u with all bytes about the digits', by fours.
func TestAllDigits(t *testing.T) {
	eachText("/09:@AFG`afg", 4, func(s string) {
		look(t, marked(`\u`+s))
		look(t, marked(`\u`+s+"0"))
	})
	for b := range 256 {
		for at := range 4 {
			digits := []byte("0000")
			digits[at] = byte(b)
			look(t, marked(`\u`+string(digits)))
		}
	}
}

// P11.1: each unit, with digits of both kinds, alone.
func TestEachUnit(t *testing.T) {
	for u := range 0x10000 {
		text := "\ufffd"
		if isScalar(u) {
			text = string(rune(u))
		}
		for _, s := range []string{fmt.Sprintf(`"\u%04x"`, u), fmt.Sprintf(`"\u%04X"`, u)} {
			if got, e := esc.Text(s); got != text || e != api.OK || !esc.Equal(s, text) || !esc.Is(s) {
				t.Fatalf("Text(%q) is %q, %d, want %q", s, got, e, text)
			}
		}
	}
}

// P11.1: units at the edges, by threes, with and without a character between.
func TestUnitsAtEdges(t *testing.T) {
	edges := []int{0x0000, 0x001f, 0x0020, 0x0022, 0x005c, 0x007f, 0x0080, 0x07ff, 0x0800, 0xd7ff, 0xd800, 0xd801, 0xdbff, 0xdc00, 0xdc01, 0xdfff, 0xe000, 0xfffd, 0xffff}
	for _, a := range edges {
		for _, b := range edges {
			look(t, marked(units(a, b)))
			for _, between := range []string{"a", `\n`, `\"`, `\\`, "\u20ac", "\U0001f600"} {
				look(t, marked(units(a)+between+units(b)))
			}
			for _, c := range edges {
				look(t, marked(units(a, b, c)))
			}
		}
	}
}

// P11.1: each pair makes its scalar.
func TestEachPair(t *testing.T) {
	c := 0x10000
	for a := 0xd800; a <= 0xdbff; a++ {
		for b := 0xdc00; b <= 0xdfff; b++ {
			s := string([]byte{'"', '\\', 'u', 'd', hex(a >> 8), hex(a >> 4), hex(a), '\\', 'u', 'D', hex(b >> 8), hex(b >> 4), hex(b), '"'})
			if !esc.Equal(s, string(rune(c))) {
				text, e := esc.Text(s)
				t.Fatalf("Text(%q) is %q, %d, want %x", s, text, e, c)
			}
			c++
		}
	}
	if c != last+1 {
		t.Errorf("the pairs end ahead of %x", c)
	}
}

// hex tells the digit of the lowest four bits.
func hex(n int) byte {
	return "0123456789abcdef"[n&15]
}

// P11.1: strings thrown together, then cut, or with bytes put in, left out and changed.
func TestThrownStrings(t *testing.T) {
	d := dice(88172645463325252)
	for range 4000 {
		var b, text strings.Builder
		for range d.under(8) {
			if d.under(4) == 0 {
				// A half, ahead of what makes no pair with it.
				b.WriteString(units(0xdc00+d.under(0x400)) + "z")
				text.WriteString("\ufffdz")
				continue
			}
			c := d.scalar()
			ways := written(c)
			b.WriteString(ways[d.under(len(ways))])
			text.WriteRune(rune(c))
		}
		s := marked(b.String())
		checkText(t, s, text.String())
		look(t, s)
		at := d.under(len(s))
		other := string([]byte{"\"\\u/nd8cDC0\x1f\x7f\x80\xc3\xff"[d.under(16)]})
		look(t, s[:at])
		look(t, s[:at]+other+s[at:])
		look(t, s[:at]+s[at+1:])
		look(t, s[:at]+other+s[at+1:])
	}
}

// P11.1: Equal, told one by one.
func TestEqualTold(t *testing.T) {
	for _, x := range []struct {
		s, text string
		want    bool
	}{
		// Equal ones, written otherwise.
		{`""`, "", true}, {`"a"`, "a", true}, {`"\u0061"`, "a", true}, {`"/"`, "/", true}, {`"\/"`, "/", true}, {`"\u002f"`, "/", true}, {`"\u002F"`, "/", true}, {`"\n"`, "\n", true}, {`"\u000a"`, "\n", true}, {`"\u000A"`, "\n", true}, {`"\""`, `"`, true}, {`"\u0022"`, `"`, true}, {`"\\"`, `\`, true}, {`"\u005c"`, `\`, true}, {"\"\u20ac\"", "\u20ac", true}, {`"\u20ac"`, "\u20ac", true}, {`"\u20AC"`, "\u20ac", true}, {"\"\U0001f600\"", "\U0001f600", true}, {`"\ud83d\ude00"`, "\U0001f600", true}, {`"\uD83D\uDE00"`, "\U0001f600", true}, {`"\u0000"`, "\x00", true}, {`"a\u0062c"`, "abc", true},
		// Units alone are fffd, and not what else their bytes would be.
		{`"\ud800"`, "\ufffd", true}, {`"\udfff"`, "\ufffd", true}, {`"\ufffd"`, "\ufffd", true}, {"\"\ufffd\"", "\ufffd", true}, {`"\ud800\ud800"`, "\ufffd\ufffd", true}, {`"\ud800\ufffd"`, "\ufffd\ufffd", true}, {`"\ud83d\ude00"`, "\ufffd\ufffd", false}, {`"\ud800\ud800"`, "\ufffd", false}, {`"\ud800"`, "\ufffd\ufffd", false}, {`"\ud800"`, "\xed\xa0\x80", false}, {`"\ud800"`, "\xff", false}, {`"\ud800"`, "\xef\xbf", false}, {`"\ud83d\ude00"`, "\xed\xa0\xbd\xed\xb8\x80", false}, {`"\ud800"`, "", false}, {`"\ud800"`, "?", false},
		// What is no text.
		{`"\ufffd"`, "\xff", false}, {"\"\ufffd\"", "\xff", false}, {"\"\ufffd\"", "\xc3", false}, {`"a\ufffd"`, "a\xff", false}, {`""`, "\xff", false}, {`"a"`, "a\xff", false}, {`"a"`, "\xffa", false}, {"\"\u20ac\"", "\xe2\x82", false}, {"\"\u20ac\"", "\x82\xac", false}, {`"\u0000"`, "\xc0\x80", false}, {`"/"`, "\xc0\xaf", false}, {`"\u0000"`, "\xff", false}, {`"\u00ff"`, "\xff", false}, {`"\u0080"`, "\x80", false},
		// Texts of which one begins the other.
		{`""`, "a", false}, {`"a"`, "", false}, {`"ab"`, "a", false}, {`"a"`, "ab", false}, {`"abc"`, "bc", false}, {`"bc"`, "abc", false}, {`"a\u0000"`, "a", false}, {`"a"`, "a\x00", false}, {`""`, "\x00", false}, {`"\u0000"`, "", false}, {`"\u20ac"`, "\u20ac\u20ac", false}, {`"\u20ac\u20ac"`, "\u20ac", false},
		// Others.
		{`"a"`, "b", false}, {`"a"`, "A", false}, {`"a\u0062c"`, "aBc", false}, {`"ab"`, "ba", false}, {`"\n"`, `\n`, false}, {`"\n"`, "n", false}, {`"\u0061"`, `\u0061`, false}, {`"a"`, `"a"`, false}, {`"\"a\""`, `"a"`, true}, {"\"\u00e9\"", "e\u0301", false}, {`"\u20ac"`, "\u20ad", false}, {`"\ud83d\ude00"`, "\U0001f601", false}, {`"\ud83d\ude00"`, "\uf600", false}, {`" "`, "", false}, {`" a"`, "a", false},
		// What is no string, of whatever text.
		{"", "", false}, {`"`, "", false}, {`"`, `"`, false}, {"a", "a", false}, {`"a`, "a", false}, {`a"`, "a", false}, {`"a"b`, "a", false}, {`b"a"`, "a", false}, {`"a"b"`, `a"b`, false}, {`""x`, "", false}, {`x""`, "", false}, {`"a\"`, `a"`, false}, {`"a\"`, "a", false}, {`"a\"`, `a\`, false}, {`"\x"`, "x", false}, {`"\x"`, `\x`, false}, {"\"\n\"", "\n", false}, {"\"\xff\"", "\xff", false}, {"\"\xff\"", "\ufffd", false}, {`"\u00"`, "", false}, {`"\u00"`, "\x00", false}, {`"ab\"`, "ab", false}, {"\"ab\x00\"", "ab", false}, {"\"ab\xc3\"", "ab", false}, {`"ab\q"`, "ab", false}, {`'a'`, "a", false}, {"\xff", "\xff", false}, {"\xff", "", false},
	} {
		if got := esc.Equal(x.s, x.text); got != x.want {
			t.Errorf("Equal(%q, %q) is %v", x.s, x.text, got)
		}
	}
}

// P11.1: Equal of texts thrown together, one of which is the other one but for a scalar.
func TestEqualThrown(t *testing.T) {
	d := dice(1181783497276652981)
	for range 20000 {
		l := d.scalars(8)
		s, e := esc.Quote(textOf(l))
		if e != api.OK || !esc.Equal(s, textOf(l)) {
			t.Fatalf("%q isn't equal to its own text", s)
		}
		other := slices.Clone(l)
		switch at := d.under(len(l) + 1); {
		case at == len(l) || d.under(3) == 0:
			other = slices.Insert(other, at, d.scalar())
		case d.under(2) == 0:
			other = slices.Delete(other, at, at+1)
		default:
			other[at] = d.scalar()
		}
		if slices.Equal(l, other) {
			continue
		}
		if esc.Equal(s, textOf(other)) {
			t.Fatalf("Equal(%q, %q) is true", s, textOf(other))
		}
	}
}

// P11.2: Quote and Single, told one by one.
func TestWrittenTold(t *testing.T) {
	for _, x := range []struct{ text, quoted, single string }{
		{"", `""`, `''`},
		{"abc", `"abc"`, `'abc'`},
		{" ", `" "`, `' '`},
		{"\"", `"\""`, `'"'`},
		{"'", `"'"`, `'\''`},
		{"\\", `"\\"`, `'\\'`},
		{"/", `"/"`, `'/'`},
		{"\x08\x0c\x0a\x0d\x09", `"\b\f\n\r\t"`, `'\b\f\n\r\t'`},
		{"\x00\x01\x07\x0b\x0e\x0f\x10\x1a\x1b\x1f", `"\u0000\u0001\u0007\u000b\u000e\u000f\u0010\u001a\u001b\u001f"`, `'\u0000\u0001\u0007\u000b\u000e\u000f\u0010\u001a\u001b\u001f'`},
		{"\x7f", "\"\x7f\"", "'\x7f'"},
		{"\xc2\x80\xc3\xa4\xdf\xbf", "\"\xc2\x80\xc3\xa4\xdf\xbf\"", "'\xc2\x80\xc3\xa4\xdf\xbf'"},
		{"\xe0\xa0\x80\xe2\x82\xac\xe2\x80\xa8\xe2\x80\xa9\xef\xbf\xbd", "\"\xe0\xa0\x80\xe2\x82\xac\xe2\x80\xa8\xe2\x80\xa9\xef\xbf\xbd\"", "'\xe0\xa0\x80\xe2\x82\xac\xe2\x80\xa8\xe2\x80\xa9\xef\xbf\xbd'"},
		{"\xf0\x90\x80\x80\xf0\x9f\x98\x80\xf4\x8f\xbf\xbf", "\"\xf0\x90\x80\x80\xf0\x9f\x98\x80\xf4\x8f\xbf\xbf\"", "'\xf0\x90\x80\x80\xf0\x9f\x98\x80\xf4\x8f\xbf\xbf'"},
		{`"a" 'b' \c/ <&>`, `"\"a\" 'b' \\c/ <&>"`, `'"a" \'b\' \\c/ <&>'`},
		{`\n\u0041\'`, `"\\n\\u0041\\'"`, `'\\n\\u0041\\\''`},
		{`""`, `"\"\""`, `'""'`},
		{`''`, `"''"`, `'\'\''`},
		{"a\nb\tc\u20ac", "\"a\\nb\\tc\u20ac\"", "'a\\nb\\tc\u20ac'"},
	} {
		if got, e := esc.Quote(x.text); got != x.quoted || e != api.OK {
			t.Errorf("Quote(%q) is %s, %d, want %s", x.text, got, e, x.quoted)
		}
		if got, e := esc.Single(x.text); got != x.single || e != api.OK {
			t.Errorf("Single(%q) is %s, %d, want %s", x.text, got, e, x.single)
		}
	}
}

// P11.2: bytes that are no text.
func TestNoTextWritten(t *testing.T) {
	for _, no := range noTexts() {
		for _, ahead := range []string{"", "a", "'", `"`, `\`, "\x00", "\xe2\x82\xac"} {
			for _, behind := range []string{"", "a", "'", `"`, `\`, "\x00", "\xe2\x82\xac"} {
				text := ahead + no + behind
				if got, e := esc.Quote(text); got != "" || e != api.ErrForm {
					t.Fatalf("Quote(%q) is %q, %d", text, got, e)
				}
				if got, e := esc.Single(text); got != "" || e != api.ErrForm {
					t.Fatalf("Single(%q) is %q, %d", text, got, e)
				}
			}
		}
	}
}

// checkWritten holds Quote and Single of a text of those scalars against the chapter's words.
func checkWritten(t *testing.T, l []int) {
	t.Helper()
	var quoted, single strings.Builder
	for _, c := range l {
		quoted.WriteString(worded(c))
		single.WriteString(wordedSingle(c))
	}
	text := textOf(l)
	if got, e := esc.Quote(text); got != `"`+quoted.String()+`"` || e != api.OK {
		t.Fatalf("Quote(%q) is %s, %d", text, got, e)
	}
	if got, e := esc.Single(text); got != "'"+single.String()+"'" || e != api.OK {
		t.Fatalf("Single(%q) is %s, %d", text, got, e)
	}
}

// P11.2: Quote and Single of each scalar below 200 by twos, and of others thrown together.
func TestWrittenByWords(t *testing.T) {
	checkWritten(t, nil)
	for a := range 0x200 {
		checkWritten(t, []int{a})
		for b := range 0x200 {
			checkWritten(t, []int{a, b})
		}
	}
	d := dice(4101842887655102017)
	for range 20000 {
		checkWritten(t, d.scalars(12))
	}
}

// P11.2: Quote and Single of all short bytes: of no text ErrForm, else what is written says them.
func TestAllShortBytesWritten(t *testing.T) {
	eachText("\x00\x1f\"'\\/u\x7f\x80\xbf\xc2\xe2\xac", 4, func(s string) {
		quoted, e := esc.Quote(s)
		single, f := esc.Single(s)
		if !utf8.ValidString(s) {
			if quoted != "" || e != api.ErrForm || single != "" || f != api.ErrForm {
				t.Fatalf("of %q, which is no text, something is told", s)
			}
			return
		}
		checkWritten(t, scalarsOf(s))
	})
}

// scalarsOf tells the scalars of a text.
func scalarsOf(text string) []int {
	var l []int
	for _, c := range text {
		l = append(l, int(c))
	}
	return l
}

// P11.2, P11.3: each scalar is written as the words say, and is the text of all that may write it, none of which is shorter.
func TestEachScalarWritten(t *testing.T) {
	for c := range last + 1 {
		if !isScalar(c) {
			continue
		}
		text := utf.Put(c)
		quoted, e := esc.Quote(text)
		if e != api.OK || quoted != `"`+worded(c)+`"` {
			t.Fatalf("Quote of %x is %s, %d", c, quoted, e)
		}
		if single, e := esc.Single(text); e != api.OK || single != "'"+wordedSingle(c)+"'" {
			t.Fatalf("Single of %x is %s, %d", c, single, e)
		}
		if back, e := esc.Text(quoted); back != text || e != api.OK {
			t.Fatalf("of %x %q comes again, %d", c, back, e)
		}
		// From 800 on all scalars of one length have the same ways: some of them tell enough.
		if c >= 0x800 && c%61 != 0 {
			continue
		}
		for _, way := range written(c) {
			checkText(t, marked(way), text)
			if len(marked(way)) < len(quoted) {
				t.Fatalf("%q is shorter than %q", marked(way), quoted)
			}
		}
	}
}

// P11.3: a text is that of its shortest string, which is that of itself.
func TestTextComesAgain(t *testing.T) {
	d := dice(2685821657736338717)
	texts := []string{"", "\"", "\\", "'", "\x00", strings.Repeat("\\", 1000), strings.Repeat("\"", 999), strings.Repeat("\x01", 500), strings.Repeat("\u20ac", 500), strings.Repeat("\ufffd", 500), strings.Repeat("\U0001f600", 500)}
	for range 20000 {
		texts = append(texts, textOf(d.scalars(12)))
	}
	for _, text := range texts {
		s, e := esc.Quote(text)
		if e != api.OK || !esc.Is(s) {
			t.Fatalf("Quote(%q) is %q, %d", text, s, e)
		}
		back, e := esc.Text(s)
		if back != text || e != api.OK || !esc.Equal(s, text) {
			t.Fatalf("Text(%q) is %q, %d, want %q", s, back, e, text)
		}
		if again, e := esc.Quote(back); again != s || e != api.OK {
			t.Fatalf("of %q %q comes again, %d", s, again, e)
		}
	}
}

// P11.3: of all short strings, none is shorter than the shortest one of its text.
func TestNoneIsShorter(t *testing.T) {
	seen := 0
	eachText("\\\"un0/af8dc", 6, func(inside string) {
		s := marked(inside)
		text, e := esc.Text(s)
		if e != api.OK {
			return
		}
		seen++
		shortest, e := esc.Quote(text)
		if e != api.OK || len(shortest) > len(s) {
			t.Fatalf("Quote(%q) is %q, %d, but %q is shorter", text, shortest, e, s)
		}
		if back, e := esc.Text(shortest); back != text || e != api.OK {
			t.Fatalf("Text(%q) is %q, %d, want %q", shortest, back, e, text)
		}
	})
	if seen < 1000 {
		t.Errorf("%d strings alone were seen", seen)
	}
}

// P11.3: strings of one text, each scalar in each of its ways: no one is shorter than the shortest.
func TestEachWayOfTexts(t *testing.T) {
	for _, l := range [][]int{{0x22, 0x5c, 0x2f, 0x0a}, {0x01, 0x1f, 0x20, 0x7f}, {'a', 0x27, 0x08, 0xfffd}, {0x20ac, 0x1f600, 0x10ffff, 0x80}, {0x0c, 0x0d, 0x09, 0x00}, {0xd7ff, 0xe000, 0x10000, 0xffff}} {
		text := textOf(l)
		shortest, e := esc.Quote(text)
		if e != api.OK {
			t.Fatalf("Quote(%q) is an error, %d", text, e)
		}
		insides := []string{""}
		for _, c := range l {
			var longer []string
			for _, s := range insides {
				for _, way := range written(c) {
					longer = append(longer, s+way)
				}
			}
			insides = longer
		}
		met := false
		for _, inside := range insides {
			s := marked(inside)
			checkText(t, s, text)
			if len(s) < len(shortest) {
				t.Fatalf("%q is shorter than %q", s, shortest)
			}
			met = met || s == shortest
		}
		if !met {
			t.Errorf("%q is none of the %d strings of its text", shortest, len(insides))
		}
	}
}

// P11.1, P11.2: long strings and texts, and bytes that are none but for their last ones.
func TestLong(t *testing.T) {
	many := 1 << 16
	for _, x := range []struct{ inside, text string }{
		{"a", "a"}, {`\n`, "\n"}, {`\\`, `\`}, {`\"`, `"`}, {`\u0041`, "A"}, {`\ud83d\ude00`, "\U0001f600"}, {`\ud83d`, "\ufffd"}, {`\ude00`, "\ufffd"}, {"\U0001f600", "\U0001f600"}, {`\u0000`, "\x00"},
	} {
		inside, text := strings.Repeat(x.inside, many), strings.Repeat(x.text, many)
		s := marked(inside)
		if got, e := esc.Text(s); got != text || e != api.OK || !esc.Is(s) || !esc.Equal(s, text) {
			t.Errorf("the string of many %s isn't read", x.inside)
		}
		if esc.Equal(s, text+"a") || esc.Equal(s, text[:len(text)-1]) || esc.Equal(s, "") {
			t.Errorf("the string of many %s is equal to another text", x.inside)
		}
		for _, no := range []string{s[:len(s)-1], s[1:], s + `"`, s + "a", "a" + s, marked(inside + `\`), marked(inside + "\n"), marked(inside + "\xff"), marked(inside + `"`), marked(inside + `\u004`)} {
			if got, e := esc.Text(no); got != "" || e != api.ErrForm || esc.Is(no) || esc.Equal(no, text) {
				t.Errorf("something is told of bytes that are no string, behind many %s", x.inside)
			}
		}
		quoted, e := esc.Quote(text)
		if e != api.OK || !esc.Equal(quoted, text) {
			t.Errorf("the text of many %q isn't written", x.text)
		}
		if got, e := esc.Quote(text + "\xff"); got != "" || e != api.ErrForm {
			t.Errorf("behind many %q something is written that is no text", x.text)
		}
	}
}
