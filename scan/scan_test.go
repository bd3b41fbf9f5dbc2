package scan_test

import (
	"bytes"
	"encoding/json"
	"fmt"
	"math"
	"slices"
	"sort"
	"strings"
	"testing"
	"unicode/utf8"

	"lacework/api"
	"lacework/scan"
)

// blanks are those that the chapter names.
const blanks = " \t\n\r"

// dice tells numbers that look thrown, the same ones each time.
type dice uint64

func (d *dice) next() uint64 {
	x := uint64(*d)
	x ^= x << 13
	x ^= x >> 7
	x ^= x << 17
	*d = dice(x)
	return x
}

// under tells one of the numbers below n.
func (d *dice) under(n int) int {
	return int(d.next() >> 20 % uint64(n))
}

// one tells one of these.
func (d *dice) one(l ...string) string {
	return l[d.under(len(l))]
}

// blank tells a few blanks, mostly none.
func (d *dice) blank() string {
	if d.under(3) > 0 {
		return ""
	}
	var b strings.Builder
	for range d.under(4) {
		b.WriteByte(blanks[d.under(len(blanks))])
	}
	return b.String()
}

// word tells a string.
func (d *dice) word() string {
	var b strings.Builder
	for range d.under(4) {
		b.WriteString(d.one("a", "[", "]", "{", "}", ",", ":", " ", "0", "\x7f", "\u00e4", "\u20ac", "\U0001f600", `\"`, `\\`, `\/`, `\b`, `\f`, `\n`, `\r`, `\t`, `\u0000`, `\u20AC`, `\ud83d\ude00`, `\ud800`))
	}
	return `"` + b.String() + `"`
}

// number tells one.
func (d *dice) number() string {
	return d.one("", "-") + d.one("0", "1", "10", "907") + d.one("", "", ".0", ".50", ".123") + d.one("", "", "e0", "E00", "e+1", "E-12")
}

// value tells a value that nests at most so deep, and how deep it nests.
func (d *dice) value(most int) (string, int) {
	kind := d.under(8)
	if most == 0 || kind < 3 {
		return d.one("null", "true", "false", d.word(), d.number()), 0
	}
	var l []string
	deepest := 0
	for range d.under(4) {
		s, deep := d.value(most - 1)
		deepest = max(deepest, deep)
		s = d.blank() + s + d.blank()
		if kind < 6 {
			s = d.blank() + d.word() + d.blank() + ":" + s
		}
		l = append(l, s)
	}
	inside := strings.Join(l, ",")
	if len(l) == 0 {
		inside = d.blank()
	}
	if kind < 6 {
		return "{" + inside + "}", deepest + 1
	}
	return "[" + inside + "]", deepest + 1
}

// text tells a JSON text, and how deep it nests.
func (d *dice) text(most int) (string, int) {
	s, deep := d.value(most)
	return d.blank() + s + d.blank(), deep
}

// thrown tells many of them.
func thrown(seed uint64, many int) []string {
	d := dice(seed)
	l := make([]string, many)
	for at := range l {
		l[at], _ = d.text(d.under(6))
	}
	return l
}

// known tells whether the library reads s as a JSON text.
func known(s string) bool {
	return utf8.ValidString(s) && json.Valid([]byte(s))
}

// nests tells how deep the JSON text s nests, by the library's tokens.
func nests(t *testing.T, s string) int {
	t.Helper()
	d := json.NewDecoder(strings.NewReader(s))
	d.UseNumber()
	deep, deepest := 0, 0
	for {
		token, err := d.Token()
		if err != nil {
			return deepest
		}
		switch token {
		case json.Delim('['), json.Delim('{'):
			deep++
		case json.Delim(']'), json.Delim('}'):
			deep--
		}
		deepest = max(deepest, deep)
	}
}

// tails are what may be left of a value at any place of it, and what else its member needs then.
var tails = func() []string {
	var l []string
	for _, s := range []string{`"`, `n"`, `0"`, `00"`, `000"`, `0000"`, "\x80\"", "\x80\x80\"", "\x80\x80\x80\"", "\x90\x80\x80\"", "\xa0\x80\"", `""`} {
		l = append(l, s, s+":0")
	}
	l = append(l, "", "0", ":0")
	for _, s := range []string{"null", "true", "false"} {
		for n := range len(s) {
			l = append(l, s[n:])
		}
	}
	return l
}()

// closers are the brackets that close what s leaves open, if it is the beginning of a JSON text.
func closers(s string) string {
	var open []byte
	inside := false
	for at := 0; at < len(s); at++ {
		c := s[at]
		switch {
		case inside && c == '\\':
			at++
		case c == '"':
			inside = !inside
		case inside:
		case c == '[':
			open = append(open, ']')
		case c == '{':
			open = append(open, '}')
		case (c == ']' || c == '}') && len(open) > 0:
			open = open[:len(open)-1]
		}
	}
	slices.Reverse(open)
	return string(open)
}

// asked keeps what alive has told: beginnings are asked for again and again.
var asked = map[string]bool{}

// alive tells whether some JSON text begins with s: one that the library reads, of s, a tail and the brackets that close.
func alive(s string) bool {
	if is, ok := asked[s]; ok {
		return is
	}
	is := slices.ContainsFunc(tails, func(tail string) bool {
		return known(s + tail + closers(s+tail))
	})
	asked[s] = is
	return is
}

// longest tells how long the longest beginning of s is with which some JSON text begins; each beginning of it is one, too.
func longest(s string) int {
	return sort.Search(len(s), func(n int) bool { return !alive(s[:n+1]) })
}

// check asks for a verdict.
func check(t *testing.T, s string, deep, verdict, at int) {
	t.Helper()
	v, a, e := scan.Validate(s, deep)
	if v != verdict || a != at || e != api.OK {
		if len(s) > 300 {
			s = s[:300] + " .."
		}
		t.Fatalf("Validate(%q, %d) is %d, %d, %d, want %d, %d, 0", s, deep, v, a, e, verdict, at)
	}
}

// checkText asks that s is a JSON text that nests so deep, whatever is asked for.
func checkText(t *testing.T, s string, nested int) {
	t.Helper()
	for _, deep := range []int{1, 2, nested - 2, nested - 1, nested, nested + 1, 2 * nested, api.MaxDeep - 1, api.MaxDeep} {
		switch {
		case deep < 1 || deep > api.MaxDeep:
		case nested <= deep:
			check(t, s, deep, scan.Accept, nested)
		default:
			check(t, s, deep, scan.TooDeep, nested)
		}
	}
}

// checkNone asks that s is rejected at that place, however deep it may nest.
func checkNone(t *testing.T, s string, at int) {
	t.Helper()
	for _, deep := range []int{1, 2, 3, 64, api.MaxDeep} {
		check(t, s, deep, scan.Reject, at)
	}
}

// look holds the verdict on s against what the library reads.
func look(t *testing.T, s string) {
	t.Helper()
	if known(s) {
		checkText(t, s, nests(t, s))
		return
	}
	checkNone(t, s, longest(s))
}

// lookBehind holds the verdict on s against what the library reads, if all but its last byte is alive.
func lookBehind(t *testing.T, s string) {
	t.Helper()
	switch {
	case known(s):
		checkText(t, s, nests(t, s))
	case alive(s):
		checkNone(t, s, len(s))
	default:
		checkNone(t, s, len(s)-1)
	}
}

// eachBehind looks at s with each byte right behind, which s, that is alive, may go on with or not.
func eachBehind(t *testing.T, s string) {
	t.Helper()
	for b := range 256 {
		lookBehind(t, s+string([]byte{byte(b)}))
	}
}

// eachText goes through all texts of at most so many of these bytes.
func eachText(of string, most int, see func(string)) {
	row := make([]byte, 0, most)
	var fill func()
	fill = func() {
		see(string(row))
		if len(row) == most {
			return
		}
		for at := range len(of) {
			row = append(row, of[at])
			fill()
			row = row[:len(row)-1]
		}
	}
	fill()
}

// P12.1: the verdicts' numbers.
func TestVerdictNumbers(t *testing.T) {
	if got, want := [4]int{scan.Accept, scan.TooDeep, scan.Reject, scan.TooLarge}, [4]int{1, 2, 3, 4}; got != want {
		t.Errorf("the verdicts are %d, want %d", got, want)
	}
}

// P12.1: JSON texts, told one by one.
func TestAcceptTold(t *testing.T) {
	for s, deep := range map[string]int{
		// The chapter's example.
		"[1,2]": 1,
		// Values that are neither array nor object.
		"null": 0, "true": 0, "false": 0, `""`: 0, `"a"`: 0, "0": 0, "5": 0, "-1": 0, "1e5": 0, `"[[["`: 0, `"\"[["`: 0, `"{\"a\":[1]}"`: 0, `"\\"`: 0,
		// Blanks about them.
		" null": 0, "null ": 0, "\t\n\r true \r\n\t": 0, "\n0": 0, "0\n": 0, "\r\"\"\r": 0, "    5    ": 0,
		// Numbers.
		"-0": 0, "10": 0, "-10": 0, "9876543210": 0, "0.0": 0, "-0.0": 0, "0.00100": 0, "1.5": 0, "0e0": 0, "0E0": 0, "0e+0": 0, "0e-0": 0, "0E+00": 0, "0E-00": 0, "1e400": 0, "1.0e-007": 0, "-12.34E+56": 0,
		// Strings.
		`"\"\\\/\b\f\n\r\t"`: 0, `"\u0000\u20AC\uabCD\uFFff"`: 0, `"\ud800"`: 0, `"\udc00\ud800"`: 0, `"\ud83d\ude00"`: 0, "\"\x7f\xc2\x80\xdf\xbf\xe0\xa0\x80\xed\x9f\xbf\xee\x80\x80\xef\xbf\xbf\xf0\x90\x80\x80\xf4\x8f\xbf\xbf\"": 0, "\" ' / \"": 0, "\"\xef\xbb\xbf\"": 0,
		// Arrays.
		"[]": 1, "[ ]": 1, "[\t\n\r ]": 1, " [] ": 1, "[1]": 1, "[ 1 ]": 1, "[null,true,false]": 1, `["",0]`: 1, "[ 1 , 2 ]": 1, "[\n1\n,\n2\n]\n": 1, `["]"]`: 1, `["[[["]`: 1, `["a,b",",","\"]"]`: 1, "[0,0,0,0,0,0,0,0]": 1, "[-1e5,1.5E-3]": 1,
		// Objects.
		"{}": 1, "{ }": 1, "{\r\t\n }": 1, `{"":0}`: 1, `{"a":1}`: 1, `{ "a" : 1 }`: 1, `{"a":1,"b":2}`: 1, "{\n\"a\"\n:\n1\n,\n\"b\"\n:\n2\n}\n": 1, `{"a":1,"a":2}`: 1, `{"}":"{"}`: 1, `{":":",","\"}":null}`: 1, `{"\u0061":1,"\ud800":2}`: 1, `{"a":null,"b":true,"c":false,"d":"","e":0}`: 1,
		// In one another.
		"[[]]": 2, "[[],[]]": 2, "[[[]],[]]": 3, "[[],[[]]]": 3, "[1,[2,[3,[4]]],5]": 4, "[{}]": 2, `{"a":[]}`: 2, `{"a":{}}`: 2, `{"a":{"b":{}}}`: 3, `[{"a":[{"b":[]}]}]`: 5, `{"a":[{"b":[{}]}]}`: 5, "[[[]],[[]],[[]]]": 3, "[{},[],{}]": 2, `{"a":[],"b":{"c":1},"d":[[]]}`: 3, "[[[[[[[[]]]]]]]]": 8, `{"[":[{"]":"}"}]}`: 3, " [ [ ] , { } ] ": 2, `[1,{"a":2}]`: 2,
	} {
		if !known(s) || nests(t, s) != deep {
			t.Errorf("the library reads %q otherwise", s)
		}
		checkText(t, s, deep)
	}
}

// P12.1: what is rejected, told one by one, with the place.
func TestRejectTold(t *testing.T) {
	for s, at := range map[string]int{
		// The chapter's examples.
		"[1,]": 3, "tru": 3, "01": 1,
		// Nothing, and blanks alone.
		"": 0, " ": 1, "\t\n\r ": 4, "\n\n": 2,
		// What is no blank.
		"\v": 0, "\f1": 0, "\x00": 0, "1\x00": 1, "1\v": 1, "\u00a01": 0, "1\u00a0": 1, "\xef\xbb\xbf1": 0, "[\f]": 1, "[1\x0b]": 2, "{\x08}": 1, "1 \x0c": 2, "\xc2\x85": 0, "\x1f": 0, "\x7f": 0, "\xff": 0, " \x80": 1,
		// Words.
		"n": 1, "nu": 2, "nul": 3, "nulL": 3, "nulll": 4, "nul l": 3, "t": 1, "tr": 2, "trux": 3, "true1": 4, "truefalse": 4, "f": 1, "fa": 2, "fal": 3, "fals": 4, "falsy": 4, "falsee": 5, "N": 0, "True": 0, "FALSE": 0, "nan": 1, "NaN": 0, "Infinity": 0, "undefined": 0, "tfalse": 1, "ntrue": 1, "true true": 5, "null,": 4, "none": 1,
		// Numbers.
		"-": 1, "--1": 1, "+1": 0, "+": 0, "00": 1, "-00": 2, "-01": 2, "010": 1, "0x1": 1, "0b1": 1, ".": 0, ".5": 0, "-.5": 1, "1.": 2, "1.e5": 2, "1.x": 2, "0.": 2, "-0.": 3, "1..5": 2, "1.5.5": 3, "1e": 2, "1E": 2, "1e+": 3, "1e-": 3, "1E+": 3, "1E-": 3, "1e+-5": 3, "1e++5": 3, "1e5e5": 3, "1e5.5": 3, "1e 5": 2, "1.5e": 4, "1.5ee5": 4, "e5": 0, "E": 0, "-e5": 1, "1 2": 2, "1-": 1, "1-2": 1, "1+2": 1, "- 1": 1, "1. 5": 2, "1 .5": 2, "1_000": 1, "1,5": 1, "1f": 1, "12a": 2, "\xd9\xa1": 0, "1\xd9\xa1": 1, "-Infinity": 1, "1.5-": 3, "0 0": 2, "1:": 1,
		// Strings.
		`"`: 1, `"a`: 2, `"a b c`: 6, `"""`: 2, `""""`: 2, `"a"b`: 3, `"a" "b"`: 4, "'a'": 0, "`a`": 0, "\"\n\"": 1, "\"a\x00\"": 2, "\"\x1f\"": 1, "\"\t\"": 1, `"\"`: 3, `"\`: 2, `"a\`: 3, `"\\\"`: 5, `"\x"`: 2, `"\'"`: 2, `"\ "`: 2, `"\0"`: 2, `"\U0041"`: 2, "\"\\\n\"": 2, "\"\\\xc3\xa4\"": 2, `"\u"`: 3, `"\u`: 3, `"\u1`: 4, `"\u12`: 5, `"\u123`: 6, `"\u1234`: 7, `"\u123"`: 6, `"\u12g4"`: 5, `"\u 123"`: 3, `"\u+123"`: 3, `"\u-001"`: 3, `"\u00e"`: 6, `"\u00G0"`: 5, `"\ud83d\u"`: 9, `"\ud83d\ude0"`: 12, `"a\q`: 3, `\"a\"`: 0, `"a\\" x`: 6,
		// Bytes that are not well formed, in strings and elsewhere.
		"\"\x80\"": 1, "\"\xff\"": 1, "\"a\xc0\xaf\"": 2, "\"\xc3\"": 2, "\"\xc3": 2, "\"\xe2\x82\"": 3, "\"\xe2\x82": 3, "\"\xe2": 2, "\"\xf0\x9f\x98\"": 4, "\"\xf0\x9f\x98": 4, "\"\xed\xa0": 2, "\"\xed\xa0\x80\"": 2, "\"\xe0\x9f\xbf\"": 2, "\"\xf0\x8f\xbf\xbf\"": 2, "\"\xf4\x90\x80\x80\"": 2, "\"\xf5\x80\x80\x80\"": 1, "\"\xc3\xa4\xa4\"": 3, "\"\xc3\\n\"": 2, "\"\xc3\x01\"": 2, "\"\\\xff\"": 2, "\"\\u\xff\"": 3, "\"\\u00\xe2\x82\xac\"": 5, "\"\"\xff": 2, "[\xff]": 1, "[\"\xff\"": 2, "1\xff": 1, "tr\xffue": 2, "[1,\xc3\xa4]": 3, "x\"\xff\"": 0, "[1]\"\xff\"": 3, "{\"\xff\":1}": 2, "{\"a\":\"\xff\"}": 6, "[\"\xe2\x82\xac\",\"\xe2\x82\"]": 10, "{\xff": 1, " \xc3\xa4": 1, "\xf0\x9f\x98\x80": 0,
		// Arrays.
		"[": 1, "[ ": 2, "]": 0, "[]]": 2, "[[]": 3, "[1": 2, "[1 ": 3, "[1,": 3, "[1, ": 4, "[,": 1, "[,1]": 1, "[1,,2]": 3, "[1, ,2]": 4, "[1, ]": 4, "[1 2]": 3, "[1}": 2, "[}": 1, "[1:2]": 2, "[1]2": 3, "[1],": 3, "[1][2]": 3, "[[1]": 4, "[[1]2]": 4, "[1]]": 3, "[tru]": 4, "[01]": 2, "[-]": 2, "[1.]": 3, "[1e]": 3, `["]`: 3, `["a]`: 4, `["a" "b"]`: 5, `[a]`: 1, `[1;2]`: 2, "[][": 2, "[)": 1, "(1)": 0, "<1>": 0, "[[1],]": 5, "[[1}]": 3, `["a":1]`: 4, "[null,]": 6, "[[],": 4, "[]1": 2, "[\"a\"": 4, "[1\xc2\xa0]": 2,
		// Objects.
		"{": 1, "{ ": 2, "}": 0, "{}}": 2, "{]": 1, "{,": 1, "{,}": 1, `{"`: 2, `{"a`: 3, `{"a"`: 4, `{"a" `: 5, `{"a":`: 5, `{"a": `: 6, `{"a":1`: 6, `{"a":1 `: 7, `{"a":1,`: 7, `{"a":1, `: 8, `{"a":}`: 5, `{"a"}`: 4, `{"a" }`: 5, `{"a",`: 4, `{"a",1}`: 4, `{"a" 1}`: 5, `{"a"::1}`: 5, `{"a": :1}`: 6, `{:1}`: 1, `{1:2}`: 1, `{a:1}`: 1, `{null:1}`: 1, `{'a':1}`: 1, `{[]:1}`: 1, `{{}:1}`: 1, `{"a":1,}`: 7, `{"a":1,,"b":2}`: 7, `{,"a":1}`: 1, `{"a":1 "b":2}`: 7, `{"a":1:2}`: 6, `{"a":1;"b":2}`: 6, `{"a":1]`: 6, `{"a":1,1}`: 7, `{"a":1,"b"}`: 10, `{"a":1,"b":}`: 11, `{"a":1,"b",2}`: 10, `{"a"=1}`: 4, `{"a":tru}`: 8, `{"a":01}`: 6, `{"a":-}`: 6, `{"a":"}`: 7, `{"a":1}}`: 7, `{"a":1}{`: 7, `{"a":1},`: 7, `{"\u00"`: 6, "{\"a\n\":1}": 3, `{"a":1,2:3}`: 7, `{"a":1,null}`: 7, `{"a":1,[`: 7, `{"a":1,{}`: 7, `{"a":,`: 5, `{"a":1,:`: 7, `{ }x`: 3,
		// In one another.
		"[{": 2, "[{]": 2, "[{}": 3, "[{},": 4, "[{}}": 3, `{"a":[`: 6, `{"a":[}`: 6, `{"a":[]`: 7, `{"a":[]]`: 7, `{"a":[}]`: 6, `[{"a":1]}`: 7, `{"a":[1}]`: 7, `[[{"a":[`: 8, `[[{"a":[}`: 8, `[[{"a":[]]`: 9, `{"a":{"b":1}`: 12, `{"a":{"b":1},`: 13, `{"a":{"b":1},}`: 13, `{"a":[1,{"b":2}`: 15, `{"a":[1,{"b":2}}`: 15, "[[],{]": 5, `[{"a":1},"b":2]`: 12, `{"a":[1,"b":2]}`: 11, `[[1],[2}`: 7, `{"a":{},1:2}`: 8, `{"a":{}"b":1}`: 7, `[{}{}]`: 3, "[[][]]": 3, `{"[":]}`: 5,
	} {
		if known(s) || longest(s) != at {
			t.Errorf("the library reads %q otherwise", s)
		}
		checkNone(t, s, at)
	}
}

// P12.1: a JSON text that nests deeper than may be is told as that, whatever else stands in it; other bytes are rejected, however deep their beginning nests.
func TestDeeperThanMayBe(t *testing.T) {
	for _, x := range []struct {
		s                 string
		deep, verdict, at int
	}{
		{"[[]]", 1, scan.TooDeep, 2}, {"[[]]", 2, scan.Accept, 2}, {`{"a":[]}`, 1, scan.TooDeep, 2}, {`{"a":{}}`, 1, scan.TooDeep, 2}, {"[{}]", 1, scan.TooDeep, 2}, {"[1]", 1, scan.Accept, 1}, {"1", 1, scan.Accept, 0}, {"[[[]]]", 1, scan.TooDeep, 3}, {"[[[]]]", 2, scan.TooDeep, 3}, {"[[[]]]", 3, scan.Accept, 3}, {"[[[]],[]]", 2, scan.TooDeep, 3}, {"[[],[[]]]", 2, scan.TooDeep, 3}, {"[[],[],[]]", 1, scan.TooDeep, 2}, {" [ [ ] ] ", 1, scan.TooDeep, 2},
		{"[[", 1, scan.Reject, 2}, {"[[]", 1, scan.Reject, 3}, {"[[[[", 1, scan.Reject, 4}, {"[[}", 1, scan.Reject, 2}, {"[[1,]]", 1, scan.Reject, 4}, {"[[]]]", 1, scan.Reject, 4}, {"[[]]x", 1, scan.Reject, 4}, {"[[]] 1", 1, scan.Reject, 5}, {"[[]],", 1, scan.Reject, 4}, {"[[01]]", 1, scan.Reject, 3}, {"[[]", 2, scan.Reject, 3}, {`{"a":[}`, 1, scan.Reject, 6}, {`{"a":[],}`, 1, scan.Reject, 8}, {`{"a":{"b":{`, 2, scan.Reject, 11}, {`[[["`, 2, scan.Reject, 4}, {`[[["\x`, 2, scan.Reject, 5}, {"[[[tru", 1, scan.Reject, 6}, {"[[]\xff]", 1, scan.Reject, 3}, {"[[\"\xff\"]]", 1, scan.Reject, 3}, {"[[]]\xff", 1, scan.Reject, 4},
	} {
		check(t, x.s, x.deep, x.verdict, x.at)
	}
}

// P12.1: what isn't a depth is an error, ahead of all that may be said of the bytes.
func TestOddDepths(t *testing.T) {
	for _, deep := range []int{math.MinInt, math.MinInt + 1, math.MinInt32, -api.MaxDeep, -2, -1, 0, api.MaxDeep + 1, api.MaxDeep + 2, 2 * api.MaxDeep, api.MaxRecord, math.MaxInt32, 1 << 32, 1<<32 + 1, math.MaxInt - 1, math.MaxInt} {
		for _, s := range []string{"", "1", "[[]]", "[", "x", "\xff", strings.Repeat("[", 5000) + strings.Repeat("]", 5000), strings.Repeat(" ", api.MaxRecord), strings.Repeat(" ", api.MaxRecord) + "1"} {
			if v, at, e := scan.Validate(s, deep); v != 0 || at != 0 || e != api.ErrArg {
				t.Errorf("Validate of %d bytes with deep %d is %d, %d, %d", len(s), deep, v, at, e)
			}
		}
	}
	for _, deep := range []int{1, 2, 3, 63, 64, 65, 100, 4000, api.MaxDeep - 1, api.MaxDeep} {
		check(t, "[1]", deep, scan.Accept, 1)
		check(t, "[1", deep, scan.Reject, 2)
		check(t, "", deep, scan.Reject, 0)
		check(t, strings.Repeat("[", 5000)+strings.Repeat("]", 5000), deep, scan.TooDeep, 5000)
	}
}

// fill tells head, then so many of what is between that all are n bytes long, then tail.
func fill(head, between, tail string, n int) string {
	return head + strings.Repeat(between, (n-len(head)-len(tail))/len(between)) + tail
}

// P12.1: bytes as many as may be, and one more.
func TestLengths(t *testing.T) {
	const most = api.MaxRecord
	for _, x := range []struct {
		s           string
		verdict, at int
	}{
		{fill("", " ", "", most), scan.Reject, most},
		{fill("", " ", "1", most), scan.Accept, 0},
		{fill("1", " ", "", most), scan.Accept, 0},
		{fill("1", "\n", "x", most), scan.Reject, most - 1},
		{fill("x", " ", "", most), scan.Reject, 0},
		{fill("1", "0", "", most), scan.Accept, 0},
		{fill("0.", "0", "", most), scan.Accept, 0},
		{fill("1e", "0", "", most), scan.Accept, 0},
		{fill("1", "0", ".", most), scan.Reject, most},
		{fill("0", "0", "", most), scan.Reject, 1},
		{fill(`"`, "a", `"`, most), scan.Accept, 0},
		{fill(`"`, "a", "", most), scan.Reject, most},
		{fill(`"`, "a", "\n", most), scan.Reject, most - 1},
		{fill(`"`, "\xc3\xa4", `"`, most), scan.Accept, 0},
		{fill(`"`, "\xc3\xa4", "\xc3", most), scan.Reject, most},
		{fill(`"`, `\\`, `"`, most), scan.Accept, 0},
		{fill(`"`, `\\`, `\`, most), scan.Reject, most},
		{fill("[1", ",1", "]]", most), scan.Reject, most - 1},
		{fill("[10", ",1", "]", most), scan.Accept, 1},
		{fill("[10", ",1", "", most-1), scan.Reject, most - 1},
		{fill("", "[", "", most), scan.Reject, most},
		{fill("", "[", "}", most), scan.Reject, most - 1},
		{fill("", "[", "]", most), scan.Reject, most},
		{fill("", "]", "", most), scan.Reject, 0},
		{strings.Repeat("[", most/2) + strings.Repeat("]", most/2), scan.TooDeep, most / 2},
		{strings.Repeat("[", most/2-1) + strings.Repeat("]", most/2-1) + "  ", scan.TooDeep, most/2 - 1},
		{strings.Repeat("[", most/2-1) + strings.Repeat("]", most/2-1) + "]]", scan.Reject, most - 2},
		{strings.Repeat("[", most/2) + strings.Repeat("]", most/2-1) + "}", scan.Reject, most - 1},
		{strings.Repeat("[", most/2+1) + strings.Repeat("]", most/2-1), scan.Reject, most},
		{fill("", `{"":`, "", most), scan.Reject, most},
		{fill("", "{", "", most), scan.Reject, 1},
		{fill("[{}", ",{}", "]", most), scan.Accept, 2},
	} {
		check(t, x.s, api.MaxDeep, x.verdict, x.at)
		if len(x.s) < most {
			x.s += strings.Repeat(" ", most-len(x.s))
		}
		for _, deep := range []int{1, api.MaxDeep} {
			check(t, x.s+" ", deep, scan.TooLarge, 0)
			check(t, " "+x.s, deep, scan.TooLarge, 0)
			check(t, x.s+x.s, deep, scan.TooLarge, 0)
		}
	}
	check(t, strings.Repeat("\xff", 1<<20), 1, scan.TooLarge, 0)
	check(t, strings.Repeat("[", 1<<20), api.MaxDeep, scan.TooLarge, 0)
	check(t, strings.Repeat("1", most-1), 1, scan.Accept, 0)
	check(t, "", 1, scan.Reject, 0)
}

// samples are JSON texts that have a bit of everything.
func samples() []string {
	return []string{
		"null", "true", "false", "0", "-0", "10", "-1.50e+12", "0.5E-7", "1e5", "1E0", "2.0", `""`, `"ab"`, `"\n\"\\\/"`, `"\u12aF\ud83d\ude00"`, "\"\xc3\xa4\xe2\x82\xac\xf0\x9f\x98\x80\"",
		"[]", "[ ]", "{}", "{ }", "[1,2]", "[ 1 , 2 ]", `{"a":1,"b":2}`, `{ "a" : 1 , "b" : 2 }`, "[null,true,false]", `["",-1.5,[]]`, `{"":"","\u0041":{}}`, "[[],[[]]]", `{"a":{"b":[1]}}`, `[{"a":[{}]},1]`, " \t\n\r[\r\n\t 1\n,\t2\r]\n",
	}
}

// P12.1: each byte put ahead of, into and behind JSON texts, and in the place of each of their bytes; each byte left out; and two of them behind one another.
func TestEachByteAtEachPlace(t *testing.T) {
	for _, s := range samples() {
		look(t, s)
		for at := range len(s) + 1 {
			for b := range 256 {
				other := string([]byte{byte(b)})
				// What is ahead of at is alive, so all but what follows is told by the byte there.
				if v, a, e := scan.Validate(s[:at]+other, 1); v == scan.Reject && a == at && e == api.OK {
					if alive(s[:at] + other) {
						t.Fatalf("%q is alive", s[:at]+other)
					}
					checkNone(t, s[:at]+other+s[at:], at)
					checkNone(t, s[:at]+other+s[min(at+1, len(s)):], at)
					continue
				}
				look(t, s[:at]+other+s[at:])
				look(t, s[:at]+other+s[min(at+1, len(s)):])
			}
			look(t, s[:at]+s[min(at+1, len(s)):])
		}
		for _, other := range samples() {
			look(t, s+other)
			look(t, s+" "+other)
			look(t, s+","+other)
		}
	}
}

// P12.1, P12.2: each beginning of a JSON text is one or is alive to its end; with each byte right behind it is what the library says.
func TestEachBeginning(t *testing.T) {
	for _, s := range samples() {
		for n := range len(s) + 1 {
			if !alive(s[:n]) {
				t.Fatalf("%q isn't alive by the library", s[:n])
			}
			eachBehind(t, s[:n])
		}
	}
}

// P12.1: each blank, and each byte next to one, ahead, behind and between.
func TestBlanks(t *testing.T) {
	parts := []string{"", "{", `"a"`, ":", "[", "1", ",", "null", ",", `""`, ",", "{", "}", ",", "[", "]", "]", ",", `"b"`, ":", "true", "}", ""}
	whole := strings.Join(parts, "")
	checkText(t, whole, 3)
	for at := 1; at < len(parts); at++ {
		ahead, behind := strings.Join(parts[:at], ""), strings.Join(parts[at:], "")
		for b := range 256 {
			other := string([]byte{byte(b)})
			if strings.Contains(blanks, other) {
				for _, some := range []string{other, other + other, other + blanks + other, strings.Repeat(other, 100)} {
					checkText(t, ahead+some+behind, 3)
				}
				continue
			}
			look(t, ahead+other+behind)
			look(t, ahead+" "+other+behind)
			look(t, ahead+other+" "+behind)
		}
	}
	for _, of := range []string{" ", "\t", "\n", "\r", blanks} {
		checkNone(t, of, len(of))
		for _, s := range samples() {
			checkText(t, of+s+of, nests(t, s))
		}
	}
	// A blank in a word, a number or between a sign and its 5c makes it another thing.
	for _, s := range []string{"null", "true", "false", "-1.5e+10", "100", `"\n"`, `"\u1234"`} {
		for at := 1; at < len(s); at++ {
			for _, blank := range []string{" ", "\t", "\n", "\r"} {
				look(t, s[:at]+blank+s[at:])
			}
		}
	}
}

// P12.1: null, true, false, each of their beginnings, and another byte at each place.
func TestWords(t *testing.T) {
	for _, s := range []string{"null", "true", "false"} {
		for _, about := range [][2]string{{"", ""}, {" ", " "}, {"[", "]"}, {"[0,", ",0]"}, {`{"a":`, "}"}} {
			deep := nests(t, about[0]+s+about[1])
			checkText(t, about[0]+s+about[1], deep)
			for n := range len(s) {
				place := len(about[0]) + n
				checkNone(t, about[0]+s[:n], place)
				if n > 0 {
					checkNone(t, about[0]+s[:n]+about[1]+"x", place)
				}
				for b := range 256 {
					if n > 0 && byte(b) != s[n] {
						checkNone(t, about[0]+s[:n]+string([]byte{byte(b)})+s[n+1:]+about[1], place)
					}
				}
			}
		}
		eachBehind(t, s)
	}
}

// P12.1: all short texts of a number's bytes and of others, alone and in arrays and objects.
func TestAllShortNumbers(t *testing.T) {
	seen := 0
	eachText("-+019.eE ", 5, func(s string) {
		look(t, s)
		if len(s) < 5 {
			look(t, "["+s+"]")
			look(t, "[1,"+s+",1]")
			look(t, `{"a":`+s+"}")
		}
		seen++
	})
	if seen < 60000 {
		t.Errorf("%d texts alone were seen", seen)
	}
}

// P12.1: numbers cut short behind each of their bytes, with each byte right behind.
func TestNumbersCutShort(t *testing.T) {
	for _, s := range []string{"0", "-0", "7", "-7", "120", "-120", "0.0", "-0.50", "10.25", "0e0", "1E5", "1e+05", "1E-50", "-10.25e+105", "0.0E-0", "9876543210.0123456789e0123456789"} {
		checkText(t, s, 0)
		for n := range len(s) + 1 {
			eachBehind(t, s[:n])
			eachBehind(t, "[ "+s[:n])
			eachBehind(t, `{"a":`+s[:n])
		}
	}
}

// P12.1: all digits at all places of a number where digits may be.
func TestAllDigits(t *testing.T) {
	for a := range 10 {
		for b := range 10 {
			two := fmt.Sprintf("%d%d", a, b)
			if a == 0 {
				checkNone(t, two, 1)
				checkNone(t, "-"+two, 2)
			} else {
				checkText(t, two, 0)
				checkText(t, "-"+two, 0)
			}
			for _, ahead := range []string{"0.", "5.", "1e", "1E+", "1e-", "1.5e"} {
				checkText(t, ahead+two, 0)
			}
		}
	}
}

// P12.1: each byte as a character and behind 5c, in strings of all places.
func TestAllBytesInStrings(t *testing.T) {
	for b := range 256 {
		other := string([]byte{byte(b)})
		switch {
		case b < 0x20:
			checkNone(t, `"`+other+`"`, 1)
			checkNone(t, `"ab`+other+`c"`, 3)
		case b == 0x22:
			checkNone(t, `"`+other+`"`, 2)
		case b == 0x5c:
			checkNone(t, `"`+other+`"`, 3)
		case b < 0x80:
			checkText(t, `"`+other+`"`, 0)
		case b < 0xc2 || b > 0xf4:
			checkNone(t, `"`+other+`"`, 1)
		default:
			checkNone(t, `"`+other+`"`, 2)
		}
		switch {
		case b == 'u':
			checkNone(t, `"\`+other+`"`, 3)
		case strings.Contains(`"\/bfnrt`, other):
			checkText(t, `"\`+other+`"`, 0)
		default:
			checkNone(t, `"\`+other+`"`, 2)
		}
		for _, ahead := range []string{`"`, `["`, `{"`, `{"a":"`, `{"a":1,"`, `[1,"`} {
			for _, inside := range []string{"", "a", `\`, `\\`, `\"`, `\u`, `\u0`, `\u12`, `\uaB9`, `\u0000`, `\ud83d`, `\ud83d\`, "\xc3", "\xc3\xa4", "\xe2", "\xe2\x82", "\xe0", "\xed", "\xf0", "\xf0\x9f", "\xf0\x9f\x98", "\xf4"} {
				s := ahead + inside
				lookBehind(t, s+other)
				look(t, s+other+`"`)
			}
		}
	}
}

// P12.1: u with all bytes at all places of its digits, and with fewer.
func TestUnits(t *testing.T) {
	for b := range 256 {
		is := strings.Contains("0123456789abcdefABCDEF", string([]byte{byte(b)}))
		for at := range 4 {
			digits := []byte("19aF")
			digits[at] = byte(b)
			s := `"\u` + string(digits) + `"`
			if is {
				checkText(t, s, 0)
			} else {
				checkNone(t, s, 3+at)
				checkNone(t, s[:4+at], 3+at)
			}
		}
	}
	for n := range 4 {
		checkNone(t, `"\u`+"0000"[:n], 3+n)
		checkNone(t, `"\u`+"0000"[:n]+`"`, 3+n)
		checkNone(t, `"\u`+"0000"[:n]+`\u0000"`, 3+n)
	}
	checkText(t, `"\u00000"`, 0)
	eachText("/09:@AFG`afg", 4, func(s string) {
		look(t, `"\u`+s)
		look(t, `"\u`+s+`"`)
	})
}

// P12.1: scalars of each length, whole, cut short within, and bytes that are not well formed.
func TestScalarsInStrings(t *testing.T) {
	for c := rune(0x20); c <= 0x10ffff; c++ {
		// From 800 on one in many is enough, but about the edges.
		if c > 0x800 && c%997 != 0 && (c+16)&0xfff > 32 || !utf8.ValidRune(c) || c == '"' || c == '\\' {
			continue
		}
		s := `"` + string(c) + `"`
		check(t, s, 1, scan.Accept, 0)
		check(t, s[:1], 1, scan.Reject, 1)
		for n := 2; n < len(s)-1; n++ {
			check(t, s[:n], 1, scan.Reject, n)
			check(t, s[:n]+`"`, 1, scan.Reject, n)
		}
	}
	eachText("\x7f\x80\x8f\x90\x9f\xa0\xbf\xc1\xc2\xdf\xe0\xe2\xed\xf0\xf1\xf4\xf5", 3, func(s string) {
		look(t, `"`+s)
		look(t, `"`+s+`"`)
	})
	eachText("\x80\x8f\x90\xbf\xe0\xed\xf0\xf4\"", 4, func(s string) {
		look(t, `"`+s)
		look(t, `["`+s+`"]`)
	})
}

// grow looks at all beginnings, of so many bytes of these, of JSON texts, and at what they are with another one behind.
func grow(t *testing.T, of string, most int) int {
	seen := 0
	var further func(string)
	further = func(s string) {
		seen++
		for at := range len(of) {
			longer := s + of[at:at+1]
			switch {
			case known(longer):
				check(t, longer, 1+at%3, verdictOf(nests(t, longer), 1+at%3), nests(t, longer))
			case alive(longer):
				check(t, longer, 1+at%3, scan.Reject, len(longer))
			default:
				check(t, longer, 1+at%3, scan.Reject, len(s))
				check(t, longer+"]}", 1+at%3, scan.Reject, len(s))
				check(t, longer+`":0}`, 1+at%3, scan.Reject, len(s))
				continue
			}
			if len(longer) < most {
				further(longer)
			}
		}
	}
	further("")
	return seen
}

// verdictOf tells it of a JSON text.
func verdictOf(nested, deep int) int {
	if nested > deep {
		return scan.TooDeep
	}
	return scan.Accept
}

// P12.1: all short beginnings of JSON texts of brackets, commas, colons, strings and numbers.
func TestAllShortBeginnings(t *testing.T) {
	if seen := grow(t, `[]{},:" 0`, 6); seen < 2000 {
		t.Errorf("%d beginnings alone were seen", seen)
	}
	if seen := grow(t, "[],1", 10); seen < 1000 {
		t.Errorf("%d beginnings alone were seen", seen)
	}
	if seen := grow(t, `{}":,`, 8); seen < 1000 {
		t.Errorf("%d beginnings alone were seen", seen)
	}
	if seen := grow(t, "\"\\u0n\xc3\xa4\x1f", 6); seen < 500 {
		t.Errorf("%d beginnings alone were seen", seen)
	}
}

// P12.1: all short rows of whole tokens, joined.
func TestAllShortRowsOfTokens(t *testing.T) {
	tokens := []string{"[", "]", "{", "}", ",", ":", `"a"`, "1", "null", " "}
	eachText("0123456789", 4, func(row string) {
		var b strings.Builder
		for at := range len(row) {
			b.WriteString(tokens[row[at]-'0'])
		}
		s := b.String()
		look(t, s)
		look(t, "["+s+"]")
		if len(row) < 4 {
			look(t, `{"a":1,`+s+"}")
			look(t, `{"a":`+s+"}")
			look(t, `[{"b":[]}`+s+"]")
		}
	})
}

// nested tells brackets in one another, each kind as the dice say, or all of one: how they open, and how they close.
func nested(d *dice, kinds string, n int) (string, string) {
	var open, shut []byte
	for range n {
		switch kinds[d.under(len(kinds))] {
		case '[':
			open = append(open, '[')
			shut = append(shut, ']')
		case '{':
			open = append(open, `{"":`...)
			shut = append(shut, '}')
		}
	}
	slices.Reverse(shut)
	return string(open), string(shut)
}

// depths are those about which something changes.
func depths() []int {
	return []int{1, 2, 3, 31, 32, 33, 62, 63, 64, 65, 66, 127, 128, 129, 130, 191, 192, 193, 255, 256, 257, 1000, 1023, 1024, 1025, api.MaxDeep - 1, api.MaxDeep, api.MaxDeep + 1, api.MaxDeep + 2, 8191, 8192, 8193, 13000}
}

// P12.1: nesting as deep as may be, one less deep, one deeper, and far deeper, in arrays, in objects and in both.
func TestNests(t *testing.T) {
	d := dice(88172645463325252)
	for _, kinds := range []string{"[", "{", "[{", "[[[[[{", "{{{{{["} {
		for _, n := range depths() {
			open, shut := nested(&d, kinds, n)
			whole := open + "0" + shut
			checkText(t, whole, n)
			checkText(t, " "+whole+"\n", n)
			for _, deep := range []int{n - 1, n, n + 1} {
				if deep >= 1 && deep <= api.MaxDeep {
					check(t, whole, deep, verdictOf(n, deep), n)
				}
			}
			// What ends a text ahead of its end, or goes on behind it, is rejected, however deep.
			checkNone(t, open, len(open))
			checkNone(t, open+"0", len(open)+1)
			checkNone(t, whole[:len(whole)-1], len(whole)-1)
			checkNone(t, whole+"]", len(whole))
			checkNone(t, whole+"}", len(whole))
			checkNone(t, whole+",", len(whole))
			checkNone(t, whole+"0", len(whole))
		}
	}
}

// P12.1: brackets that close what they don't belong to, at each depth.
func TestWrongClosers(t *testing.T) {
	d := dice(1181783497276652981)
	for _, n := range []int{1, 2, 5, 63, 64, 65, 128, 129, 200, 1000, 5000} {
		for range 3 {
			open, shut := nested(&d, "[{", n)
			for at := range len(shut) {
				if n > 200 && d.under(n/20) > 0 {
					continue
				}
				wrong := "]"
				if shut[at] == ']' {
					wrong = "}"
				}
				check(t, open+"0"+shut[:at]+wrong+shut[at+1:], 1+d.under(api.MaxDeep), scan.Reject, len(open)+1+at)
				check(t, open+"0"+shut[:at]+wrong, 1+d.under(api.MaxDeep), scan.Reject, len(open)+1+at)
			}
		}
	}
}

// P12.1: brackets that open and close again, up and down, beyond what a word has room for: what is open is known again.
func TestUpAndDown(t *testing.T) {
	d := dice(4101842887655102017)
	for range 60 {
		var b strings.Builder
		var shut []byte
		deepest := 0
		up := 1
		for b.Len() < 6000 {
			// Now mostly up, now mostly down, so that 64 and its multiples are passed often.
			if d.under(40) == 0 {
				up = d.under(4)
			}
			if d.under(4) <= up || len(shut) < 2 {
				open, closer := nested(&d, "[{", 1)
				b.WriteString(open)
				shut = append(shut, closer[0])
				deepest = max(deepest, len(shut))
				continue
			}
			b.WriteString("0")
			for range 1 + d.under(len(shut)-1) {
				b.WriteByte(shut[len(shut)-1])
				shut = shut[:len(shut)-1]
			}
			b.WriteString(",")
			if shut[len(shut)-1] == '}' {
				b.WriteString(`"":`)
			}
		}
		s := b.String() + "0"
		slices.Reverse(shut)
		checkText(t, s+string(shut), deepest)
		at := d.under(len(shut))
		other := bytes.Clone(shut)
		other[at] ^= ']' ^ '}'
		check(t, s+string(other), 1, scan.Reject, len(s)+at)
		// What stands behind a comma is a member in an object alone.
		if shut[0] == '}' {
			check(t, s+",0"+string(shut), 1, scan.Reject, len(s)+1)
		} else {
			check(t, s+`,"":0`+string(shut), 1, scan.Reject, len(s)+3)
		}
	}
}

// P12.1: JSON texts thrown together nest as deep as they were made, as the library says too.
func TestThrownTexts(t *testing.T) {
	d := dice(2685821657736338717)
	deepest := 0
	for range 6000 {
		s, deep := d.text(d.under(8))
		if !known(s) || nests(t, s) != deep {
			t.Fatalf("the library reads %q otherwise", s)
		}
		checkText(t, s, deep)
		deepest = max(deepest, deep)
	}
	if deepest < 5 {
		t.Errorf("no text nests deeper than %d", deepest)
	}
}

// changed tells s with a byte put in, left out or changed.
func changed(d *dice, s string) string {
	at := d.under(len(s))
	other := d.one("[", "]", "{", "}", ",", ":", `"`, `\`, "0", "1", "-", "+", ".", "e", "n", "t", "f", "u", " ", "\n", "\x00", "\x1f", "\x80", "\xc3", "\xff", "x")
	switch d.under(4) {
	case 0:
		return s[:at] + other + s[at:]
	case 1:
		return s[:at] + s[at+1:]
	case 2:
		return s[:at] + other + s[at+1:]
	}
	return s[:at]
}

// P12.1: JSON texts with a few bytes changed.
func TestChangedTexts(t *testing.T) {
	d := dice(3935559000370003845)
	rejected := 0
	for _, s := range thrown(1234567891011, 4000) {
		s = changed(&d, s)
		if s != "" && d.under(2) == 0 {
			s = changed(&d, s)
		}
		look(t, s)
		if !known(s) {
			rejected++
		}
	}
	if rejected < 1000 {
		t.Errorf("%d texts alone are none", rejected)
	}
}

// P12.2: what is rejected at a place is rejected there, too, when it is cut off one byte behind that, and whatever else follows; cut off there it is alive.
func TestCutOffBehind(t *testing.T) {
	d := dice(6364136223846793005)
	seen := 0
	for _, s := range thrown(1442695040888963407, 6000) {
		s = changed(&d, s)
		v, at, e := scan.Validate(s, 2)
		if e != api.OK {
			t.Fatalf("Validate(%q, 2) is an error, %d", s, e)
		}
		if v != scan.Reject {
			continue
		}
		checkAlive(t, s[:at])
		if at == len(s) {
			continue
		}
		seen++
		for _, more := range []string{"", s[at+1:], " ", "0", `"`, "]", "}", "\xff", `"a":1}]`} {
			checkNone(t, s[:at+1]+more, at)
		}
	}
	if seen < 1000 {
		t.Errorf("%d places within alone were seen", seen)
	}
}

// checkAlive asks that s is a JSON text, or rejected at its end and nowhere ahead.
func checkAlive(t *testing.T, s string) {
	t.Helper()
	for _, deep := range []int{1, 2, api.MaxDeep} {
		v, at, e := scan.Validate(s, deep)
		if e != api.OK || v == scan.Reject && at != len(s) || v == scan.TooLarge || v < scan.Accept || v > scan.TooLarge {
			t.Fatalf("Validate(%q, %d) is %d, %d, %d, but it is alive", s, deep, v, at, e)
		}
		if v != scan.Reject && !known(s) {
			t.Fatalf("Validate(%q, %d) is %d, but it is no JSON text", s, deep, v)
		}
	}
}

// P12.2: each beginning of a JSON text is one or is alive to its end.
func TestBeginningsOfTexts(t *testing.T) {
	for _, s := range append(thrown(9007199254740881, 3000), samples()...) {
		for n := range len(s) + 1 {
			checkAlive(t, s[:n])
		}
	}
	// Longer ones, whose beginnings the library needn't read: whether they are JSON texts their last bytes tell.
	d := dice(362436069)
	for _, n := range []int{64, 100, 300} {
		open, shut := nested(&d, "[{", n)
		s := open + "0" + shut
		for n := range len(s) {
			check(t, s[:n], 1, scan.Reject, n)
		}
	}
}

// P12.2: a JSON text in brackets is one, and one deeper; what is none in brackets is none.
func TestInBrackets(t *testing.T) {
	for _, s := range append(thrown(521288629, 3000), samples()...) {
		v, deep, e := scan.Validate(s, api.MaxDeep)
		if v != scan.Accept || e != api.OK {
			t.Fatalf("Validate(%q) is %d, %d, %d", s, v, deep, e)
		}
		checkText(t, "["+s+"]", deep+1)
		checkText(t, " [ "+s+" ] ", deep+1)
		checkText(t, "[[["+s+"]]]", deep+3)
		checkText(t, "["+s+","+s+"]", deep+1)
		checkText(t, `{"a":`+s+"}", deep+1)
		checkText(t, `{"a":`+s+`,"a":[`+s+"]}", deep+2)
		if deep > 0 {
			check(t, "["+s+"]", deep, scan.TooDeep, deep+1)
		}
		checkNone(t, "["+s, len(s)+1)
		checkNone(t, s+"]", len(s))
		checkNone(t, "["+s+"}", len(s)+1)
		checkNone(t, "["+s+",]", len(s)+2)
	}
	// Up to the depth that may be, and beyond.
	s := "0"
	for deep := 1; deep <= api.MaxDeep+3; deep++ {
		s = "[" + s + "]"
		if deep%100 != 0 && deep < api.MaxDeep-2 {
			continue
		}
		check(t, s, api.MaxDeep, verdictOf(deep, api.MaxDeep), deep)
	}
}

// P12.2: as many brackets as bytes may be: what is too large in brackets isn't looked at.
func TestInBracketsUpToTheLength(t *testing.T) {
	s := fill(`"`, "a", `"`, api.MaxRecord-2)
	check(t, s, 1, scan.Accept, 0)
	check(t, "["+s+"]", 1, scan.Accept, 1)
	check(t, "[["+s+"]]", 1, scan.TooLarge, 0)
	check(t, "[["+s, 1, scan.Reject, api.MaxRecord)
	check(t, "[["+s+"]", 1, scan.TooLarge, 0)
}
