package marks_test

import (
	"encoding/json"
	"regexp"
	"slices"
	"strings"
	"testing"

	"lacework/api"
	"lacework/bits"
	"lacework/marks"
	"lacework/paren"
	"lacework/scan"
)

// blanks are those that chapter 12 names.
const blanks = " \t\n\r"

// six are the bytes that are marks where they don't stand in a string.
const six = "[]{}:,"

// dice tells numbers that look thrown, the same ones each time.
type dice uint64

func (d *dice) next() uint64 {
	x := uint64(*d)
	x ^= x << 13
	x ^= x >> 7
	x ^= x << 17
	*d = dice(x)
	return x
}

// under tells one of the numbers below n.
func (d *dice) under(n int) int {
	return int(d.next() >> 20 % uint64(n))
}

// one tells one of these.
func (d *dice) one(l ...string) string {
	return l[d.under(len(l))]
}

// blank tells at most so many blanks.
func (d *dice) blank(most int) string {
	var b strings.Builder
	for range d.under(most + 1) {
		b.WriteByte(blanks[d.under(len(blanks))])
	}
	return b.String()
}

// word tells a string as JSON writes it.
func (d *dice) word() string {
	var b strings.Builder
	for range d.under(5) {
		b.WriteString(d.one("a", "[", "]", "{", "}", ",", ":", " ", "[{", "}]", "\x7f", "\u00e4", "\u20ac", "\U0001f600", `\":`, `\",`, `\"`, `\\`, `\\\"`, `\/`, `\b`, `\f`, `\n`, `\r`, `\t`, `\u0000`, `\u20AC`, `\u005c`, `\u0022`, `\ud83d\ude00`, `\ud800`))
	}
	return `"` + b.String() + `"`
}

// parts tells the parts of a JSON text, between which blanks may stand, that nests at most so deep.
func (d *dice) parts(most int) []string {
	kind := d.under(8)
	if most == 0 || kind < 2 {
		return []string{d.one("null", "true", "false", d.word(), "0", "-1", "12.5e-7")}
	}
	object := kind < 5
	l := []string{"["}
	if object {
		l[0] = "{"
	}
	for n := range d.under(4) {
		if n > 0 {
			l = append(l, ",")
		}
		if object {
			l = append(l, d.word(), ":")
		}
		l = append(l, d.parts(most-1)...)
	}
	if object {
		return append(l, "}")
	}
	return append(l, "]")
}

// closed is a string, or what a string that isn't ended takes with it.
var closed = regexp.MustCompile(`(?s)"(\\.|[^"\\])*("|\\?\z)`)

// told tells the places of the marks of s: those of the six that are left when each string is gone.
func told(s string) []int {
	s = closed.ReplaceAllStringFunc(s, func(x string) string { return strings.Repeat("x", len(x)) })
	var l []int
	for at := range len(s) {
		if strings.IndexByte(six, s[at]) >= 0 {
			l = append(l, at)
		}
	}
	return l
}

// toldByRuns tells the same, by how many 5c stand in a row right ahead of each 22.
func toldByRuns(s string) []int {
	var l []int
	begun := -1 // where the string begins in which at stands
	for at := range len(s) {
		ahead := s[begun+1 : at]
		switch {
		case begun < 0 && s[at] == '"':
			begun = at
		case begun < 0 && strings.IndexByte(six, s[at]) >= 0:
			l = append(l, at)
		case begun >= 0 && s[at] == '"' && (len(ahead)-len(strings.TrimRight(ahead, `\`)))%2 == 0:
			begun = -1
		}
	}
	return l
}

// two are the bits of each mark.
var two = map[byte][2]bool{'[': {true, true}, '{': {true, true}, ']': {false, false}, '}': {false, false}, ':': {false, true}, ',': {false, true}}

// shown tells no more of s than can be read.
func shown(s string) string {
	return s[:min(len(s), 300)]
}

// check asks for the places of s, and for the two bits of each.
func check(t *testing.T, s string, places []int) {
	t.Helper()
	if l := marks.Places(s); !slices.Equal(l, places) {
		t.Fatalf("Places(%q) is %v, want %v", shown(s), l, places)
	}
	var want []bool
	for _, at := range places {
		b := two[s[at]]
		want = append(want, b[:]...)
	}
	b := marks.Parens(s)
	if len(b) != 2*len(places) || !slices.Equal(b, want) {
		t.Fatalf("Parens(%q) is %v, want %v", shown(s), b, want)
	}
}

// look holds s against what is told of it in two other ways.
func look(t *testing.T, s string) {
	t.Helper()
	l := told(s)
	if other := toldByRuns(s); !slices.Equal(l, other) {
		t.Fatalf("the test tells of %q both %v and %v", shown(s), l, other)
	}
	check(t, s, l)
}

// eachText goes through all texts of at most so many of these bytes.
func eachText(of string, most int, see func(string)) {
	row := make([]byte, 0, most)
	var fill func()
	fill = func() {
		see(string(row))
		if len(row) == most {
			return
		}
		for at := range len(of) {
			row = append(row, of[at])
			fill()
			row = row[:len(row)-1]
		}
	}
	fill()
}

// P13.1: all 256 bytes.
func TestIs(t *testing.T) {
	for c := range 256 {
		want := c == 0x5b || c == 0x5d || c == 0x7b || c == 0x7d || c == 0x3a || c == 0x2c
		if is := marks.Is(byte(c)); is != want {
			t.Errorf("Is(%#x) is %t", c, is)
		}
	}
}

// P13.1: places, told one by one.
func TestPlacesTold(t *testing.T) {
	for _, x := range []struct {
		s      string
		places []int
	}{
		// The chapter's example.
		{`[1,{"a":2}]`, []int{0, 2, 3, 7, 9, 10}},
		// Nothing, and no marks.
		{"", nil}, {"5", nil}, {" ", nil}, {"null", nil}, {"-1.5e+7", nil}, {"\x00", nil}, {"(1;2)<a|b>'c'=/.", nil},
		// Each mark alone, first, last, and many of them.
		{"[", []int{0}}, {"]", []int{0}}, {"{", []int{0}}, {"}", []int{0}}, {":", []int{0}}, {",", []int{0}},
		{"[a", []int{0}}, {"a[", []int{1}}, {"]a", []int{0}}, {"a]", []int{1}}, {"{a", []int{0}}, {"a{", []int{1}}, {"}a", []int{0}}, {"a}", []int{1}}, {":a", []int{0}}, {"a:", []int{1}}, {",a", []int{0}}, {"a,", []int{1}},
		{"[]{}:,", []int{0, 1, 2, 3, 4, 5}}, {",:}{][", []int{0, 1, 2, 3, 4, 5}}, {"[[[", []int{0, 1, 2}}, {",,,", []int{0, 1, 2}}, {" [ ] ", []int{1, 3}}, {"a:b,c", []int{1, 3}},
		// Brackets that are not balanced.
		{"][", []int{0, 1}}, {"[}", []int{0, 1}}, {"{]", []int{0, 1}}, {"[[]", []int{0, 1, 2}}, {"[]]", []int{0, 1, 2}}, {"}{", []int{0, 1}}, {"[{]}", []int{0, 1, 2, 3}},
		// Strings.
		{`""`, nil}, {`"a"`, nil}, {`[""]`, []int{0, 3}}, {`"["`, nil}, {`"]"`, nil}, {`"{"`, nil}, {`"}"`, nil}, {`":"`, nil}, {`","`, nil}, {`"[]{}:,"`, nil}, {`"[",]`, []int{3, 4}}, {`["[","]"]`, []int{0, 4, 8}}, {`"""["`, nil}, {`""["`, []int{2}}, {`"""",`, []int{4}}, {`"a""b",`, []int{6}}, {`"a","b"`, []int{3}}, {`""""""[`, []int{6}}, {`"":""`, []int{2}},
		// Escapes.
		{`"\"",`, []int{4}}, {`"\",`, nil}, {`"\\",`, []int{4}}, {`"\\\",`, nil}, {`"\\\"",`, []int{6}}, {`"\\\\",`, []int{6}}, {`"\\\\\",`, nil}, {`"a\",\"b",`, []int{9}}, {`"\,",`, []int{4}}, {`"\[",`, []int{4}}, {`"\u0022",`, []int{8}}, {`"\u005c",`, []int{8}}, {`"\\",","`, []int{4}}, {`"\\""\"",`, []int{8}}, {`"[\"]\\" : [ ] }`, []int{9, 11, 13, 15}},
		// Strings that are not ended.
		{`"`, nil}, {`"[`, nil}, {`"[]{}:,`, nil}, {`["`, []int{0}}, {`[",]`, []int{0}}, {`[1,"a]`, []int{0, 2}}, {`"\`, nil}, {`"\"`, nil}, {`"\\`, nil}, {`"\\\`, nil}, {`"a\`, nil}, {`["\`, []int{0}}, {`"","`, []int{2}}, {`"":"\`, []int{2}}, {`"\\":"`, []int{4}},
		// Strings that end the bytes.
		{`["a"`, []int{0}}, {`:""`, []int{0}}, {`,"\\"`, []int{0}}, {`]"\""`, []int{0}},
		// 5c outside of a string is no more than a byte.
		{`\`, nil}, {`\[`, []int{1}}, {`\\[`, []int{2}}, {`\,\:`, []int{1, 3}}, {`\"[`, nil}, {`\"["`, nil}, {`\"",`, []int{3}}, {`\\"[",`, []int{5}}, {`\\\"[",`, []int{6}}, {`""\",`, nil}, {`""\"",`, []int{5}}, {`[\`, []int{0}}, {`"a"\`, nil}, {`"a"\,`, []int{4}},
		// Other marks of strings make none.
		{"'[',", []int{1, 3}}, {"`[`", []int{1}}, {"'\",'", nil},
		// Bytes that are not well formed, beside marks and in strings.
		{"\xff", nil}, {"\xff[\xff", []int{1}}, {"\xc3[", []int{1}}, {"[\xc3", []int{0}}, {"\xe2\x82,", []int{2}}, {"\xe2,\x82", []int{1}}, {"\xf0\x9f\x98:", []int{3}}, {"\x80]\x80", []int{1}}, {"\"\xff\",", []int{3}}, {"\"\xe2\x82\",", []int{4}}, {"\"\xc3\",", []int{3}}, {"\"\\\xff\",", []int{4}}, {"\"\\\xe2\x82\xac\",", []int{6}}, {"\"\\\xe2\x82\",", []int{5}}, {"\"[\xff,", nil}, {"\xdb\xfb\xba\xac", nil}, {"\xc1\x9b\xe0\x80\xac", nil},
		// Scalars that are written like marks by other bytes, or by escapes outside of strings.
		{"\uff3b\uff0c\uff1a\u3010", nil}, {`\u005b`, nil}, {`\u0022,`, []int{6}}, {"\u201c[\u201d", []int{3}},
		// Records.
		{`{"a":1}`, []int{0, 4, 6}}, {` { "a" : 1 } `, []int{1, 7, 11}}, {`{"a":[1,2],"b":{}}`, []int{0, 4, 5, 7, 9, 10, 14, 15, 16, 17}}, {"[\n1,\n2\n]\n", []int{0, 3, 7}}, {`{"a,b":"c:d"}`, []int{0, 6, 12}}, {"[]\n[]", []int{0, 1, 3, 4}}, {"{\"\n\":1}", []int{0, 4, 6}},
	} {
		check(t, x.s, x.places)
		look(t, x.s)
	}
}

// P13.1: bits, told one by one.
func TestParensTold(t *testing.T) {
	for s, row := range map[string]string{
		"": "", "5": "", `"[,]"`: "", "[": "11", "{": "11", "]": "00", "}": "00", ":": "01", ",": "01",
		"[]": "1100", "{}": "1100", "[}": "1100", "][": "0011", "[]{}:,": "110011000101", ",:}{][": "010100110011",
		`[1,{"a":2}]`: "110111010000", `{"a":1,"b":[]}`: "11010101110000", "[[],[]]": "1111000111 0000", "[1,2,3]": "11010100", "a,b:c": "0101", `"a":"["`: "01", "]]]": "000000", "{{{": "111111",
	} {
		var want []bool
		for _, c := range strings.ReplaceAll(row, " ", "") {
			want = append(want, c == '1')
		}
		if b := marks.Parens(s); !slices.Equal(b, want) {
			t.Errorf("Parens(%q) is %v, want %s", s, b, row)
		}
	}
}

// P13.1: all short rows of the bytes that mean something, and of some that do not.
func TestAllShort(t *testing.T) {
	eachText(`"\[]{}:,a`, 5, func(s string) { look(t, s) })
	eachText("\"\\,a\xff", 7, func(s string) { look(t, s) })
	eachText(`"\,`, 11, func(s string) { look(t, s) })
}

// P13.1: each byte at each place of some texts, in the stead of what stands there, and ahead of it.
func TestEachByteAtEachPlace(t *testing.T) {
	for _, s := range []string{"", ",", "[]", `""`, `"",`, `"[",`, `"\",`, `"\\",`, `"\"",`, `",\`, `"\`, `\"["`, `{"a":[1,"b\"]"],"\\":{}}`, "\"\xe2\x82\xac\",\xe2\x82\xac"} {
		for at := range len(s) + 1 {
			for c := range 256 {
				b := string([]byte{byte(c)})
				look(t, s[:at]+b+s[at:])
				if at < len(s) {
					look(t, s[:at]+b+s[at+1:])
				}
			}
		}
	}
}

// P13.1: 5c and each other byte behind it are one, if it stands in a string.
func TestBytesBehind5c(t *testing.T) {
	for c := range 256 {
		b := string([]byte{byte(c)})
		check(t, `"\`+b+`",`, []int{4})
		check(t, `"a\\\`+b+`[",`, []int{8})
		check(t, `["\`+b, []int{0})
		check(t, `["\`+b+`]`, []int{0})
		look(t, `\`+b+`",`)
		look(t, `"a"\`+b+`",`)
	}
}

// P13.1: rows of 5c, odd and even, in strings and outside of them.
func TestRowsOf5c(t *testing.T) {
	for n := range 300 {
		row := strings.Repeat(`\`, n)
		if n%2 == 0 {
			check(t, `"`+row+`",`, []int{n + 2})
			check(t, `"[`+row+`",",`, []int{n + 3})
		} else {
			check(t, `"`+row+`",`, nil)
			check(t, `"`+row+`",",`, []int{n + 4})
		}
		check(t, `,"`+row, []int{0})
		check(t, row+`,`, []int{n})
		check(t, row+`",",`, []int{n + 3})
		check(t, row+`",`, nil)
		check(t, `""`+row+`,`, []int{n + 2})
	}
}

// P13.1: many strings behind one another.
func TestManyStrings(t *testing.T) {
	for _, s := range []string{`""`, `"["`, `"\""`, `"\\"`, `"a,\\\"b"`, "\"\xff\""} {
		for n := range 40 {
			row := strings.Repeat(s, n)
			check(t, row, nil)
			check(t, row+",", []int{len(row)})
			check(t, "["+row+"]", []int{0, len(row) + 1})
			check(t, row+`",`, nil)
			check(t, row+`\",`, nil)
		}
	}
}

// P13.1: rows of parts that are thrown, of which strings are some.
func TestThrown(t *testing.T) {
	d := dice(1301)
	for range 60000 {
		var b strings.Builder
		for range d.under(14) {
			b.WriteString(d.one(d.word(), d.word()[1:], `"`, `\`, `\"`, `""`, "[", "]", "{", "}", ":", ",", " ", "a", "\n", "\x00", "\xff", "\xe2\x82", "\u20ac", string([]byte{byte(d.under(256))})))
		}
		look(t, b.String())
	}
}

// P13.1: texts of all lengths near those of words and limits, with the marks everywhere.
func TestLong(t *testing.T) {
	for _, n := range []int{63, 64, 65, 127, 128, 129, 255, 256, 257, 4095, 4096, 4097, api.MaxRecord - 1, api.MaxRecord, api.MaxRecord + 1, 1 << 18} {
		all := make([]int, n)
		for at := range all {
			all[at] = at
		}
		for at := range len(six) {
			check(t, strings.Repeat(six[at:at+1], n), all)
		}
		check(t, strings.Repeat("a", n), nil)
		check(t, strings.Repeat("a", n)+",", []int{n})
		check(t, `"`+strings.Repeat("[", n), nil)
		check(t, `"`+strings.Repeat("[", n)+`":`, []int{n + 2})
		check(t, strings.Repeat("[", n)+`"`+strings.Repeat("]", n), all)
		look(t, strings.Repeat(`\`, n)+`",`)
		look(t, `"`+strings.Repeat(`\`, n)+`",`)
		look(t, strings.Repeat(`{"a":"\\"},`, n/11+1))
	}
}

// P13.1: a beginning's places are those of the whole that stand in it.
func TestBeginnings(t *testing.T) {
	d := dice(1302)
	for range 300 {
		s := strings.Join(d.parts(4), d.blank(2)) + d.one("", `"`, `\"`) + d.word()
		all := told(s)
		for n := range len(s) + 1 {
			ahead, _ := slices.BinarySearch(all, n)
			check(t, s[:n], all[:ahead])
		}
	}
}

// P13.1: what is answered is new memory, and hangs on nothing that was answered before.
func TestAnswersAreNew(t *testing.T) {
	const s = `[1,{"a":2}]`
	l, b := marks.Places(s), marks.Parens(s)
	for at := range l {
		l[at] = -7
	}
	for at := range b {
		b[at] = !b[at]
	}
	check(t, s, []int{0, 2, 3, 7, 9, 10})
}

// rowOf tells bits as a row.
func rowOf(l []bool) *bits.Row {
	var b bits.Builder
	for _, bit := range l {
		b.Bit(bit)
	}
	return b.Row()
}

// shape tells the bits of the next value that the library reads: what is in an array or an object is put in brackets, and each value, and each name, that has a neighbour ahead begins anew.
func shape(t *testing.T, d *json.Decoder) []bool {
	t.Helper()
	token, err := d.Token()
	if err != nil {
		t.Fatal(err)
	}
	open, is := token.(json.Delim)
	if !is {
		return nil
	}
	l := []bool{true, true}
	for n := 0; d.More(); n++ {
		if n > 0 {
			l = append(l, false, true)
		}
		if open == '{' {
			if _, err := d.Token(); err != nil {
				t.Fatal(err)
			}
			l = append(l, false, true)
		}
		l = append(l, shape(t, d)...)
	}
	if _, err := d.Token(); err != nil {
		t.Fatal(err)
	}
	return append(l, false, false)
}

// checkRecord asks of a JSON text that its bits are balanced, and those of its tree.
func checkRecord(t *testing.T, s string) {
	t.Helper()
	if v, _, _ := scan.Validate(s, api.MaxDeep); v != scan.Accept {
		t.Fatalf("%q is no JSON text", shown(s))
	}
	look(t, s)
	b := marks.Parens(s)
	if !paren.Balanced(rowOf(b)) {
		t.Fatalf("the bits of %q are not balanced: %v", shown(s), b)
	}
	d := json.NewDecoder(strings.NewReader(s))
	d.UseNumber()
	if want := shape(t, d); !slices.Equal(b, want) {
		t.Fatalf("Parens(%q) is %v, want %v", shown(s), b, want)
	}
}

// P13.2: of JSON texts the bits are balanced, told one by one.
func TestBalancedTold(t *testing.T) {
	for _, s := range []string{
		"5", "null", `""`, `"[[["`, `"\"]"`, "[]", "{}", "[1]", "[[]]", "[1,2]", "[[],[]]", `{"a":1}`, `{"a":1,"b":2}`, `{"a":[]}`, `{"a":{}}`, "[{}]", "[{},{}]", `[{"a":[{"b":[]}]}]`, `{"a":[{"b":[{}]}]}`, `{"[":"]","{":"}"}`, `[1,{"a":2}]`, `{"a":[1,2,{"b":null}],"c":{"d":[[]]}}`, `["\\",{"\"":"\\\""}]`, `[":",","]`, `{"\\":{"\\\\":["\""]}}`,
	} {
		checkRecord(t, s)
	}
}

// P13.2: deep ones, of each kind in one another.
func TestBalancedDeep(t *testing.T) {
	for _, n := range []int{1, 2, 3, 31, 32, 33, 63, 64, 65, 100, 1000} {
		checkRecord(t, strings.Repeat("[", n)+strings.Repeat("]", n))
		checkRecord(t, strings.Repeat(`{"]":`, n)+"1"+strings.Repeat("}", n))
		checkRecord(t, strings.Repeat(`[{"a":`, n)+"[]"+strings.Repeat("}]", n))
		checkRecord(t, strings.Repeat(`{"a":[1,`, n)+"{}"+strings.Repeat("],\"\":0}", n))
	}
	deepest := strings.Repeat("[", api.MaxDeep) + strings.Repeat("]", api.MaxDeep)
	checkRecord(t, deepest)
	checkRecord(t, "[0"+strings.Repeat(",0", (api.MaxRecord-3)/2)+"]")
}

// mixed tells the parts with blanks ahead of, between and behind them.
func mixed(parts []string, blank func() string) string {
	s := blank()
	for _, x := range parts {
		s += x + blank()
	}
	return s
}

// P13.2: blanks of each kind ahead, behind and between change the bits not; the marks stand where they were put.
func TestBlanks(t *testing.T) {
	d := dice(1303)
	for range 3000 {
		parts := d.parts(d.under(6))
		s := strings.Join(parts, "")
		checkRecord(t, s)
		want := marks.Parens(s)
		ways := []func() string{func() string { return d.blank(3) }, func() string { return d.blank(1) }}
		for at := range len(blanks) {
			ways = append(ways, func() string { return blanks[at : at+1] })
		}
		for _, way := range ways {
			b := mixed(parts, way)
			checkRecord(t, b)
			if got := marks.Parens(b); !slices.Equal(got, want) {
				t.Fatalf("Parens(%q) is %v, of %q it is %v", b, got, s, want)
			}
		}
	}
}

// P13.2: one blank at each place of a text where one may stand.
func TestOneBlank(t *testing.T) {
	parts := []string{"{", `"a"`, ":", "[", "1", ",", `"b]\""`, ",", "{", "}", "]", ",", `""`, ":", "null", "}"}
	want := marks.Parens(strings.Join(parts, ""))
	for n := range len(parts) + 1 {
		for _, c := range blanks {
			head, tail := strings.Join(parts[:n], ""), strings.Join(parts[n:], "")
			for _, many := range []int{1, 2, 64, 1000} {
				s := head + strings.Repeat(string(c), many) + tail
				checkRecord(t, s)
				if b := marks.Parens(s); !slices.Equal(b, want) {
					t.Fatalf("Parens(%q) is %v, want %v", shown(s), b, want)
				}
				places := marks.Places(head + tail)
				for at := range places {
					if places[at] >= len(head) {
						places[at] += many
					}
				}
				check(t, s, places)
			}
		}
	}
}
