package semi_test

import (
	"encoding/json"
	"math"
	"regexp"
	"strings"
	"testing"
	"unicode/utf8"

	"lacework/api"
	"lacework/bits"
	"lacework/fano"
	"lacework/nest"
	"lacework/semi"
)

// blanks are those that chapter 12 names.
const blanks = " \t\n\r"

// dice tells numbers that look thrown, the same ones each time.
type dice uint64

func (d *dice) next() uint64 {
	x := uint64(*d)
	x ^= x << 13
	x ^= x >> 7
	x ^= x << 17
	*d = dice(x)
	return x
}

// under tells one of the numbers below n.
func (d *dice) under(n int) int {
	return int(d.next() >> 20 % uint64(n))
}

// one tells one of these.
func (d *dice) one(l ...string) string {
	return l[d.under(len(l))]
}

// blank tells at most so many blanks.
func (d *dice) blank(most int) string {
	var b strings.Builder
	for range d.under(most + 1) {
		b.WriteByte(blanks[d.under(len(blanks))])
	}
	return b.String()
}

// word tells a string as JSON writes it.
func (d *dice) word() string {
	var b strings.Builder
	for range d.under(4) {
		b.WriteString(d.one("a", "[", "]", "{", "}", ",", ":", " ", "\u20ac", `\"`, `\\`, `\",`, `\u0022`, `\n`))
	}
	return `"` + b.String() + `"`
}

// parts tells the parts of a JSON text, between which blanks may stand, that nests at most so deep.
func (d *dice) parts(most int) []string {
	kind := d.under(8)
	if most == 0 || kind < 2 {
		return []string{d.one("null", "true", "false", d.word(), "0", "-1", "12.5e-7")}
	}
	object := kind < 5
	l := []string{"["}
	if object {
		l[0] = "{"
	}
	for n := range d.under(4) {
		if n > 0 {
			l = append(l, ",")
		}
		if object {
			l = append(l, d.word(), ":")
		}
		l = append(l, d.parts(most-1)...)
	}
	if object {
		return append(l, "}")
	}
	return append(l, "]")
}

// text tells a JSON text that nests at most so deep, with at most so many blanks at each place.
func (d *dice) text(deep, most int) string {
	s := d.blank(most)
	for _, x := range d.parts(deep) {
		s += x + d.blank(most)
	}
	return s
}

// closed is a string.
var closed = regexp.MustCompile(`(?s)"(\\.|[^"\\])*"`)

// told tells the places of the marks of a JSON text: those that are left when each string is gone.
func told(s string) []int {
	s = closed.ReplaceAllStringFunc(s, func(x string) string { return strings.Repeat("x", len(x)) })
	var l []int
	for at := range len(s) {
		if strings.IndexByte("[]{}:,", s[at]) >= 0 {
			l = append(l, at)
		}
	}
	return l
}

// signsOf tells the bits of the marks of a JSON text as signs.
func signsOf(s string) string {
	var b strings.Builder
	for _, at := range told(s) {
		switch s[at] {
		case '[', '{':
			b.WriteString("11")
		case ']', '}':
			b.WriteString("00")
		default:
			b.WriteString("01")
		}
	}
	return b.String()
}

// nests tells how deep arrays and objects are in one another, as their marks tell it.
func nests(s string) int {
	deep, most := 0, 0
	for _, at := range told(s) {
		switch s[at] {
		case '[', '{':
			deep++
			most = max(most, deep)
		case ']', '}':
			deep--
		}
	}
	return most
}

// isText tells whether s is a JSON text, as the library tells it.
func isText(s string) bool {
	return json.Valid([]byte(s)) && utf8.ValidString(s)
}

// refusal tells why s has no index, by the chapter's words.
func refusal(s string) api.Errno {
	switch {
	case len(s) > api.MaxRecord:
		return api.ErrLong
	case !isText(s):
		return api.ErrForm
	case nests(s) > api.MaxDeep:
		return api.ErrDeep
	}
	return api.OK
}

// boundOf tells the bound of a text's sequence.
func boundOf(s string) int {
	if len(told(s)) == 0 {
		return 1
	}
	return len(s)
}

// shown tells no more of s than can be read.
func shown(s string) string {
	return s[:min(len(s), 200)]
}

// made is the index of a text that has one.
func made(t *testing.T, s string) *semi.Index {
	t.Helper()
	x, e := semi.Make(s)
	if e != api.OK || x == nil {
		t.Fatalf("Make(%q): %v, %d", shown(s), x != nil, e)
	}
	return x
}

// loaded is the index of a text that has one, from its bytes.
func loaded(t *testing.T, s string) *semi.Index {
	t.Helper()
	x, e := semi.Load(s, made(t, s).Bytes())
	if e != api.OK || x == nil {
		t.Fatalf("Load(%q) of its own bytes: %v, %d", shown(s), x != nil, e)
	}
	return x
}

// checkNone asks of a text without an index that it has none, whatever bytes stand beside it.
func checkNone(t *testing.T, s string, want api.Errno) {
	t.Helper()
	if x, e := semi.Make(s); e != want || x != nil {
		t.Fatalf("Make(%q): %v, %d, want %d", shown(s), x != nil, e, want)
	}
	for _, bytes := range []string{"", "\x00", bytesOf("5"), bytesOf("[1,2]"), bytesOf("[1,2]")[:9], "\xff\xff\xff\xff\xff\xff\xff\xff"} {
		if x, e := semi.Load(s, bytes); e != want || x != nil {
			t.Fatalf("Load(%q, %q): %v, %d, want %d", shown(s), bytes, x != nil, e, want)
		}
	}
}

// checkMarks asks for all marks, and how many stand ahead of each place.
func checkMarks(t *testing.T, x *semi.Index, s string, places []int) {
	t.Helper()
	if n := x.Marks(); n != len(places) {
		t.Fatalf("Marks of %q: %d, want %d", shown(s), n, len(places))
	}
	for i, want := range places {
		if at, e := x.Mark(i); at != want || e != api.OK {
			t.Fatalf("Mark(%d) of %q: %d, %d, want %d", i, shown(s), at, e, want)
		}
	}
	for _, i := range []int{-1, -2, len(places), len(places) + 1, len(places) + 64, -64, 1 << 40, -1 << 40, math.MaxInt, math.MinInt, math.MaxInt - 1, math.MinInt + 1} {
		if at, e := x.Mark(i); at != 0 || e != api.ErrRange {
			t.Fatalf("Mark(%d) of %q: %d, %d", i, shown(s), at, e)
		}
	}
	ahead := 0
	for at := range len(s) + 3 {
		if n := x.Under(at); n != ahead {
			t.Fatalf("Under(%d) of %q: %d, want %d", at, shown(s), n, ahead)
		}
		if ahead < len(places) && places[ahead] == at {
			ahead++
		}
	}
	for _, at := range []int{-1, -2, -64, -1 << 40, math.MinInt, math.MinInt + 1} {
		if n := x.Under(at); n != 0 {
			t.Fatalf("Under(%d) of %q: %d", at, shown(s), n)
		}
	}
	for _, at := range []int{len(s) + 64, 1 << 17, 1 << 32, 1 << 40, 1<<40 + 1, math.MaxInt, math.MaxInt - 1} {
		if n := x.Under(at); n != len(places) {
			t.Fatalf("Under(%d) of %q: %d", at, shown(s), n)
		}
	}
}

// checkNest asks a nest whether its row has these bits: each 1 begins a node, and each 0 ends the one that was begun last.
func checkNest(t *testing.T, n *nest.Nest, s, signs string) {
	t.Helper()
	if n == nil || n.Nodes() != len(signs)/2 {
		t.Fatalf("the nest of %q has not %d nodes", shown(s), len(signs)/2)
	}
	var open []int
	for i, c := range signs {
		if c == '1' {
			open = append(open, i)
			continue
		}
		begin := open[len(open)-1]
		open = open[:len(open)-1]
		if at, e := n.Close(begin); at != i || e != api.OK {
			t.Fatalf("Close(%d) in the nest of %q: %d, %d, want %d", begin, shown(s), at, e, i)
		}
		if at, e := n.Open(i); at != begin || e != api.OK {
			t.Fatalf("Open(%d) in the nest of %q: %d, %d, want %d", i, shown(s), at, e, begin)
		}
	}
	for _, i := range []int{-1, len(signs)} {
		if _, e := n.Close(i); e != api.ErrArg {
			t.Fatalf("Close(%d) in the nest of %q: %d", i, shown(s), e)
		}
		if _, e := n.Open(i); e != api.ErrArg {
			t.Fatalf("Open(%d) in the nest of %q: %d", i, shown(s), e)
		}
	}
}

// rowOf tells signs as a row.
func rowOf(signs string) *bits.Row {
	var b bits.Builder
	for _, c := range signs {
		b.Bit(c == '1')
	}
	return b.Row()
}

// taken tells how many bits the parts of a text's index take, each one asked alone.
func taken(t *testing.T, s string) int {
	t.Helper()
	q, e := fano.Make(told(s), boundOf(s))
	if e != api.OK {
		t.Fatal(e)
	}
	n, e := nest.New(rowOf(signsOf(s)))
	if e != api.OK {
		t.Fatal(e)
	}
	return q.Size() + q.Over() + len(signsOf(s)) + n.Size()
}

// most tells the greatest size that may be, by the chapter's words.
func most(s string) int {
	marks, w := len(told(s)), 0
	for marks > 0 && marks<<w < len(s) {
		w++
	}
	return 4*marks + marks*w + 10*marks + 8192
}

// checkSize asks for the size.
func checkSize(t *testing.T, x *semi.Index, s string) {
	t.Helper()
	if n := x.Size(); n != taken(t, s) || n < 0 || n > most(s) {
		t.Fatalf("Size of %q: %d, its parts take %d, at most %d may be", shown(s), n, taken(t, s), most(s))
	}
}

// checkIndex asks an index for all that it is asked for.
func checkIndex(t *testing.T, x *semi.Index, s string) {
	t.Helper()
	if x.Text() != s {
		t.Fatalf("Text of %q is %q", shown(s), shown(x.Text()))
	}
	checkMarks(t, x, s, told(s))
	checkNest(t, x.Nest(), s, signsOf(s))
	if b := x.Bytes(); b != bytesOf(s) {
		t.Fatalf("Bytes of %q: %q, want %q", shown(s), shown(b), shown(bytesOf(s)))
	}
	checkSize(t, x, s)
}

// check asks of a text what must be answered of it: its index, made and loaded, or why it has none.
func check(t *testing.T, s string) {
	t.Helper()
	if e := refusal(s); e != api.OK {
		checkNone(t, s, e)
		return
	}
	checkIndex(t, made(t, s), s)
	checkIndex(t, loaded(t, s), s)
}

// eachText goes through all texts of at most so many of these bytes.
func eachText(of string, most int, see func(string)) {
	row := make([]byte, 0, most)
	var fill func()
	fill = func() {
		see(string(row))
		if len(row) == most {
			return
		}
		for at := range len(of) {
			row = append(row, of[at])
			fill()
			row = row[:len(row)-1]
		}
	}
	fill()
}

// P14.1: the chapter's example, and what follows from it.
func TestExample(t *testing.T) {
	x := made(t, "[1,2]")
	checkMarks(t, x, "[1,2]", []int{0, 2, 4})
	checkNest(t, x.Nest(), "[1,2]", "110100")
	checkIndex(t, x, "[1,2]")
}

// P14.1: indexes told one by one.
func TestMakeTold(t *testing.T) {
	for _, x := range []struct {
		s      string
		places []int
		signs  string
	}{
		// Without marks.
		{"5", nil, ""}, {"-1.5e+7", nil, ""}, {"null", nil, ""}, {"true", nil, ""}, {"false", nil, ""}, {`""`, nil, ""}, {`"a"`, nil, ""}, {" 5 ", nil, ""}, {"\t\n\r 0\r", nil, ""},
		// Marks in strings, and escapes.
		{`"[1,2]"`, nil, ""}, {`"{\"a\":1}"`, nil, ""}, {`"\\"`, nil, ""}, {`"\u005b"`, nil, ""}, {`["[",",:\"]"]`, []int{0, 4, 12}, "110100"}, {`["\\",1]`, []int{0, 5, 7}, "110100"}, {`{"\"":"}"}`, []int{0, 5, 9}, "110100"}, {`["\\\"]"]`, []int{0, 8}, "1100"}, {"[\"\u20ac,\"]", []int{0, 7}, "1100"},
		// Each kind of marks.
		{"[]", []int{0, 1}, "1100"}, {"{}", []int{0, 1}, "1100"}, {"[5]", []int{0, 2}, "1100"}, {`{"a":1}`, []int{0, 4, 6}, "110100"}, {"[1,2,3]", []int{0, 2, 4, 6}, "11010100"}, {`{"a":1,"b":2}`, []int{0, 4, 6, 10, 12}, "1101010100"},
		// In one another.
		{"[[]]", []int{0, 1, 2, 3}, "11110000"}, {"[{}]", []int{0, 1, 2, 3}, "11110000"}, {`{"":[]}`, []int{0, 3, 4, 5, 6}, "1101110000"}, {`{"":{}}`, []int{0, 3, 4, 5, 6}, "1101110000"}, {"[[],[]]", []int{0, 1, 2, 3, 4, 5, 6}, "11110001110000"}, {`[1,{"a":2}]`, []int{0, 2, 3, 7, 9, 10}, "110111010000"}, {"[[[1],2],3]", []int{0, 1, 2, 4, 5, 7, 8, 10}, "1111110001000100"},
		// Blanks.
		{" [ 1 , 2 ] ", []int{1, 5, 9}, "110100"}, {"\n{\t\"a\"\r:\n1\t}\r", []int{1, 7, 11}, "110100"}, {"[]     ", []int{0, 1}, "1100"}, {"     []", []int{5, 6}, "1100"}, {"[    ]", []int{0, 5}, "1100"},
	} {
		for _, i := range []*semi.Index{made(t, x.s), loaded(t, x.s)} {
			if i.Text() != x.s {
				t.Errorf("Text of %q is %q", x.s, i.Text())
			}
			checkMarks(t, i, x.s, x.places)
			checkNest(t, i.Nest(), x.s, x.signs)
			checkIndex(t, i, x.s)
		}
	}
}

// P14.1: what is no JSON text has no index.
func TestNoText(t *testing.T) {
	for _, s := range []string{
		"", " ", "\t", "\n", "\r", " \t\n\r", strings.Repeat(" ", 1000), strings.Repeat("\n", api.MaxRecord),
		"[", "]", "{", "}", ":", ",", "[]]", "[[]", "[}", "{]", "][", "[1,]", "[,1]", "[,]", "[1 2]", "[1:2]", "{1:2}", `{"a"}`, `{"a":}`, `{"a":1,}`, `{:1}`, `{"a",1}`, "1,2", "1 2", `"a":1`,
		"[1,2", "[1,", "[1", `{"a":1`, `{"a":`, `{"a"`, `{"a`, `"a`, `"`, `"\`, "tru", "nul", "fals", "-", "1.", "1e", `"\u00`,
		"[1,2]x", "[1,2][", "[1,2],", "[]\x00", "5,", "{}{}", "[] []", "nullnull", "0\x0b", "\x0c0", "\ufeff[]", "\u00a05",
		"01", "+1", ".5", "1.e5", "0x1", "NaN", "'a'", "True", `"\x"`, "\"\n\"", "\"\x00\"", "\"\t\"",
		"\xff", "[\xff]", "\"\xff\"", "[\"\xe2\x82\"]", "\"\xc0\xaf\"", "\"\xed\xa0\x80\"", "\"\xf4\x90\x80\x80\"", "[1]\x80", "\x80[1]", "{\"\xc3\":1}",
	} {
		if e := refusal(s); e != api.ErrForm {
			t.Fatalf("the library takes %q", s)
		}
		checkNone(t, s, api.ErrForm)
	}
}

// P14.1: all short rows of the bytes that mean something, and of some that do not.
func TestAllShort(t *testing.T) {
	eachText(`[]{}:,"1 \`, 4, func(s string) { check(t, s) })
	eachText(`[]{},"0`, 5, func(s string) { check(t, s) })
	eachText(`[],0`, 7, func(s string) { check(t, s) })
}

// P14.1: each byte at each place of some texts, in the stead of what stands there, and ahead of it.
func TestEachByteAtEachPlace(t *testing.T) {
	for _, s := range []string{"5", "[]", `{"a":[1,"b\"]"]}`, "[\"\u20ac\"]"} {
		for at := range len(s) + 1 {
			for c := range 256 {
				b := string([]byte{byte(c)})
				check(t, s[:at]+b+s[at:])
				if at < len(s) {
					check(t, s[:at]+b+s[at+1:])
				}
			}
		}
	}
}

// P14.1: each beginning of some texts, and each end.
func TestCutOff(t *testing.T) {
	for _, s := range []string{`{"a":[1,{"b":null}],"c":"\\]"}`, ` [ [ ] , { } , "," ] `, "12.5e-7", "\"\u20ac\\u20ac\""} {
		for at := range len(s) + 1 {
			check(t, s[:at])
			check(t, s[at:])
		}
	}
}

// P14.1: texts that are thrown, and those with one byte gone, put in or changed.
func TestThrown(t *testing.T) {
	d := dice(1401)
	for range 6000 {
		s := d.text(d.under(7), 2)
		check(t, s)
		at := d.under(len(s))
		switch c := d.one(`"`, `\`, "[", "]", "{", "}", ":", ",", " ", "0", "a", "\xff"); d.under(3) {
		case 0:
			s = s[:at] + s[at+1:]
		case 1:
			s = s[:at] + c + s[at:]
		case 2:
			s = s[:at] + c + s[at+1:]
		}
		check(t, s)
	}
}

// P14.1: blanks of each kind, ahead, behind and between, move the marks, and no more.
func TestBlanks(t *testing.T) {
	parts := []string{"{", `"a"`, ":", "[", "1", ",", `"b]\" "`, ",", "{", "}", "]", ",", `""`, ":", "null", "}"}
	whole := strings.Join(parts, "")
	for n := range len(parts) + 1 {
		head, tail := strings.Join(parts[:n], ""), strings.Join(parts[n:], "")
		for _, c := range append(strings.Split(blanks, ""), blanks) {
			for _, many := range []int{1, 2, 63, 64, 65} {
				row := strings.Repeat(c, many)
				s := head + row + tail
				want := told(whole)
				for i := range want {
					if want[i] >= len(head) {
						want[i] += len(row)
					}
				}
				x := made(t, s)
				checkMarks(t, x, s, want)
				checkNest(t, x.Nest(), s, signsOf(whole))
				check(t, s)
			}
		}
	}
}

// deep tells a text that nests so deep, of these beginnings and ends one in another.
func deep(head, middle, tail string, n int) string {
	return strings.Repeat(head, n) + middle + strings.Repeat(tail, n)
}

// P14.1: up to MaxDeep, and one deeper; what is no JSON text is told as that, however deep it is.
func TestDeep(t *testing.T) {
	for _, x := range [][3]string{{"[", "", "]"}, {"[", "5", "]"}, {`{"a":`, "1", "}"}, {`{"":`, "{}", "}"}, {"[", "[]", "]"}, {" [ ", " 1 ", " ] "}, {"[0,", "1", "]"}, {"[", `"[[["`, "]"}} {
		own := nests(x[1])
		for _, n := range []int{1, 2, 63, 64, 65, api.MaxDeep - 1 - own, api.MaxDeep - own} {
			check(t, deep(x[0], x[1], x[2], n))
			if e := refusal(deep(x[0], x[1], x[2], n)); e != api.OK {
				t.Fatalf("%d times %q is told as %d", n, x[0], e)
			}
		}
		for _, n := range []int{api.MaxDeep + 1 - own, api.MaxDeep + 2 - own, api.MaxDeep + 1000} {
			s := deep(x[0], x[1], x[2], n)
			checkNone(t, s, api.ErrDeep)
			checkNone(t, blanks+s+blanks, api.ErrDeep)
			// Too deep, and no JSON text.
			checkNone(t, s[:len(s)-len(x[2])], api.ErrForm)
			checkNone(t, s+"]", api.ErrForm)
			checkNone(t, s+"\xff", api.ErrForm)
			checkNone(t, x[0]+s, api.ErrForm)
			checkNone(t, strings.Repeat(x[0], n), api.ErrForm)
			// Too deep, and too long.
			checkNone(t, s+strings.Repeat(" ", api.MaxRecord), api.ErrLong)
		}
	}
	checkNone(t, "[1,"+deep("[", "", "]", api.MaxDeep)+"]", api.ErrDeep)
	check(t, "[1,"+deep("[", "", "]", api.MaxDeep-1)+"]")
	check(t, "["+strings.Repeat(deep("[", "", "]", api.MaxDeep-1)+",", 7)+"1]")
	checkNone(t, deep("[", "", "]", api.MaxRecord/2), api.ErrDeep)
	checkNone(t, deep("[", "", "]", api.MaxRecord/2+1), api.ErrLong)
	checkNone(t, strings.Repeat("[", api.MaxRecord), api.ErrForm)
	checkNone(t, strings.Repeat("[", api.MaxRecord+1), api.ErrLong)
}

// P14.1: as many bytes as MaxRecord, and one more, which is told ahead of all else.
func TestLengths(t *testing.T) {
	for _, x := range [][3]string{{`"`, "a", `"`}, {"", "1", ""}, {" ", " ", "5"}, {"5", "\n", " "}, {"[", " ", "]"}, {"[0", ",0", "]"}, {"[", "[],", "0]"}, {`{"`, "a", `":1}`}, {`["`, ",", `"]`}} {
		for n := api.MaxRecord - 4; n <= api.MaxRecord+4; n++ {
			more := n - len(x[0]) - len(x[2])
			s := x[0] + strings.Repeat(x[1], more/len(x[1])) + x[2] + strings.Repeat(" ", more%len(x[1]))
			if len(s) != n {
				t.Fatal(len(s))
			}
			if n > api.MaxRecord {
				checkNone(t, s, api.ErrLong)
				checkNone(t, s[1:]+"\xff", api.ErrLong)
				continue
			}
			check(t, s)
			if n == api.MaxRecord || n < api.MaxRecord-3 {
				checkNone(t, s[:len(s)-1]+"\xff", api.ErrForm)
			}
		}
	}
	checkNone(t, strings.Repeat(" ", api.MaxRecord), api.ErrForm)
	checkNone(t, strings.Repeat(" ", api.MaxRecord+1), api.ErrLong)
	checkNone(t, strings.Repeat("\xff", api.MaxRecord+1), api.ErrLong)
	checkNone(t, strings.Repeat("[1,2]", 1<<18), api.ErrLong)
}

// P14.1: Mark and Under, told one by one.
func TestMarkAndUnderTold(t *testing.T) {
	const s = ` {"a" : [10,"]"]} `
	for _, x := range []*semi.Index{made(t, s), loaded(t, s)} {
		for i, want := range []int{1, 6, 8, 11, 15, 16} {
			if at, e := x.Mark(i); at != want || e != api.OK {
				t.Errorf("Mark(%d) is %d, %d", i, at, e)
			}
		}
		for at, want := range map[int]int{
			math.MinInt: 0, -1000: 0, -1: 0, 0: 0, 1: 0, 2: 1, 5: 1, 6: 1, 7: 2, 8: 2, 9: 3, 10: 3, 11: 3, 12: 4, 13: 4, 14: 4, 15: 4, 16: 5, 17: 6, 18: 6, 19: 6, 1000: 6, api.MaxRecord: 6, math.MaxInt: 6,
		} {
			if n := x.Under(at); n != want {
				t.Errorf("Under(%d) is %d", at, n)
			}
		}
	}
}

// P14.1: a mark at each place of a record, where one may be.
func TestOneMarkMoved(t *testing.T) {
	const n = 600
	for at := 2; at < n-2; at++ {
		s := "[" + strings.Repeat("1", at-1) + "," + strings.Repeat("2", n-at-2) + "]"
		x := made(t, s)
		if m, e := x.Mark(1); m != at || e != api.OK || x.Marks() != 3 {
			t.Fatalf("Mark(1) is %d, %d, want %d of three", m, e, at)
		}
		if x.Under(at) != 1 || x.Under(at+1) != 2 {
			t.Fatalf("Under(%d) is %d, and then %d", at, x.Under(at), x.Under(at+1))
		}
	}
}

// P14.1: two records in an array have the marks of both, and three more.
func TestTwoInAnArray(t *testing.T) {
	d := dice(1402)
	for range 1500 {
		a, b := d.text(d.under(5), 2), d.text(d.under(5), 2)
		s := "[" + a + "," + b + "]"
		x, y := made(t, a), made(t, b)
		want := []int{0}
		for i := range x.Marks() {
			at, _ := x.Mark(i)
			want = append(want, 1+at)
		}
		want = append(want, 1+len(a))
		for i := range y.Marks() {
			at, _ := y.Mark(i)
			want = append(want, 2+len(a)+at)
		}
		want = append(want, len(s)-1)
		for _, z := range []*semi.Index{made(t, s), loaded(t, s)} {
			if z.Marks() != x.Marks()+y.Marks()+3 {
				t.Fatalf("%q has %d marks", s, z.Marks())
			}
			checkMarks(t, z, s, want)
			checkNest(t, z.Nest(), s, "11"+signsOf(a)+"01"+signsOf(b)+"00")
		}
	}
}

// P14.1: lists of many numbers: a mark behind each of them, and one ahead.
func TestManyNumbers(t *testing.T) {
	for _, item := range []string{"1", "-12", "3.25e-10", strings.Repeat("7", 200)} {
		fit := (api.MaxRecord - 1) / (len(item) + 1)
		for _, n := range []int{1, 2, 3, 63, 64, 65, min(1000, fit-1), fit} {
			s := "[" + strings.Repeat(item+",", n-1) + item + "]"
			for _, x := range []*semi.Index{made(t, s), loaded(t, s)} {
				want := []int{0}
				for i := range n {
					want = append(want, (i+1)*(len(item)+1))
				}
				checkMarks(t, x, s, want)
				if many, e := x.Nest().Count(0); many != n || e != api.OK {
					t.Fatalf("%d numbers: the node 0 has %d children, %d", n, many, e)
				}
				checkIndex(t, x, s)
			}
		}
	}
}

// P14.2: the size is within its bound, of no marks, of few ones in many bytes, and of many.
func TestSizes(t *testing.T) {
	d := dice(1403)
	texts := []string{"5", "[]", "[[]]", `"` + strings.Repeat("[", 60000) + `"`, strings.Repeat(" ", 65535) + "1", "[" + strings.Repeat(" ", 65534) + "]", "[" + strings.Repeat("9", 30000) + "," + strings.Repeat("9", 30000) + "]", "[0" + strings.Repeat(",0", 32766) + "]", "[[]" + strings.Repeat(",[]", 21844) + "]", deep("[", "", "]", api.MaxDeep), deep(`{"":`, "0", "}", api.MaxDeep)}
	for n := 1; n < 1<<15; n *= 2 {
		for _, by := range []int{n - 1, n, n + 1} {
			texts = append(texts, "[0"+strings.Repeat(",0", by)+"]", "[[]"+strings.Repeat(",[]", by/2)+strings.Repeat(" ", by/2)+"]", "["+strings.Repeat(" ", by)+"]", "[0"+strings.Repeat(","+strings.Repeat("1", 1+d.under(60)), by/60)+"]")
		}
	}
	for _, s := range texts {
		x, y := made(t, s), loaded(t, s)
		checkSize(t, x, s)
		checkSize(t, y, s)
		// Two bits of each mark are there at least, and as many of a sequence's high row.
		if x.Size() < 3*x.Marks() || x.Size() != y.Size() {
			t.Fatalf("Size of %q is %d, loaded %d", shown(s), x.Size(), y.Size())
		}
	}
}

// P14.2: the rows of the chapter's example have 8 and 6 bits.
func TestSizeTold(t *testing.T) {
	x := made(t, "[1,2]")
	q, e := fano.Make([]int{0, 2, 4}, 5)
	if e != api.OK || q.Size() != 8 {
		t.Fatalf("the sequence has %d bits, %d", q.Size(), e)
	}
	if n := x.Size(); n != 8+6+q.Over()+x.Nest().Size() {
		t.Errorf("Size is %d", n)
	}
	if n := made(t, "5").Size(); n < 1 || n > 8192 {
		t.Errorf("Size without marks is %d", n)
	}
	for s, w := range map[string]int{"[]": 0, "[ ]": 1, "[  ]": 1, "[   ]": 2, "[1,2]": 1, "[1,2] ": 1, "[1,23] ": 2} {
		if n := len(told(s)); most(s) != 14*n+n*w+8192 {
			t.Errorf("the test's bound of %q is %d", s, most(s))
		}
	}
}

// R5: what is handed in and handed out is left as it is, however often it is asked, and whatever else is made.
func TestNothingChanges(t *testing.T) {
	const s, other = `[1,{"a":[2,"]"]}]`, `{"b":[[],[]]}`
	x, y := loaded(t, s), made(t, other)
	bytes, tree, size := x.Bytes(), x.Nest(), x.Size()
	for range 3 {
		checkIndex(t, x, s)
		checkIndex(t, y, other)
		checkNest(t, tree, s, signsOf(s))
		if x.Size() != size || x.Bytes() != bytes || bytes != bytesOf(s) {
			t.Fatalf("Size is %d, and was %d", x.Size(), size)
		}
		checkLoad(t, s, y.Bytes(), api.ErrStale)
		checkLoad(t, other, bytes, api.ErrStale)
		checkLoad(t, other, bytes[1:], api.ErrForm)
	}
}
