package semi_test

import (
	"math"
	"strings"
	"testing"

	"lacework/api"
	"lacework/semi"
)

// digits tells the n bits of v, the bit 0 first, as signs.
func digits(v, n int) string {
	var b strings.Builder
	for i := range n {
		b.WriteByte('0' + byte(v>>i&1))
	}
	return b.String()
}

// valueOf tells the number that signs are.
func valueOf(signs string) int {
	v := 0
	for i := range len(signs) {
		v |= int(signs[i]-'0') << i
	}
	return v
}

// eight tells eight bytes of n, the least one first.
func eight(n uint64) string {
	var b []byte
	for i := range 8 {
		b = append(b, byte(n>>(8*i)))
	}
	return string(b)
}

// packed tells the bytes of the row with these signs, by layer 2's words.
func packed(signs string) string {
	b := make([]byte, (len(signs)+63)/64*8)
	for i := range len(signs) {
		b[i/8] |= (signs[i] - '0') << (i % 8)
	}
	return eight(uint64(len(signs))) + string(b)
}

// unpacked tells the signs of the row whose bytes these are, and whether they are some row's.
func unpacked(s string) (string, bool) {
	if len(s) < 8 {
		return "", false
	}
	n := 0
	for i := 7; i >= 0; i-- {
		n = n<<8 | int(s[i])
		if n > 1<<32 {
			return "", false
		}
	}
	if n > 8*(len(s)-8) {
		return "", false
	}
	var b strings.Builder
	for i := range n {
		b.WriteByte('0' + s[8+i/8]>>(i%8)&1)
	}
	return b.String(), packed(b.String()) == s
}

// widthOf tells a sequence's width, by layer 5's words.
func widthOf(n, bound int) int {
	w := 0
	for n > 0 && bound >= 2*n && bound/n>>(w+1) > 0 {
		w++
	}
	return w
}

// sequence tells the bytes of the sequence of these numbers, by layer 5's words.
func sequence(l []int, bound int) string {
	w := widthOf(len(l), bound)
	var low, high strings.Builder
	last := 0
	for _, x := range l {
		low.WriteString(digits(x, w))
		high.WriteString(strings.Repeat("0", x>>w-last) + "1")
		last = x >> w
	}
	rest := len(l) + (bound-1)>>w + 1 - high.Len()
	return packed(digits(len(l), 24) + digits(bound, 41) + low.String() + high.String() + strings.Repeat("0", rest))
}

// isSequence tells whether these are some sequence's bytes: what is read of them is written again.
func isSequence(s string) bool {
	signs, ok := unpacked(s)
	if !ok || len(signs) < 65 {
		return false
	}
	n, bound := valueOf(signs[:24]), valueOf(signs[24:65])
	w := widthOf(n, bound)
	if bound < 1 || bound > 1<<40 || len(signs) != 65+n*w+n+(bound-1)>>w+1 {
		return false
	}
	low, high := signs[65:65+n*w], signs[65+n*w:]
	var l []int
	zeros := 0
	for i := range len(high) {
		switch {
		case high[i] == '0':
			zeros++
		case len(l) == n:
			return false
		default:
			l = append(l, zeros<<w|valueOf(low[len(l)*w:(len(l)+1)*w]))
		}
	}
	for i, x := range l {
		if x >= bound || i > 0 && x < l[i-1] {
			return false
		}
	}
	return len(l) == n && sequence(l, bound) == s
}

// isBalanced tells whether these are some balanced row's bytes.
func isBalanced(s string) bool {
	signs, ok := unpacked(s)
	excess := 0
	for i := range len(signs) {
		if signs[i] == '1' {
			excess++
		} else {
			excess--
		}
		ok = ok && excess >= 0
	}
	return ok && excess == 0
}

// joined tells two parts' bytes as an index has them.
func joined(places, parens string) string {
	return eight(uint64(len(places))) + places + parens
}

// bytesOf tells the bytes of a text's index, by the chapter's words.
func bytesOf(s string) string {
	return joined(sequence(told(s), boundOf(s)), packed(signsOf(s)))
}

// formed tells whether bytes are a sequence's and a balanced row's, as an index has them.
func formed(s string) bool {
	if len(s) < 8 || s[4:8] != "\x00\x00\x00\x00" {
		return false
	}
	n := int(s[0]) | int(s[1])<<8 | int(s[2])<<16 | int(s[3])<<24
	return n <= len(s)-8 && isSequence(s[8:8+n]) && isBalanced(s[8+n:])
}

// verdict tells what Load must answer of a text that has an index.
func verdict(s, bytes string) api.Errno {
	switch {
	case bytes == bytesOf(s):
		return api.OK
	case formed(bytes):
		return api.ErrStale
	}
	return api.ErrForm
}

// checkLoad asks of a text that has an index, and of bytes, for that error.
func checkLoad(t *testing.T, s, bytes string, want api.Errno) {
	t.Helper()
	if v := verdict(s, bytes); v != want {
		t.Fatalf("the test tells %d of %q beside %q, and %d", want, bytes, shown(s), v)
	}
	x, e := semi.Load(s, bytes)
	if e != want || (x != nil) != (want == api.OK) {
		t.Fatalf("Load(%q, %q): %v, %d, want %d", shown(s), bytes, x != nil, e, want)
	}
	if x != nil && (x.Text() != s || x.Bytes() != bytes) {
		t.Fatalf("Load(%q, %q) tells the text %q, the bytes %q", shown(s), bytes, x.Text(), x.Bytes())
	}
}

// look holds what is told of bytes beside a text against the chapter's words.
func look(t *testing.T, s, bytes string) {
	t.Helper()
	checkLoad(t, s, bytes, verdict(s, bytes))
}

// samples are some records.
func samples() []string {
	return []string{"5", ` "[,]" `, "[]", "{}", "[1,2]", `{"a":1}`, "[[],[]]", `[1,{"a":[2,"]"]}]`, strings.Repeat(" ", 70) + "[]", "[0" + strings.Repeat(",0", 40) + "]"}
}

// P14.2: bytes told one by one.
func TestBytesTold(t *testing.T) {
	const none = "\x00\x00\x00\x00\x00\x00\x00"
	for s, want := range map[string]string{
		// The sequence has 73 bits: 24 of the 3, 41 of the 5, and 1 0 0 1 0 0 1 0.
		"[1,2]": "\x18" + none + "\x49" + none + "\x03\x00\x00\x05\x00\x00\x00\x00" + "\x92" + none + "\x06" + none + "\x0b" + none,
		// Without marks the bound is 1, and one bit follows, a 0.
		"5":      "\x18" + none + "\x42" + none + "\x00\x00\x00\x01\x00\x00\x00\x00" + "\x00" + none + "\x00" + none,
		" null ": "\x18" + none + "\x42" + none + "\x00\x00\x00\x01\x00\x00\x00\x00" + "\x00" + none + "\x00" + none,
		// The places 0 and 1 below 2: no low bits, and 1 0 1 0.
		"[]": "\x18" + none + "\x45" + none + "\x02\x00\x00\x02\x00\x00\x00\x00" + "\x0a" + none + "\x04" + none + "\x03" + none,
		// The places 0 and 3 below 4: the width is 1, the low row 0 1, the high row 1 0 1 0.
		"{  }": "\x18" + none + "\x47" + none + "\x02\x00\x00\x04\x00\x00\x00\x00" + "\x2c" + none + "\x04" + none + "\x03" + none,
	} {
		if b := made(t, s).Bytes(); b != want || b != bytesOf(s) {
			t.Errorf("Bytes of %q are %q, want %q", s, b, want)
		}
		checkLoad(t, s, want, api.OK)
	}
}

// P14.2: the eight bytes ahead tell how long the sequence is, also where that takes more than one of them.
func TestBytesAhead(t *testing.T) {
	lengths := map[int]bool{}
	for n := 1; n < 32000; n = n*2 + 1 {
		s := "[0" + strings.Repeat(",0", n) + "]"
		b := made(t, s).Bytes()
		head := len(sequence(told(s), len(s)))
		lengths[(head>>8+255)/256] = true
		if b[:8] != eight(uint64(head)) || b[8:8+head] != sequence(told(s), len(s)) || b[8+head:] != packed(signsOf(s)) {
			t.Errorf("Bytes of %d numbers have %d bytes, beginning with %q", n, len(b), b[:8])
		}
		checkLoad(t, s, b, api.OK)
	}
	if len(lengths) < 2 {
		t.Error("none of the sequences takes more than 255 bytes")
	}
}

// P14.2: bytes that are cut off at each place, or have others behind them.
func TestLoadCutOff(t *testing.T) {
	for _, s := range samples() {
		b := made(t, s).Bytes()
		for at := range len(b) {
			checkLoad(t, s, b[:at], api.ErrForm)
			look(t, s, b[at:])
		}
		checkLoad(t, s, b, api.OK)
		for c := range 256 {
			checkLoad(t, s, b+string([]byte{byte(c)}), api.ErrForm)
		}
		checkLoad(t, s, b+eight(0), api.ErrForm)
		checkLoad(t, s, eight(0)+b, api.ErrForm)
		checkLoad(t, s, b+b, api.ErrForm)
		checkLoad(t, s, b+strings.Repeat("\x00", 1000), api.ErrForm)
		for at := range len(b) + 1 {
			look(t, s, b[:at]+"\x00"+b[at:])
			look(t, s, b[:at]+eight(0)+b[at:])
			look(t, s, b[:at]+b[min(at+8, len(b)):])
		}
	}
}

// P14.2: each byte of an index's bytes, changed to each other one.
func TestLoadEachByteChanged(t *testing.T) {
	stale := 0
	for _, s := range samples() {
		b := []byte(made(t, s).Bytes())
		for at, is := range b {
			for c := range 256 {
				b[at] = byte(c)
				e := verdict(s, string(b))
				if (e == api.OK) != (byte(c) == is) {
					t.Fatalf("%q at %d of %q: %d", byte(c), at, s, e)
				}
				checkLoad(t, s, string(b), e)
				if e == api.ErrStale {
					stale++
				}
			}
			b[at] = is
		}
	}
	// Places and bits that may be those of other records are among them.
	if stale < 20 {
		t.Errorf("only %d of them are stale", stale)
	}
}

// P14.2: no bytes, and fewer than eight.
func TestLoadFew(t *testing.T) {
	for _, s := range samples() {
		for n := range 17 {
			for _, c := range []string{"\x00", "\x01", "\x08", "\xff"} {
				checkLoad(t, s, strings.Repeat(c, n), api.ErrForm)
			}
			checkLoad(t, s, (eight(0) + eight(0))[:n], api.ErrForm)
		}
	}
}

// P14.2: eight bytes ahead that tell too few, too many, and far more than there are.
func TestLoadWrongCount(t *testing.T) {
	for _, s := range samples() {
		b := made(t, s).Bytes()
		places := len(sequence(told(s), boundOf(s)))
		for n := range len(b) + 20 {
			want := api.ErrForm
			if n == places {
				want = api.OK
			}
			checkLoad(t, s, eight(uint64(n))+b[8:], want)
		}
		for _, n := range []uint64{1 << 16, 1 << 31, 1 << 32, 1 << 40, math.MaxInt, 1 << 63, math.MaxUint64} {
			for _, more := range []uint64{0, 1, 7, 8, uint64(places), uint64(len(b)), math.MaxUint64, math.MaxUint64 - 7, -uint64(places), -uint64(len(b))} {
				if n+more == uint64(places) {
					continue
				}
				checkLoad(t, s, eight(n+more)+b[8:], api.ErrForm)
			}
		}
		for at := range 64 {
			if uint64(places)&(1<<at) == 0 {
				checkLoad(t, s, eight(uint64(places)|1<<at)+b[8:], api.ErrForm)
			}
		}
	}
}

// P14.2: a first part that is no sequence's.
func TestLoadNoSequence(t *testing.T) {
	const s = "[1,2]"
	parens := packed("110100")
	for name, places := range map[string]string{
		"nothing":                     "",
		"no bits":                     packed(""),
		"too few bits":                packed(digits(3, 24) + digits(5, 40)),
		"no rows":                     packed(digits(3, 24) + digits(5, 41)),
		"a bound of 0":                packed(digits(0, 24) + digits(0, 41)),
		"a bound of 0, and a bit":     packed(digits(0, 24) + digits(0, 41) + "0"),
		"a bound that is too great":   packed(digits(3, 24) + digits(1<<40+1, 41) + "10010010"),
		"fewer numbers":               packed(digits(2, 24) + digits(5, 41) + "10010010"),
		"more numbers":                packed(digits(4, 24) + digits(5, 41) + "10010010"),
		"more 1s":                     packed(digits(3, 24) + digits(5, 41) + "10010011"),
		"fewer 1s":                    packed(digits(3, 24) + digits(5, 41) + "10010000"),
		"a number that is the bound":  packed(digits(3, 24) + digits(5, 41) + "10010001"),
		"a bit more":                  packed(digits(3, 24) + digits(5, 41) + "100100100"),
		"a bit less":                  packed(digits(3, 24) + digits(5, 41) + "1001001"),
		"a row of other bits":         parens,
		"bits behind the row":         sequence([]int{0, 2, 4}, 5)[:16] + "\xff\x00\x00\x00\x00\x00\x00\x00",
		"a row that is told too long": eight(129) + sequence([]int{0, 2, 4}, 5)[8:],
		"no whole words":              sequence([]int{0, 2, 4}, 5)[:23],
		"a word more":                 sequence([]int{0, 2, 4}, 5) + eight(0),
		"numbers that do not rise":    packed(digits(2, 24) + digits(8, 41) + "1100" + "11000"),
	} {
		if isSequence(places) {
			t.Fatalf("%s: the test takes it for a sequence", name)
		}
		checkLoad(t, s, joined(places, parens), api.ErrForm)
		// With a second part that is wrong in another way it is no better.
		checkLoad(t, s, joined(places, packed("1101")), api.ErrForm)
		checkLoad(t, s, joined(places, ""), api.ErrForm)
	}
	checkLoad(t, s, joined(sequence([]int{0, 2, 4}, 5), parens), api.OK)
}

// P14.2: a second part that is no row's, or a row's that isn't balanced.
func TestLoadNoBalancedRow(t *testing.T) {
	const s = "[1,2]"
	for _, places := range []string{sequence([]int{0, 2, 4}, 5), sequence([]int{0, 1, 4}, 5), sequence(nil, 1), sequence(nil, 1000), sequence([]int{7}, 100)} {
		for _, parens := range []string{
			"", "\x00", eight(0)[:7], eight(0) + "\x00", eight(0) + eight(0), eight(1), eight(64), eight(6), eight(6) + "\x0b", eight(6) + eight(0x4b), eight(6) + eight(1<<63|0x0b), eight(65) + eight(0x0b), eight(1<<32 + 1), eight(math.MaxUint64), eight(1<<63) + eight(0x0b), packed("110100") + eight(0), packed("110100")[1:],
			packed("1"), packed("0"), packed("01"), packed("11"), packed("00"), packed("100"), packed("1001"), packed("0011"), packed("0110"), packed("1101"), packed("11010"), packed("1101000"), packed("110110"), packed("010011"), packed("111111"), packed("000000"), packed("110001"), packed("11001"),
			packed(strings.Repeat("1", 512)), packed(strings.Repeat("10", 400) + "01"), packed(strings.Repeat("1", 600) + strings.Repeat("0", 601)), packed(strings.Repeat("1", 601) + strings.Repeat("0", 600)),
		} {
			if isBalanced(parens) {
				t.Fatalf("the test takes %q for a balanced row", parens)
			}
			checkLoad(t, s, joined(places, parens), api.ErrForm)
		}
	}
}

// P14.2: a sequence and a balanced row that are not those of the record, be they some record's or not.
func TestLoadStale(t *testing.T) {
	const s = "[1,2]"
	own, parens := sequence([]int{0, 2, 4}, 5), packed("110100")
	for _, places := range []string{
		sequence([]int{0, 3, 4}, 5), sequence([]int{0, 1, 4}, 5), sequence([]int{0, 2, 3}, 5), sequence([]int{1, 2, 4}, 5), sequence([]int{0, 0, 0}, 5), sequence([]int{2, 2, 4}, 5),
		sequence([]int{0, 2, 4}, 6), sequence([]int{0, 2, 4}, 100), sequence([]int{0, 2, 4}, 1<<30),
		sequence([]int{0, 4}, 5), sequence([]int{0, 2, 4, 4}, 5), sequence([]int{0, 1, 2, 3, 4}, 5), sequence([]int{0}, 1), sequence(nil, 1), sequence(nil, 5), sequence(nil, 5000),
	} {
		checkLoad(t, s, joined(places, parens), api.ErrStale)
		checkLoad(t, s, joined(places, packed("")), api.ErrStale)
		checkLoad(t, s, joined(places, packed("10")), api.ErrStale)
	}
	for _, signs := range []string{"", "10", "1010", "1100", "110010", "101010", "101100", "111000", "11010100", "1101001100", strings.Repeat("10", 3000), strings.Repeat("1", 3000) + strings.Repeat("0", 3000)} {
		checkLoad(t, s, joined(own, packed(signs)), api.ErrStale)
	}
	checkLoad(t, s, joined(own, parens), api.OK)
}

// P14.2: the bytes of another record's index are that one's; they serve where marks and bits are the same, and the length.
func TestLoadOfOthers(t *testing.T) {
	for _, x := range []struct {
		s, other string
		want     api.Errno
	}{
		// The same marks with the same bits, in another text.
		{"[1,2]", "[3,4]", api.OK}, {"[1,2]", "[7,9]", api.OK}, {"[]", "{}", api.OK}, {"[[],{}]", "[{},[]]", api.OK}, {"5", "null", api.OK}, {"5", `"[1,2]"`, api.OK}, {"5", strings.Repeat(" ", 300) + "true", api.OK}, {`["a",""]`, `["b",12]`, api.OK}, {`{"a":1}`, `{"b":2}`, api.OK}, {`{"a":1}`, `["b",2]`, api.OK}, {"[12]", "[3 ]", api.OK}, {`["\\",1]`, `["\"",1]`, api.OK}, {" [] ", "\n{}\t", api.OK}, {"[1]", "[ ]", api.OK},
		// Other marks.
		{"[1,2]", "[123]", api.ErrStale}, {"[1,2]", "12345", api.ErrStale}, {"12345", "[1,2]", api.ErrStale}, {"[1,2]", "[1,2,3]", api.ErrStale}, {"[1]", "[[]]", api.ErrStale}, {"[1,2]", "[]", api.ErrStale}, {`["a",1]`, `["a,1"]`, api.ErrStale},
		// As many marks at other places.
		{"[1,23]", "[12,3]", api.ErrStale}, {"[1 ]", " [1]", api.ErrStale}, {"[]", "[ ]", api.ErrStale}, {`{"a":1}`, `{"":10}`, api.ErrStale},
		// Right there, but in a text of another length.
		{"[1,2]", "[1,2] ", api.ErrStale}, {"[1,2] ", "[1,2]", api.ErrStale}, {"[]", "[]  ", api.ErrStale}, {"{} ", "{}", api.ErrStale},
		// The same marks of other bits.
		{"[[],1]", "[1,[]]", api.ErrStale}, {"[[],[[]]]", "[[[]],[]]", api.ErrStale}, {"[[[]],[]]", "[[],[[]]]", api.ErrStale}, {`{"":[[]]}`, `{"":[[]]}`, api.OK},
	} {
		b := made(t, x.other).Bytes()
		checkLoad(t, x.s, b, x.want)
		if x.want != api.OK {
			continue
		}
		y, _ := semi.Load(x.s, b)
		checkIndex(t, y, x.s)
	}
}

// P14.2: marks at the same places whose bits are others.
func TestLoadOtherBits(t *testing.T) {
	for _, x := range [][2]string{{"[[]]", "[,,]"}, {"[[ ],1]", "[1,[ ]]"}, {"[[],[]]", "[[[[]]]"}, {"[[],[[]]]", "[[[],[]]]"}, {"[[],[],[]]", "[[[]],[],]"}, {"[[[]],[]]", "[[],[[]]]"}} {
		// Of texts that are none the second part is put in by hand.
		b := joined(sequence(told(x[0]), len(x[0])), packed(signsOf(x[1])))
		look(t, x[0], b)
	}
	// Of two records with the same places: what one opens the other one closes.
	a, b := "[[],[[]]]", "[[[]],[]]"
	if len(told(a)) != len(told(b)) || sequence(told(a), len(a)) != sequence(told(b), len(b)) {
		t.Fatal("they have other places")
	}
	checkLoad(t, a, made(t, b).Bytes(), api.ErrStale)
	checkLoad(t, b, made(t, a).Bytes(), api.ErrStale)
	checkLoad(t, a, made(t, a).Bytes(), api.OK)
}

// P14.2: of all short records, each one's bytes beside each other one.
func TestLoadEachBesideEach(t *testing.T) {
	var records []string
	eachText(`[]{}:,"1`, 5, func(s string) {
		if refusal(s) == api.OK {
			records = append(records, s)
		}
	})
	if len(records) < 50 {
		t.Fatalf("only %d records", len(records))
	}
	all := map[string]string{}
	for _, s := range records {
		all[s] = made(t, s).Bytes()
	}
	same, other := 0, 0
	for _, s := range records {
		for _, b := range all {
			x, e := semi.Load(s, b)
			if b == all[s] {
				same++
				if e != api.OK || x == nil || x.Text() != s || x.Bytes() != b {
					t.Fatalf("Load(%q) of bytes like its own: %d", s, e)
				}
				continue
			}
			other++
			if e != api.ErrStale || x != nil {
				t.Fatalf("Load(%q, %q): %v, %d", s, b, x != nil, e)
			}
		}
	}
	if same <= len(records) || other == 0 {
		t.Errorf("%d are alike, %d are not", same, other)
	}
}

// P14.2: bytes that are thrown, and an index's bytes with some changed, gone or put in.
func TestLoadThrown(t *testing.T) {
	d := dice(1404)
	for range 4000 {
		s := d.text(d.under(4), 1)
		b := made(t, s).Bytes()
		look(t, s, made(t, d.text(d.under(4), 1)).Bytes())
		for range 1 + d.under(3) {
			at := d.under(len(b))
			switch d.under(4) {
			case 0:
				b = b[:at] + string([]byte{byte(d.next() >> 30)}) + b[at:]
			case 1:
				b = b[:at] + string([]byte{b[at] ^ 1<<d.under(8)}) + b[at+1:]
			case 2:
				b = b[:at] + b[at+1:]
			case 3:
				at -= at % 8
				b = b[:at] + eight(d.next()>>d.under(64)) + b[at:]
			}
			if b == "" {
				break
			}
		}
		look(t, s, b)
		var row strings.Builder
		for range d.under(80) {
			row.WriteByte(byte(d.next() >> 30))
		}
		look(t, s, row.String())
	}
}

// P14.2: Make's error is told ahead of what is wrong with the bytes, or right about them.
func TestLoadErrorsOfTheText(t *testing.T) {
	long := strings.Repeat(" ", api.MaxRecord) + "5"
	tooDeep := deep("[", "", "]", api.MaxDeep+1)
	for s, want := range map[string]api.Errno{"": api.ErrForm, "   ": api.ErrForm, "[": api.ErrForm, "[1,2": api.ErrForm, "[1;2]": api.ErrForm, "\xff": api.ErrForm, long: api.ErrLong, long + "x": api.ErrLong, tooDeep: api.ErrDeep, tooDeep + "]": api.ErrForm} {
		checkNone(t, s, want)
		// Its very bytes, as far as there are some.
		for _, bytes := range []string{bytesOf(s + "5"), joined(sequence(told(s), boundOf(s)), packed(signsOf(s)))} {
			if x, e := semi.Load(s, bytes); e != want || x != nil {
				t.Errorf("Load(%q) is %v, %d", shown(s), x != nil, e)
			}
		}
	}
}

// P14.3: a loaded index is told of as one that was made, in each of the calls.
func TestLoadedAsMade(t *testing.T) {
	d := dice(1405)
	texts := samples()
	for range 1500 {
		texts = append(texts, d.text(d.under(8), 3))
	}
	texts = append(texts, deep("[", "", "]", api.MaxDeep), deep(`{"":`, "0", "}", api.MaxDeep), "[0"+strings.Repeat(",0", 32766)+"]", strings.Repeat(" ", 65533)+"[1]", `"`+strings.Repeat("[", 65534)+`"`)
	for _, s := range texts {
		x, y := made(t, s), loaded(t, s)
		if x.Text() != y.Text() || x.Marks() != y.Marks() || x.Bytes() != y.Bytes() || x.Size() != y.Size() || x.Nest().Nodes() != y.Nest().Nodes() {
			t.Fatalf("a loaded index of %q isn't told of as one that was made", shown(s))
		}
		for i := -1; i <= x.Marks(); i++ {
			at, e := x.Mark(i)
			if other, f := y.Mark(i); at != other || e != f {
				t.Fatalf("Mark(%d) of %q: %d, %d, loaded %d, %d", i, shown(s), at, e, other, f)
			}
		}
		for at := -1; at <= len(s)+1; at++ {
			if x.Under(at) != y.Under(at) {
				t.Fatalf("Under(%d) of %q: %d, loaded %d", at, shown(s), x.Under(at), y.Under(at))
			}
		}
		checkIndex(t, y, s)
		// And again from what that one's bytes are.
		z, e := semi.Load(s, y.Bytes())
		if e != api.OK || z.Bytes() != x.Bytes() {
			t.Fatalf("Load of a loaded index of %q: %d", shown(s), e)
		}
	}
}
