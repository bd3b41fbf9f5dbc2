package cursor_test

import (
	"encoding/json"
	"math"
	"slices"
	"strings"
	"testing"

	"lacework/api"
	"lacework/cursor"
	"lacework/esc"
	"lacework/marks"
	"lacework/semi"
)

// down goes down by children's numbers.
func down(t *testing.T, c cursor.Cursor, way ...int) cursor.Cursor {
	t.Helper()
	for _, i := range way {
		child, ok := c.Child(i)
		if !ok {
			t.Fatalf("%q has no child %d", shown(c.Raw()), i)
		}
		c = child
	}
	return c
}

// all tells the bytes of the spans that cursors are on.
func all(l []cursor.Cursor) []string {
	var s []string
	for _, c := range l {
		s = append(s, c.Raw())
	}
	return s
}

// P15.1, P15.2: the chapter's example. Its places are told from 1 on there; here they are from 0 on, as everywhere.
func TestExample(t *testing.T) {
	const s = `[1, {"a":2}]`
	for _, c := range roots(t, s) {
		o, ok := c.Child(-1)
		if !ok || o.Kind() != api.Object {
			t.Fatalf("Child(-1): %v, %d", ok, o.Kind())
		}
		two, ok := o.First()
		if key, is := two.Key(); !ok || key != `"a"` || !is || two.Span() != (api.Span{From: 9, To: 10}) {
			t.Errorf("First: %v, %q, %v, %v", ok, key, is, two.Span())
		}
	}
	check(t, s)
}

// P15.1: records' values of each kind, with blanks of each kind about them, and with none.
func TestRoot(t *testing.T) {
	for _, x := range []struct {
		s    string
		kind int
	}{
		{"null", api.Null}, {"true", api.Bool}, {"false", api.Bool},
		{"0", api.Number}, {"-5", api.Number}, {"12", api.Number}, {"1.50", api.Number}, {"1e+400", api.Number}, {"-0.0E-0", api.Number}, {"9" + strings.Repeat("0", 300), api.Number},
		{`""`, api.String}, {`"a"`, api.String}, {`" "`, api.String}, {`" a "`, api.String}, {`"[1,2]"`, api.String}, {`"{\"a\":1}"`, api.String}, {`"\\"`, api.String}, {`"\\\""`, api.String}, {`"\ud800"`, api.String}, {"\"\u20ac\U0001f600\"", api.String}, {`"null"`, api.String}, {`"-5"`, api.String},
		{"[]", api.Array}, {"[ ]", api.Array}, {"[\t\n\r ]", api.Array}, {"[5]", api.Array}, {"[ 5 ]", api.Array}, {"[[]]", api.Array}, {"[{}]", api.Array}, {`["{"]`, api.Array},
		{"{}", api.Object}, {"{ }", api.Object}, {"{\r\n\t }", api.Object}, {`{"a":1}`, api.Object}, {`{ "a" : [] }`, api.Object}, {`{"":{}}`, api.Object}, {`{"[":"["}`, api.Object},
	} {
		for _, ahead := range []string{"", " ", "\t", "\n", "\r", blanks, strings.Repeat(blanks, 20)} {
			for _, behind := range []string{"", " ", "\t", "\n", "\r", blanks, strings.Repeat(blanks, 20)} {
				s := ahead + x.s + behind
				for _, c := range roots(t, s) {
					key, is := c.Key()
					if c.Kind() != x.kind || c.Raw() != x.s || c.Span() != (api.Span{From: len(ahead), To: len(ahead) + len(x.s)}) {
						t.Errorf("%q: %d, %q, %v", s, c.Kind(), c.Raw(), c.Span())
					}
					if key != "" || is || c.Place() != 0 || c.Depth() != 0 {
						t.Errorf("%q: %q, %v, %d, %d", s, key, is, c.Place(), c.Depth())
					}
				}
				check(t, s)
			}
		}
	}
}

// P15.1: the spans of all values of a record, as they stand.
func TestSpansTold(t *testing.T) {
	for _, x := range []struct {
		s    string
		want []string
	}{
		{"[1,2]", []string{"[1,2]", "1", "2"}},
		{" [ 1 ,\t2\n] ", []string{"[ 1 ,\t2\n]", "1", "2"}},
		{"[[],{}]", []string{"[[],{}]", "[]", "{}"}},
		{"[ [ ] , { } ]", []string{"[ [ ] , { } ]", "[ ]", "{ }"}},
		{"[[[ ]],[[],[]]]", []string{"[[[ ]],[[],[]]]", "[[ ]]", "[ ]", "[[],[]]", "[]", "[]"}},
		{`{"a":1,"b" : true}`, []string{`{"a":1,"b" : true}`, "1", "true"}},
		{`{ "a" : { "b" : null } }`, []string{`{ "a" : { "b" : null } }`, `{ "b" : null }`, "null"}},
		{`["]","a\",\"b"," , ",",",":"]`, []string{`["]","a\",\"b"," , ",",",":"]`, `"]"`, `"a\",\"b"`, `" , "`, `","`, `":"`}},
		{`{"]":"[","\"":["\\"],"{":{ "}" : "\\\"" } }`, []string{`{"]":"[","\"":["\\"],"{":{ "}" : "\\\"" } }`, `"["`, `["\\"]`, `"\\"`, `{ "}" : "\\\"" }`, `"\\\""`}},
		{"[\"\u20ac\",\"\u20ac,\u20ac\", \"\U0001f600 \" ]", []string{"[\"\u20ac\",\"\u20ac,\u20ac\", \"\U0001f600 \" ]", "\"\u20ac\"", "\"\u20ac,\u20ac\"", "\"\U0001f600 \""}},
		{`[-1.5e+7,[1],0]`, []string{`[-1.5e+7,[1],0]`, "-1.5e+7", "[1]", "1", "0"}},
	} {
		for _, c := range roots(t, x.s) {
			if got := raws(c); !slices.Equal(got, x.want) {
				t.Errorf("%q: %q, want %q", x.s, got, x.want)
			}
		}
		check(t, x.s)
	}
}

// P15.1: the kinds of elements and of members' values.
func TestKinds(t *testing.T) {
	texts := []string{"null", "true", "false", "1", "-1", `"n"`, "[]", "[null]", "{}", `{"t":1}`}
	kinds := []int{api.Null, api.Bool, api.Bool, api.Number, api.Number, api.String, api.Array, api.Array, api.Object, api.Object}
	for i, a := range texts {
		for j, b := range texts {
			for _, between := range []string{"", " ", "\n\t"} {
				for _, s := range []string{
					"[" + between + a + between + "," + between + b + between + "]",
					`{"a"` + between + ":" + between + a + between + `,"[":` + between + b + between + "}",
				} {
					for _, c := range roots(t, s) {
						if x, y := down(t, c, 0), down(t, c, 1); x.Kind() != kinds[i] || x.Raw() != a || y.Kind() != kinds[j] || y.Raw() != b {
							t.Errorf("%q: %d, %q, %d, %q", s, x.Kind(), x.Raw(), y.Kind(), y.Raw())
						}
					}
				}
			}
		}
	}
}

// P15.1: keys, as they stand, and none of elements.
func TestKeys(t *testing.T) {
	keys := []string{`""`, `"a"`, `" "`, `" a "`, `"\""`, `"\\"`, `"\\\""`, `"\u0061"`, `"\ud83d\ude00"`, `"\ud800"`, `"[]{},:"`, `":"`, `","`, `"\":"`, "\"\u20ac\"", "\"\U0001f600\"", `"\/\b\f\n\r\t"`, `"` + strings.Repeat("ab,", 500) + `"`}
	for _, a := range keys {
		for _, b := range keys {
			for _, blank := range []string{"", " ", "\r\n\t "} {
				s := "{" + blank + a + blank + ":" + blank + "[[" + blank + "1]]" + blank + "," + blank + b + blank + ":{" + blank + a + ":2}" + blank + "}"
				for _, c := range roots(t, s) {
					for _, x := range []struct {
						way []int
						key string
						is  bool
					}{{nil, "", false}, {[]int{0}, a, true}, {[]int{1}, b, true}, {[]int{0, 0}, "", false}, {[]int{0, 0, 0}, "", false}, {[]int{1, 0}, a, true}} {
						if key, is := down(t, c, x.way...).Key(); key != x.key || is != x.is {
							t.Fatalf("%q: the key at %v is %q, %v", s, x.way, key, is)
						}
					}
				}
			}
		}
	}
}

// P15.1: places and depths, told one by one.
func TestPlaceAndDepth(t *testing.T) {
	const s = ` [ 1 , [ ] , { "a" : { } , "b" : [ 2 , [ 3 , "," ] ] , "c" : 4 } , null ] `
	for _, c := range roots(t, s) {
		for _, x := range []struct {
			raw          string
			place, depth int
			way          []int
		}{
			{"1", 0, 1, []int{0}}, {"[ ]", 1, 1, []int{1}}, {"null", 3, 1, []int{3}}, {"{ }", 0, 2, []int{2, 0}}, {"[ 2 , [ 3 , \",\" ] ]", 1, 2, []int{2, 1}}, {"4", 2, 2, []int{2, 2}},
			{"2", 0, 3, []int{2, 1, 0}}, {`[ 3 , "," ]`, 1, 3, []int{2, 1, 1}}, {"3", 0, 4, []int{2, 1, 1, 0}}, {`","`, 1, 4, []int{2, 1, 1, 1}},
		} {
			if d := down(t, c, x.way...); d.Raw() != x.raw || d.Place() != x.place || d.Depth() != x.depth {
				t.Errorf("at %v: %q, %d, %d", x.way, d.Raw(), d.Place(), d.Depth())
			}
		}
	}
	check(t, s)
}

// P15.2: how many children, told one by one.
func TestCount(t *testing.T) {
	for s, want := range map[string]int{
		"null": 0, "true": 0, "5": 0, `""`: 0, `"[1,2]"`: 0, "[]": 0, "[ ]": 0, "[\n\t]": 0, "{}": 0, "{ }": 0, " [ ] ": 0,
		"[1]": 1, "[ 1 ]": 1, "[[]]": 1, "[[[]]]": 1, "[[1,2,3]]": 1, `[""]`: 1, `["1,2"]`: 1, "[{}]": 1, `[{"a":1,"b":2}]`: 1,
		`{"a":1}`: 1, `{"":""}`: 1, `{"a":[1,2,3]}`: 1, `{"a,b":{"c":1,"d":2}}`: 1, `{":":":"}`: 1,
		"[1,2]": 2, "[[],[]]": 2, "[[1,2,3],4]": 2, "[4,[1,2,3]]": 2, `{"a":1,"a":1}`: 2, `{"a":{"b":1,"c":2},"d":[5,6,7]}`: 2,
		"[1,2,3]": 3, `[1,"2,2",3]`: 3, `{"a":1,"b":2,"c":[]}`: 3, "[[[[1,2],3],4],5,6]": 3,
	} {
		for _, c := range roots(t, s) {
			if c.Count() != want {
				t.Errorf("%q has %d children, want %d", s, c.Count(), want)
			}
		}
		check(t, s)
	}
}

// P15.2: First, Next and Parent, where there is one.
func TestSteps(t *testing.T) {
	const s = `{"a":[1,[2],{}],"b":{"c":{"d":null}},"e":"s"}`
	for _, c := range roots(t, s) {
		a, ok := c.First()
		if !ok || a.Raw() != "[1,[2],{}]" {
			t.Fatalf("First of the record's value: %q, %v", a.Raw(), ok)
		}
		b, ok := a.Next()
		if !ok || b.Raw() != `{"c":{"d":null}}` {
			t.Fatalf("Next of the first member's: %q, %v", b.Raw(), ok)
		}
		e, ok := b.Next()
		if !ok || e.Raw() != `"s"` {
			t.Fatalf("Next of the second member's: %q, %v", e.Raw(), ok)
		}
		d := b
		for _, want := range []string{`{"d":null}`, "null"} {
			d, ok = d.First()
			if !ok || d.Raw() != want {
				t.Fatalf("First, down from the second member's: %q, %v, want %q", d.Raw(), ok, want)
			}
		}
		for _, want := range []string{`{"d":null}`, b.Raw(), s} {
			d, ok = d.Parent()
			if !ok || d.Raw() != want {
				t.Fatalf("Parent, up from null: %q, %v, want %q", d.Raw(), ok, want)
			}
		}
		two := down(t, a, 1, 0)
		if up, ok := two.Parent(); !ok || up.Raw() != "[2]" || up.Place() != 1 {
			t.Errorf("Parent of 2: %q, %v", up.Raw(), ok)
		}
	}
}

// P15.2: nothing but zero and false, where there is none.
func TestNone(t *testing.T) {
	for _, s := range []string{"null", "true", "0", `""`, `"[1]"`, `"{\"a\":1}"`, "[]", "[ ]", "{}", "{\n}", " [] ", "\t5\r"} {
		for _, whole := range []string{s, "[" + s + "]", "[1," + s + "]", `{"a":` + s + "}", `{"b":[],"a": ` + s + " }"} {
			for _, c := range roots(t, whole) {
				root := c
				if whole != s {
					c = down(t, c, -1)
				}
				look := looker{t, whole}
				at := &value{span: c.Span()}
				d, ok := c.First()
				look.none("First", at, d, ok)
				d, ok = c.Next()
				look.none("Next", at, d, ok)
				d, ok = root.Next()
				look.none("Next", at, d, ok)
				d, ok = root.Parent()
				look.none("Parent", at, d, ok)
				for _, i := range append([]int{-3, -2, -1, 0, 1, 2}, far...) {
					d, ok = c.Child(i)
					look.none("Child", at, d, ok)
				}
				if c.Count() != 0 || len(c.Members("a")) != 0 || len(c.Members("")) != 0 {
					t.Errorf("%q: %d children", whole, c.Count())
				}
			}
		}
	}
}

// P15.2: children by numbers, from the first one and from the last one on.
func TestChild(t *testing.T) {
	for _, s := range []string{"[10,11,12,13]", `{"a":10,"b":11,"c":12,"a":13}`, ` [ 10 , 11 , 12 , 13 ] `, `{"a":10,"b":11, "c" :12,"":13 }`} {
		for _, c := range roots(t, s) {
			for i, want := range map[int]string{0: "10", 1: "11", 2: "12", 3: "13", -1: "13", -2: "12", -3: "11", -4: "10"} {
				if d, ok := c.Child(i); !ok || d.Raw() != want {
					t.Errorf("%q: Child(%d) is %q, %v", s, i, d.Raw(), ok)
				}
			}
			for _, i := range append([]int{4, 5, 7, 8, 9, -5, -6, -8, -9}, far...) {
				d, ok := c.Child(i)
				looker{t, s}.none("Child", &value{}, d, ok)
			}
		}
		check(t, s)
	}
	const deep = `[[1,{"a":[2,3]}],[],[4]]`
	for _, c := range roots(t, deep) {
		for _, x := range []struct {
			way  []int
			want string
		}{{[]int{0, 0}, "1"}, {[]int{0, -1, 0, -1}, "3"}, {[]int{-3, 1, -1, -2}, "2"}, {[]int{-1, -1}, "4"}, {[]int{1}, "[]"}, {[]int{-2}, "[]"}} {
			if d := down(t, c, x.way...); d.Raw() != x.want {
				t.Errorf("at %v: %q, want %q", x.way, d.Raw(), x.want)
			}
		}
	}
}

// P15.2: the members of a name, told one by one.
func TestMembers(t *testing.T) {
	for _, x := range []struct {
		s, name string
		want    []string
	}{
		{`{"a":1}`, "a", []string{"1"}}, {`{"a":1}`, "b", nil}, {`{"a":1}`, "", nil}, {`{"a":1}`, `"a"`, nil}, {`{"a":1}`, "A", nil}, {`{"a":1}`, "aa", nil}, {`{"ab":1}`, "a", nil},
		{`{"a":1,"b":2,"a":3,"c":4,"a":5}`, "a", []string{"1", "3", "5"}}, {`{"a":1,"b":2,"a":3,"c":4,"a":5}`, "b", []string{"2"}}, {`{"a":1,"b":2,"a":3,"c":4,"a":5}`, "c", []string{"4"}},
		{`{"b":[1],"a":[ 2 ],"b":{}}`, "b", []string{"[1]", "{}"}}, {`{"a":1,"a":1}`, "a", []string{"1", "1"}},
		// Told by escapes.
		{`{"\u0061":1,"a":2,"\u0061b":3,"\u0041":4}`, "a", []string{"1", "2"}}, {`{"\u0061":1}`, `\u0061`, nil}, {`{"\\u0061":1}`, `\u0061`, []string{"1"}},
		{`{"\"":1,"\u0022":2,"\\":3}`, `"`, []string{"1", "2"}}, {`{"\\":1,"\u005c":2,"\u005C":3}`, `\`, []string{"1", "2", "3"}}, {`{"\/":1,"/":2,"\u002f":3}`, "/", []string{"1", "2", "3"}},
		{`{"\n":1,"\u000a":2,"n":3,"\u000A":4,"\r":5}`, "\n", []string{"1", "2", "4"}}, {`{"\u0000":1,"":2}`, "\x00", []string{"1"}}, {`{"\b\f\t":1}`, "\b\f\t", []string{"1"}},
		// Of no bytes.
		{`{"":1}`, "", []string{"1"}}, {`{"a":1,"":2," ":3,"":4}`, "", []string{"2", "4"}}, {`{ "" : { } }`, "", []string{"{ }"}},
		// Units that are put together, and others.
		{"{\"\\ud83d\\ude00\":1,\"\U0001f600\":2,\"\\uD83D\\uDE00\":3,\"\\ud83d\":4}", "\U0001f600", []string{"1", "2", "3"}},
		{`{"\ud800":1,"\udfff":2,"\ufffd":3,"\ude00\ud83d":4}`, "\ufffd", []string{"1", "2", "3"}}, {`{"\ud800":1,"\ude00\ud83d":4,"\ud800\ud800":5}`, "\ufffd\ufffd", []string{"4", "5"}}, {"{\"\ufffd\":1,\"\\ud83da\":2}", "\ufffda", []string{"2"}},
		{`{"\u20ac":1,"\u20AC":2}`, "\u20ac", []string{"1", "2"}},
		// What is no text.
		{`{"\ufffd":1,"\ud800":2,"a":3}`, "\xff", nil}, {`{"\ud800":1}`, "\xed\xa0\x80", nil}, {`{"a":1}`, "a\xff", nil}, {`{"a":1}`, "\xffa", nil}, {"{\"\u20ac\":1}", "\xe2\x82", nil}, {"{\"\u20ac\":1}", "\x82\xac", nil}, {`{"/":1}`, "\xc0\xaf", nil}, {`{"\u0000":1}`, "\xc0\x80", nil},
		// Of those within, and of those that have none.
		{`{"b":{"a":1},"c":[{"a":2}]}`, "a", nil}, {`{"a":{"a":1},"b":{"a":2}}`, "a", []string{`{"a":1}`}}, {`[{"a":1}]`, "a", nil}, {`["a"]`, "a", nil}, {`["a",1]`, "a", nil}, {`"a"`, "a", nil}, {`"{\"a\":1}"`, "a", nil}, {"1", "1", nil}, {"null", "null", nil}, {"[]", "", nil}, {"{}", "", nil}, {"{ }", "a", nil}, {`[""]`, "", nil},
		// Keys with marks.
		{`{"a:1,":2,",":3,"{\"a\":1}":4}`, "a:1,", []string{"2"}}, {`{"a:1,":2,",":3,"{\"a\":1}":4}`, `{"a":1}`, []string{"4"}}, {`{"[":1,"]":2}`, "]", []string{"2"}}, {`{" a":1,"a ":2,"a":3}`, "a", []string{"3"}},
	} {
		for _, c := range roots(t, x.s) {
			if got := all(c.Members(x.name)); !slices.Equal(got, x.want) {
				t.Errorf("%q has the members %q of the name %q, want %q", x.s, got, x.name, x.want)
			}
		}
		check(t, x.s)
	}
}

// P15.2: of a name in each way of writing it there is one, and of each beginning of it none.
func TestMembersByEachSign(t *testing.T) {
	for c := range rune(0x300) {
		text := "x" + string(c) + "y"
		quoted, _ := esc.Quote(text)
		unit := []byte(`"x\u0000y"`)
		for i := range 4 {
			unit[7-i] = "0123456789ABCDEF"[c>>(4*i)&15]
		}
		s := "{" + quoted + ":1," + string(unit) + ":2,\"z\":3}"
		for _, root := range roots(t, s)[:1] {
			if got := all(root.Members(text)); !slices.Equal(got, []string{"1", "2"}) {
				t.Fatalf("%q: %q", s, got)
			}
			for at := range len(text) {
				if got := root.Members(text[:at]); len(got) != 0 {
					t.Fatalf("%q: %d members %q", s, len(got), text[:at])
				}
			}
		}
	}
}

// P15.1, P15.2: all short rows of the bytes that mean something, if they are JSON texts.
func TestAllShort(t *testing.T) {
	most := func(of string, n int) {
		eachText(of, n, func(s string) {
			if json.Valid([]byte(s)) {
				check(t, s)
			}
		})
	}
	most(`[]{},:"1 `, 6)
	most(`[],0`, 8)
	most(`[]{}, `, 7)
}

// P15.1, P15.2: all short rows of some parts, if they are JSON texts.
func TestAllOfParts(t *testing.T) {
	parts := []string{"[", "]", "{", "}", ",", `"a":`, "0", ` "\"," `}
	eachText("01234567", 6, func(row string) {
		var b strings.Builder
		for _, c := range row {
			b.WriteString(parts[c-'0'])
		}
		if json.Valid([]byte(b.String())) {
			check(t, b.String())
		}
	})
}

// P15.1, P15.2, P15.3: texts that are thrown.
func TestThrown(t *testing.T) {
	d := dice(1501)
	for range 1500 {
		check(t, d.text(d.under(6), d.under(3)))
	}
}

// P15.1: blanks of each kind, ahead, behind and between, belong to no value and to no key.
func TestBlanks(t *testing.T) {
	parts := []string{"{", `"a"`, ":", "[", "1", ",", `"b]\" "`, ",", "{", "}", ",", "[", "]", "]", ",", `""`, ":", "null", "}"}
	keys := []string{`"a"`, `""`}
	for n := range len(parts) + 1 {
		head, tail := strings.Join(parts[:n], ""), strings.Join(parts[n:], "")
		for _, c := range append(strings.Split(blanks, ""), blanks) {
			for _, many := range []int{1, 2, 63, 64, 65} {
				s := head + strings.Repeat(c, many) + tail
				check(t, s)
				for _, root := range roots(t, s) {
					for i, key := range keys {
						if got, ok := down(t, root, i).Key(); !ok || got != key {
							t.Fatalf("%q: the key %d is %q", s, i, got)
						}
					}
					if got := raws(root)[2:4]; !slices.Equal(got, []string{"1", `"b]\" "`}) {
						t.Fatalf("%q: %q", s, got)
					}
				}
			}
		}
	}
}

// marksOf tells how many values marks tell of: one, one behind each comma, and one within each array or object that isn't empty.
func marksOf(s string) int {
	n, l := 1, marks.Places(s)
	for i, at := range l {
		switch s[at] {
		case ',':
			n++
		case '[', '{':
			if strings.Trim(s[at+1:l[i+1]], blanks) != "" || s[l[i+1]] != s[at]+2 {
				n++
			}
		}
	}
	return n
}

// within asks of a value that its children's spans stand in its own, one behind the other, and of these the same; it tells how many values there are.
func within(t *testing.T, s string, c cursor.Cursor) int {
	t.Helper()
	n, at, place := 1, c.Span().From+1, 0
	for child, ok := c.First(); ok; child, ok = child.Next() {
		x := child.Span()
		if x.From < at || x.To <= x.From || x.To >= c.Span().To {
			t.Fatalf("%q: the child at %v of the value at %v, from %d on", shown(s), x, c.Span(), at)
		}
		up, is := child.Parent()
		if !is || up.Span() != c.Span() || child.Place() != place || child.Depth() != c.Depth()+1 {
			t.Fatalf("%q: the child at %v has the place %d, and its parent is at %v", shown(s), x, child.Place(), up.Span())
		}
		for _, i := range []int{place, place - c.Count()} {
			if back, is := up.Child(i); !is || back.Span() != x {
				t.Fatalf("%q: Child(%d) of the parent of the value at %v is at %v", shown(s), i, x, back.Span())
			}
		}
		n += within(t, s, child)
		at, place = x.To+1, place+1
	}
	if place != c.Count() {
		t.Fatalf("%q: %d children of the value at %v, which has %d", shown(s), place, c.Span(), c.Count())
	}
	return n
}

// P15.3: children's spans stand within the value's, one behind the other, and each value is gone through once.
func TestWhatFollows(t *testing.T) {
	d := dice(1502)
	texts := []string{"5", "[]", "{}", "[ ]", ` { "a" : [ { } , [ ] ] , "b" : "," } `, "[[[[]]],[[]],[]]"}
	for range 1500 {
		texts = append(texts, d.text(d.under(7), d.under(3)))
	}
	for _, s := range texts {
		for _, c := range roots(t, s) {
			if n := within(t, s, c); n != marksOf(s) {
				t.Fatalf("%q: %d values are gone through, want %d", s, n, marksOf(s))
			}
		}
	}
}

// P15.3: two records in an array, or as members' values, are gone through as each one alone, one behind the other.
func TestTwoInOne(t *testing.T) {
	d := dice(1503)
	for range 800 {
		a, b := d.text(d.under(5), 2), d.text(d.under(5), 2)
		alone := append(raws(roots(t, a)[0]), raws(roots(t, b)[0])...)
		for _, s := range []string{"[" + a + "," + b + "]", `{"a":` + a + `,"b":` + b + "}"} {
			for _, c := range roots(t, s) {
				if got := raws(c); got[0] != s || !slices.Equal(got[1:], alone) {
					t.Fatalf("%q: %q, want %q", s, got[1:], alone)
				}
			}
		}
	}
}

// deepest tells a text of so many beginnings and ends, one in another.
func deepest(head, middle, tail string, n int) string {
	return strings.Repeat(head, n) + middle + strings.Repeat(tail, n)
}

// P15.1, P15.2: values in many arrays and objects, up to MaxDeep of them.
func TestDeep(t *testing.T) {
	for _, x := range []struct {
		head, tail, key string
		at              int
	}{
		{"[", "]", "", 0}, {"[ ", "\n]", "", 0}, {"[0,", "]", "", 1}, {"[", ",0]", "", 0}, {"[[],", ",{}]", "", 1}, {`["]",`, "]", "", 1},
		{`{"":`, "}", `""`, 0}, {`{ "a" : `, " }", `"a"`, 0}, {`{"b":1,"\":":`, "}", `"\":"`, 1}, {`{"a":`, `,"b":0}`, `"a"`, 0},
	} {
		for _, n := range []int{1, 2, 3, 63, 64, 65, 700, api.MaxDeep - 1, api.MaxDeep} {
			s := deepest(x.head, "5", x.tail, n)
			if len(s) > api.MaxRecord || n == api.MaxDeep && strings.Contains(x.head, "[]") {
				continue
			}
			for _, c := range roots(t, s) {
				for deep := range n + 1 {
					key, is := c.Key()
					if c.Depth() != deep || deep > 0 && (key != x.key || is != (x.key != "") || c.Place() != x.at) {
						t.Fatalf("%q: %d deep: %d, %q, %v, %d", shown(s), deep, c.Depth(), key, is, c.Place())
					}
					span := api.Span{From: deep * len(x.head), To: len(s) - deep*len(x.tail)}
					if c.Span() != span {
						t.Fatalf("%q: %d deep: the span is %v, want %v", shown(s), deep, c.Span(), span)
					}
					if deep < n {
						c = down(t, c, x.at)
					}
				}
				if c.Kind() != api.Number || c.Raw() != "5" {
					t.Fatalf("%q: at the bottom is %q", shown(s), c.Raw())
				}
				for deep := n - 1; deep >= 0; deep-- {
					up, ok := c.Parent()
					if !ok || up.Depth() != deep || up.Span().From != deep*len(x.head) {
						t.Fatalf("%q: Parent, to %d deep: %v, %d, %v", shown(s), deep, ok, up.Depth(), up.Span())
					}
					c = up
				}
				if up, ok := c.Parent(); ok || up != (cursor.Cursor{}) {
					t.Fatalf("%q: the record's value has a parent", shown(s))
				}
			}
		}
	}
}

// P15.1, P15.2: arrays and objects without children, as deep as they may be.
func TestDeepAndEmpty(t *testing.T) {
	for _, x := range [][3]string{{"[", "[]", "]"}, {"[", "{}", "]"}, {`{"":`, "[]", "}"}, {`{"":`, "{ }", "}"}, {"[", "[ ]", "]"}} {
		s := deepest(x[0], x[1], x[2], api.MaxDeep-1)
		for _, c := range roots(t, s) {
			for range api.MaxDeep - 1 {
				if c.Count() != 1 {
					t.Fatalf("%q: %d children", shown(c.Raw()), c.Count())
				}
				c = down(t, c, -1)
			}
			if c.Depth() != api.MaxDeep-1 || c.Raw() != x[1] || c.Count() != 0 {
				t.Fatalf("%q: %d deep, %q", shown(s), c.Depth(), c.Raw())
			}
			child, ok := c.First()
			looker{t, s}.none("First", &value{}, child, ok)
		}
	}
}

// P15.1, P15.2: values with many children.
func TestWide(t *testing.T) {
	for _, x := range []struct {
		head, item, tail, key string
	}{
		{"[", "0", "]", ""}, {"[", "[]", "]", ""}, {"[", " [1,{}] ", "]", ""}, {"[", `"],["`, "]", ""}, {"{", `"a":0`, "}", `"a"`}, {"{", `"":{"":[]}`, "}", `""`}, {"{", ` "\u0061" : "a" `, "}", `"\u0061"`}, {"[", strings.Repeat("7", 300), "]", ""},
	} {
		fit := (api.MaxRecord - 1) / (len(x.item) + 1)
		for _, n := range []int{1, 2, 3, 17, 127, 128, 129, 255, 256, 257, 1025, fit} {
			if n > fit {
				continue
			}
			s := x.head + strings.Repeat(x.item+",", n-1) + x.item + x.tail
			v := tree(t, s)
			for _, c := range roots(t, s) {
				look := looker{t, s}
				look.scalars(c, v)
				look.numbers(c, v)
				i := 0
				for child, ok := c.First(); ok; child, ok = child.Next() {
					look.on("a child", child, v.children[i])
					if i < 20 || i%499 == 0 || i > n-20 {
						look.scalars(child, v.children[i])
						look.steps(child, v.children[i])
						look.child(c, v, i)
						look.child(c, v, i-n)
					}
					i++
				}
				if i != n {
					t.Fatalf("%q: %d children are gone through, want %d", shown(s), i, n)
				}
				look.members(c, v, "a")
				look.members(c, v, "")
				look.members(c, v, "b")
			}
		}
	}
}

// P15.1, P15.2: as many bytes as MaxRecord, most of them blanks, a string's, or a number's.
func TestLengths(t *testing.T) {
	for _, x := range [][3]string{{`"`, "[", `"`}, {"", "1", ""}, {"", " ", "5"}, {"5", "\n", ""}, {"[", "\t", "]"}, {"[1,", " ", "]"}, {"[1", "\r", ",2]"}, {"{", " ", "}"}, {`{"`, "a", `":1}`}, {`{"a"`, " ", `:1}`}, {`{"a":`, " ", `1}`}, {`["`, `,`, `"]`}} {
		for _, n := range []int{api.MaxRecord - 1, api.MaxRecord} {
			s := x[0] + strings.Repeat(x[1], n-len(x[0])-len(x[2])) + x[2]
			if !json.Valid([]byte(s)) {
				continue
			}
			check(t, s)
		}
	}
	check(t, "[1,"+strings.Repeat(" ", api.MaxRecord-5)+"2]")
	check(t, "{"+strings.Repeat(" ", 30000)+`"a"`+strings.Repeat("\n", 30000)+`:"a"}`)
}

// P15.1, P15.2: a list that two arrays and objects stand in the way of, thrown long.
func TestLong(t *testing.T) {
	d := dice(1504)
	for range 6 {
		var l []string
		for n := 0; n < 20000; n += len(l[len(l)-1]) {
			l = append(l, d.text(d.under(6), 2))
		}
		s := "[" + strings.Join(l, ",") + "]"
		v := tree(t, s)
		for _, c := range roots(t, s) {
			look := looker{t, s}
			look.scalars(c, v)
			look.numbers(c, v)
			child, ok := c.First()
			for i, x := range v.children {
				if i%7 == 0 {
					look.whole(child, x)
				}
				look.on("a child", child, x)
				child, ok = child.Next()
			}
			look.none("what stands behind the last child", v, child, ok)
		}
	}
}

// P15.2: odd numbers and names, of values of each kind.
func TestOddArguments(t *testing.T) {
	for _, s := range []string{"5", `"a"`, "null", "[]", "{}", "[1]", "[1,[2]]", `{"a":1}`, `{"":[]}`} {
		for _, c := range roots(t, s) {
			n := c.Count()
			for _, i := range append([]int{n, n + 1, -n - 1, -n - 2, 2*n + 2, -2*n - 2}, far...) {
				d, ok := c.Child(i)
				looker{t, s}.none("Child", &value{}, d, ok)
			}
			for _, name := range []string{"\xff", "\x00", "\xc0\x80", strings.Repeat("a", 1<<20), strings.Repeat("\xff", 1<<16), "\xf4\x90\x80\x80", "[", `"`, `"a"`, "b"} {
				if l := c.Members(name); len(l) != 0 {
					t.Errorf("%q: %d members %q", s, len(l), shown(name))
				}
			}
		}
	}
	if math.MinInt+1 != -math.MaxInt {
		t.Fatal("an int isn't what the test takes it for")
	}
}

// R5: what is handed in and handed out is left as it is, however often it is asked, and whatever else is asked.
func TestNothingChanges(t *testing.T) {
	const s, other = `{"a":[1,{"b":"]"}],"a":{},"c":[ ]}`, `[[1],[2,[3]]]`
	x, e := semi.Make(s)
	if e != api.OK {
		t.Fatal(e)
	}
	bytes, size := x.Bytes(), x.Size()
	c := cursor.Root(x)
	first, _ := c.First()
	deep := down(t, first, 1, 0)
	kept := []cursor.Cursor{c, first, deep}
	before := all(kept)
	y := roots(t, other)[0]
	l, again := c.Members("a"), c.Members("a")
	for range 3 {
		check(t, s)
		for _, d := range kept {
			d.First()
			d.Next()
			d.Parent()
			d.Child(-1)
			d.Members("a")
		}
		y.First()
		y.Child(1)
		if !slices.Equal(all(kept), before) || kept[0] != c || kept[1] != first || kept[2] != deep {
			t.Fatalf("%q, and was %q", all(kept), before)
		}
		if x.Bytes() != bytes || x.Size() != size || x.Text() != s {
			t.Fatal("the index isn't what it was")
		}
		// What was handed out is the asker's.
		l[0], l[1] = y, y
		_ = append(l[:1], y)
		if !slices.Equal(all(again), []string{`[1,{"b":"]"}]`, "{}"}) || !slices.Equal(all(c.Members("a")), all(again)) {
			t.Fatalf("%q, %q", all(again), all(c.Members("a")))
		}
	}
	// A cursor is a value: a copy that goes on leaves the other one where it was.
	copied := first
	copied, _ = copied.Next()
	if first.Raw() != `[1,{"b":"]"}]` || copied.Raw() != "{}" || deep.Raw() != `"]"` {
		t.Errorf("%q, %q, %q", first.Raw(), copied.Raw(), deep.Raw())
	}
}
