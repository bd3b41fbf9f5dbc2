package cursor_test

import (
	"encoding/json"
	"math"
	"strings"
	"testing"

	"lacework/api"
	"lacework/cursor"
	"lacework/semi"
)

// blanks are those that chapter 12 names.
const blanks = " \t\n\r"

// dice tells numbers that look thrown, the same ones each time.
type dice uint64

func (d *dice) next() uint64 {
	x := uint64(*d)
	x ^= x << 13
	x ^= x >> 7
	x ^= x << 17
	*d = dice(x)
	return x
}

// under tells one of the numbers below n.
func (d *dice) under(n int) int {
	return int(d.next() >> 20 % uint64(n))
}

// one tells one of these.
func (d *dice) one(l ...string) string {
	return l[d.under(len(l))]
}

// blank tells at most so many blanks.
func (d *dice) blank(most int) string {
	var b strings.Builder
	for range d.under(most + 1) {
		b.WriteByte(blanks[d.under(len(blanks))])
	}
	return b.String()
}

// word tells a string as JSON writes it, often one of few texts.
func (d *dice) word() string {
	var b strings.Builder
	for range d.under(3) {
		b.WriteString(d.one("a", "a", `\u0061`, "[", "]", "{", "}", ",", ":", " ", "\u20ac", `\u20AC`, `\"`, `\\`, `\",`, `\u0022`, `\n`, `\ud83d`, `\ude00`, "\U0001f600", "\ufffd"))
	}
	return `"` + b.String() + `"`
}

// parts tells the parts of a JSON text, between which blanks may stand, that nests at most so deep.
func (d *dice) parts(most int) []string {
	kind := d.under(8)
	if most == 0 || kind < 2 {
		return []string{d.one("null", "true", "false", d.word(), "0", "-1", "12.5e-7")}
	}
	object := kind < 5
	l := []string{"["}
	if object {
		l[0] = "{"
	}
	for n := range d.under(5) {
		if n > 0 {
			l = append(l, ",")
		}
		if object {
			l = append(l, d.word(), ":")
		}
		l = append(l, d.parts(most-1)...)
	}
	if object {
		return append(l, "}")
	}
	return append(l, "]")
}

// text tells a JSON text that nests at most so deep, with at most so many blanks at each place.
func (d *dice) text(deep, most int) string {
	s := d.blank(most)
	for _, x := range d.parts(deep) {
		s += x + d.blank(most)
	}
	return s
}

// value is a value of a record as the library reads it.
type value struct {
	kind, place, depth int
	span               api.Span
	key, name          string
	member             bool
	parent             *value
	children           []*value
}

// reader goes through a record by the library's tokens.
type reader struct {
	s    string
	from *json.Decoder
}

// token tells the next token, and its span.
func (r *reader) token(t *testing.T) (json.Token, api.Span) {
	t.Helper()
	last := int(r.from.InputOffset())
	x, err := r.from.Token()
	if err != nil {
		t.Fatalf("the library doesn't read %q: %v", shown(r.s), err)
	}
	// The library's tokens are without commas and colons.
	ahead := len(r.s) - len(strings.TrimLeft(r.s[last:], blanks+",:"))
	return x, api.Span{From: ahead, To: int(r.from.InputOffset())}
}

// read tells the next value, whose children are put in.
func (r *reader) read(t *testing.T, v *value) {
	t.Helper()
	x, at := r.token(t)
	v.span = at
	switch x := x.(type) {
	case nil:
		v.kind = api.Null
	case bool:
		v.kind = api.Bool
	case json.Number:
		v.kind = api.Number
	case string:
		v.kind = api.String
	case json.Delim:
		v.kind = api.Array
		if x == '{' {
			v.kind = api.Object
		}
		r.inside(t, v)
	}
}

// inside reads the children of an array or object.
func (r *reader) inside(t *testing.T, v *value) {
	t.Helper()
	for r.from.More() {
		child := &value{parent: v, place: len(v.children), depth: v.depth + 1}
		if v.kind == api.Object {
			x, at := r.token(t)
			child.member, child.key, child.name = true, r.s[at.From:at.To], x.(string)
		}
		r.read(t, child)
		v.children = append(v.children, child)
	}
	_, at := r.token(t)
	v.span.To = at.To
}

// tree tells the record's value as the library reads it.
func tree(t *testing.T, s string) *value {
	t.Helper()
	r := reader{s, json.NewDecoder(strings.NewReader(s))}
	r.from.UseNumber()
	v := &value{}
	r.read(t, v)
	return v
}

// all tells the value and those in it, each ahead of those in it.
func (v *value) all() []*value {
	var l []*value
	var fill func(*value)
	fill = func(v *value) {
		l = append(l, v)
		for _, x := range v.children {
			fill(x)
		}
	}
	fill(v)
	return l
}

// beside tells that one of the parent's children that stands so many behind v; nil, if there is none.
func (v *value) beside(by int) *value {
	if v.parent == nil {
		return nil
	}
	return v.parent.child(v.place + by)
}

// child tells the child of that place; nil, if there is none.
func (v *value) child(i int) *value {
	if i < 0 || i >= len(v.children) {
		return nil
	}
	return v.children[i]
}

// named tells the children of that name, as the chapter words it.
func (v *value) named(name string) []*value {
	var l []*value
	for _, x := range v.children {
		if x.member && x.name == name {
			l = append(l, x)
		}
	}
	return l
}

// shown tells no more of s than can be read.
func shown(s string) string {
	return s[:min(len(s), 200)]
}

// roots are cursors on the value of a record, whose index was made, and loaded.
func roots(t *testing.T, s string) []cursor.Cursor {
	t.Helper()
	x, e := semi.Make(s)
	if e != api.OK {
		t.Fatalf("Make(%q): %d", shown(s), e)
	}
	y, e := semi.Load(s, x.Bytes())
	if e != api.OK {
		t.Fatalf("Load(%q): %d", shown(s), e)
	}
	return []cursor.Cursor{cursor.Root(x), cursor.Root(y)}
}

// looker asks cursors on a record's values.
type looker struct {
	t *testing.T
	s string
}

// none asks that nothing was handed out.
func (l looker) none(what string, v *value, c cursor.Cursor, ok bool) {
	l.t.Helper()
	if ok || c != (cursor.Cursor{}) {
		l.t.Fatalf("%q: %s of the value at %v: there is none, but %v was told", shown(l.s), what, v.span, ok)
	}
}

// on asks that a cursor is on that value.
func (l looker) on(what string, c cursor.Cursor, v *value) {
	l.t.Helper()
	key, member := c.Key()
	if c.Span() != v.span || c.Kind() != v.kind || key != v.key || member != v.member || c.Depth() != v.depth {
		l.t.Fatalf("%q: %s is at %v, %d, %q, %v, %d deep, want %v, %d, %q, %v, %d deep", shown(l.s), what, c.Span(), c.Kind(), key, member, c.Depth(), v.span, v.kind, v.key, v.member, v.depth)
	}
}

// told asks that what was handed out is on that value, or that nothing was, if there is none.
func (l looker) told(what string, of *value, c cursor.Cursor, ok bool, want *value) {
	l.t.Helper()
	if want == nil {
		l.none(what, of, c, ok)
		return
	}
	if !ok {
		l.t.Fatalf("%q: %s of the value at %v: none was told, want that at %v", shown(l.s), what, of.span, want.span)
	}
	l.on(what, c, want)
}

// scalars asks a cursor for all that is no cursor.
func (l looker) scalars(c cursor.Cursor, v *value) {
	l.t.Helper()
	l.on("it", c, v)
	if c.Raw() != l.s[v.span.From:v.span.To] {
		l.t.Fatalf("%q: Raw of the value at %v is %q", shown(l.s), v.span, shown(c.Raw()))
	}
	if c.Place() != v.place || c.Count() != len(v.children) {
		l.t.Fatalf("%q: the value at %v has the place %d and %d children, want %d, %d", shown(l.s), v.span, c.Place(), c.Count(), v.place, len(v.children))
	}
}

// steps asks a cursor for its first child, the next one and its parent.
func (l looker) steps(c cursor.Cursor, v *value) {
	l.t.Helper()
	d, ok := c.First()
	l.told("First", v, d, ok, v.child(0))
	d, ok = c.Next()
	l.told("Next", v, d, ok, v.beside(1))
	d, ok = c.Parent()
	l.told("Parent", v, d, ok, v.parent)
}

// child asks a cursor for the child i.
func (l looker) child(c cursor.Cursor, v *value, i int) {
	l.t.Helper()
	at := i
	if i < 0 {
		at = len(v.children) + i
	}
	d, ok := c.Child(i)
	l.told("Child", v, d, ok, v.child(at))
}

// far are numbers that no child has.
var far = []int{math.MinInt, math.MinInt + 1, math.MinInt / 2, math.MinInt / 4, math.MinInt32, -1 << 40, -100000, 100000, 1 << 40, math.MaxInt32, 1 << 61, 1<<61 - 1, 1 << 62, 1<<62 - 1, math.MaxInt - 1, math.MaxInt}

// numbers asks a cursor for children by numbers, near and far.
func (l looker) numbers(c cursor.Cursor, v *value) {
	l.t.Helper()
	n := len(v.children)
	if n <= 12 {
		for i := -n - 2; i <= n+1; i++ {
			l.child(c, v, i)
		}
	}
	for _, i := range append([]int{0, 1, n / 2, n - 2, n - 1, n, n + 1, 2 * n, 2*n + 1, -1, -2, -n / 2, -n + 1, -n, -n - 1, -n - 2, -2 * n, -2*n - 1}, far...) {
		l.child(c, v, i)
	}
}

// others are names that are asked for whatever a record has.
var others = []string{"", "a", "b", "\x00", "\xff", "a\xff", "\xff" + "a", "\xed\xa0\x80", "\ufffd", `"a"`, `\u0061`, "\U0001f600", "\u20ac", "\xe2\x82"}

// members asks a cursor for the members of a name.
func (l looker) members(c cursor.Cursor, v *value, name string) {
	l.t.Helper()
	want, got := v.named(name), c.Members(name)
	if len(got) != len(want) {
		l.t.Fatalf("%q: the value at %v has %d members %q, want %d", shown(l.s), v.span, len(got), name, len(want))
	}
	for i := range want {
		l.on("a member", got[i], want[i])
	}
}

// names asks a cursor for members by names: of its own, of its children's, and others.
func (l looker) names(c cursor.Cursor, v *value) {
	l.t.Helper()
	for _, name := range others {
		l.members(c, v, name)
	}
	for _, x := range v.children {
		l.members(c, v, x.name)
		l.members(c, v, x.key)
		l.members(c, v, x.name+"a")
		for _, y := range x.children[:min(len(x.children), 3)] {
			l.members(c, v, y.name)
		}
	}
}

// value asks a cursor for all.
func (l looker) value(c cursor.Cursor, v *value) {
	l.t.Helper()
	l.scalars(c, v)
	l.steps(c, v)
	l.numbers(c, v)
	l.names(c, v)
}

// whole asks of a value and of all in it, gone through by First and Next.
func (l looker) whole(c cursor.Cursor, v *value) {
	l.t.Helper()
	l.value(c, v)
	child, ok := c.First()
	for _, x := range v.children {
		if !ok {
			l.t.Fatalf("%q: the value at %v isn't gone through", shown(l.s), x.span)
		}
		l.whole(child, x)
		child, ok = child.Next()
	}
	l.none("what stands behind the last child", v, child, ok)
}

// check asks of a record all that may be asked of its values.
func check(t *testing.T, s string) {
	t.Helper()
	v := tree(t, s)
	for _, c := range roots(t, s) {
		looker{t, s}.whole(c, v)
	}
}

// eachText goes through all texts of at most so many of these bytes.
func eachText(of string, most int, see func(string)) {
	row := make([]byte, 0, most)
	var fill func()
	fill = func() {
		see(string(row))
		if len(row) == most {
			return
		}
		for at := range len(of) {
			row = append(row, of[at])
			fill()
			row = row[:len(row)-1]
		}
	}
	fill()
}

// raws tells the bytes of the spans of the value and of those in it, gone through by First and Next.
func raws(c cursor.Cursor) []string {
	l := []string{c.Raw()}
	for child, ok := c.First(); ok; child, ok = child.Next() {
		l = append(l, raws(child)...)
	}
	return l
}
