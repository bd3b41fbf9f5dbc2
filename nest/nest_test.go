package nest_test

import (
	"math"
	"strings"
	"testing"

	"lacework/api"
	"lacework/bits"
	"lacework/choose"
	"lacework/minmax"
	"lacework/nest"
)

// span is how many bits a block of the layers below has.
const span = 512

// dice tells numbers that look thrown, the same ones each time.
type dice uint64

func (d *dice) next() uint64 {
	x := uint64(*d)
	x ^= x << 13
	x ^= x >> 7
	x ^= x << 17
	*d = dice(x)
	return x
}

// nested tells n pairs, the one in the other.
func nested(n int) string {
	return strings.Repeat("(", n) + strings.Repeat(")", n)
}

// pairs tells n pairs, the one behind the other.
func pairs(n int) string {
	return strings.Repeat("()", n)
}

// thrown tells n pairs, of which, while some are left, about so many of 256 bits open.
func thrown(seed uint64, n, of256 int) string {
	d := dice(seed*2654435761 + 88172645463325252)
	var s strings.Builder
	open, left := 0, n
	for left > 0 || open > 0 {
		if left > 0 && (open == 0 || int(d.next()>>40&255) < of256) {
			s.WriteByte('(')
			open, left = open+1, left-1
		} else {
			s.WriteByte(')')
			open--
		}
	}
	return s.String()
}

// row is one of these parentheses.
func row(t *testing.T, s string) *bits.Row {
	t.Helper()
	var b bits.Builder
	for i := range len(s) {
		if e := b.Bit(s[i] == '('); e != api.OK {
			t.Fatal("Bit:", e)
		}
	}
	return b.Row()
}

// made is the nest of these parentheses, which are known to be balanced.
func made(t *testing.T, s string) *nest.Nest {
	t.Helper()
	return of(t, row(t, s))
}

// of is the nest of a row that is known to be balanced.
func of(t *testing.T, y *bits.Row) *nest.Nest {
	t.Helper()
	x, e := nest.New(y)
	if e != api.OK || x == nil {
		t.Fatalf("New of %d bits: %v, %d", y.Len(), x, e)
	}
	return x
}

// none says that there is no such node.
const none = -1

// thing is what is known of a node by counting: all that may be asked of it.
type thing struct {
	close, parent, prev, next, depth, rank int
	children                               []int
}

// counted is what is known of all nodes, by their places, and of their ends; read one by one.
type counted struct {
	n     int
	order []int
	node  map[int]*thing
	open  map[int]int
}

// count goes through the parentheses with a stack.
func count(s string) counted {
	c := counted{len(s), nil, map[int]*thing{}, map[int]int{}}
	var stack, roots []int
	for i := range len(s) {
		if s[i] == ')' {
			at := stack[len(stack)-1]
			stack = stack[:len(stack)-1]
			c.node[at].close, c.open[i] = i, at
			continue
		}
		x := &thing{parent: none, prev: none, next: none, depth: len(stack), rank: len(c.order)}
		ahead := &roots
		if len(stack) > 0 {
			x.parent = stack[len(stack)-1]
			ahead = &c.node[x.parent].children
		}
		if k := len(*ahead); k > 0 {
			x.prev = (*ahead)[k-1]
			c.node[x.prev].next = i
		}
		*ahead = append(*ahead, i)
		c.node[i], c.order, stack = x, append(c.order, i), append(stack, i)
	}
	return c
}

// told is an answer: a number beside an error.
type told struct {
	v int
	e api.Errno
}

// tell makes one of the two.
func tell(v int, e api.Errno) told {
	return told{v, e}
}

// maybe is the answer of a node that there is, or of none.
func maybe(at int) told {
	if at == none {
		return told{0, api.ErrNone}
	}
	return told{at, api.OK}
}

// same holds an answer against what it has to be.
func same(t *testing.T, c counted, what string, i int, got, want told) {
	t.Helper()
	if got != want {
		t.Fatalf("of %d bits %s(%d) is %v, want %v", c.n, what, i, got, want)
	}
}

// look holds all that is told of a place against what is counted, be it a node, a ) or no place.
func look(t *testing.T, x *nest.Nest, c counted, i int) {
	t.Helper()
	wrong := told{0, api.ErrArg}
	opened := wrong
	if at, ok := c.open[i]; ok {
		opened = told{at, api.OK}
	}
	same(t, c, "Open", i, tell(x.Open(i)), opened)
	want := [8]told{wrong, wrong, wrong, wrong, wrong, wrong, wrong, wrong}
	if n := c.node[i]; n != nil {
		first := told{0, api.ErrNone}
		if len(n.children) > 0 {
			first = told{n.children[0], api.OK}
		}
		want = [8]told{{n.close, 0}, maybe(n.parent), first, maybe(n.next), maybe(n.prev), {len(n.children), 0}, {n.depth, 0}, {n.rank, 0}}
	}
	got := [8]told{tell(x.Close(i)), tell(x.Parent(i)), tell(x.First(i)), tell(x.Next(i)), tell(x.Prev(i)), tell(x.Count(i)), tell(x.Depth(i)), tell(x.Rank(i))}
	for k, what := range [8]string{"Close", "Parent", "First", "Next", "Prev", "Count", "Depth", "Rank"} {
		same(t, c, what, i, got[k], want[k])
	}
}

// lookChildren holds what Child tells of a place against what is counted: of all children, or of some, and of those that aren't there.
func lookChildren(t *testing.T, x *nest.Nest, c counted, i int) {
	t.Helper()
	var l []int
	if n := c.node[i]; n != nil {
		l = n.children
	}
	asked := append(odd(), -2, -1, 0, 1, 2, len(l)/2, len(l)-2, len(l)-1, len(l), len(l)+1)
	for k := 0; k < len(l); k += 1 + len(l)/20 {
		asked = append(asked, k)
	}
	for _, k := range asked {
		want := told{0, api.ErrNone}
		if c.node[i] == nil {
			want = told{0, api.ErrArg}
		} else if k >= 0 && k < len(l) {
			want = told{l[k], api.OK}
		}
		if got := tell(x.Child(i, k)); got != want {
			t.Fatalf("of %d bits Child(%d, %d) is %v, want %v", c.n, i, k, got, want)
		}
	}
}

// lookWhole holds all that is told of a nest's places, and of its ranks, against what is counted; each step-th one of them, those at the edges, and those that are none.
func lookWhole(t *testing.T, s string, step int) {
	t.Helper()
	x, c := made(t, s), count(s)
	lookRanks(t, x, c, step)
	places := append(odd(), -2, -1, 0, 1, c.n/2, c.n-2, c.n-1, c.n, c.n+1)
	for i := 0; i < c.n; i += step {
		places = append(places, i)
	}
	for _, i := range places {
		look(t, x, c, i)
		lookChildren(t, x, c, i)
	}
}

// lookRanks holds Nodes and Node against what is counted.
func lookRanks(t *testing.T, x *nest.Nest, c counted, step int) {
	t.Helper()
	n := len(c.order)
	if x.Nodes() != n {
		t.Fatalf("of %d bits %d are nodes, want %d", c.n, x.Nodes(), n)
	}
	ranks := append(odd(), -2, -1, 0, 1, n-2, n-1, n, n+1, c.n)
	for k := 0; k < n; k += step {
		ranks = append(ranks, k)
	}
	for _, k := range ranks {
		want := told{0, api.ErrNone}
		if k >= 0 && k < n {
			want = told{c.order[k], api.OK}
		}
		same(t, c, "Node", k, tell(x.Node(k)), want)
	}
}

// odd are numbers that are no place, no rank and no child's.
func odd() []int {
	return []int{math.MinInt, math.MinInt + 1, math.MinInt + span, math.MinInt32, -1 << 32, -1000000000,
		1000000000, 1 << 32, math.MaxInt32, math.MaxInt - span, math.MaxInt - 1, math.MaxInt}
}

// every tells all rows of n bits.
func every(n int, yield func(string)) {
	for v := range 1 << n {
		b := make([]byte, n)
		for i := range b {
			b[i] = ")("[v>>i&1]
		}
		yield(string(b))
	}
}

// right tells whether parentheses are balanced.
func right(s string) bool {
	e := 0
	for i := range len(s) {
		if s[i] == '(' {
			e++
		} else {
			e--
		}
		if e < 0 {
			return false
		}
	}
	return e == 0
}

// P8.1: the example of the chapter.
func TestChapterExample(t *testing.T) {
	x := made(t, "(()(()))")
	if a, b, c := tell(x.Child(0, 0)), tell(x.Child(0, 1)), tell(x.Count(0)); a.v != 1 || b.v != 3 || c.v != 2 || a.e+b.e+c.e != 0 {
		t.Error("the children of 0 are", a, b, c)
	}
	if d := tell(x.Depth(4)); d != (told{2, api.OK}) {
		t.Error("the depth of 4 is", d)
	}
}

// P8.1: every row of few bits: a nest, just if it is balanced, and all that is told of it.
func TestEveryShortRow(t *testing.T) {
	for n := range 13 {
		every(n, func(s string) {
			if right(s) {
				lookWhole(t, s, 1)
				return
			}
			if x, e := nest.New(row(t, s)); e != api.ErrForm || x != nil {
				t.Fatalf("New of %q is %v, %d", s, x, e)
			}
		})
	}
}

// P8.1: rows that aren't balanced by one thing, of few bits and of many.
func TestNotBalanced(t *testing.T) {
	all := strings.Repeat
	for what, s := range map[string]string{
		"one (": "(", "one )": ")", "a pair and (": "()(", "a pair and )": "())", "a pair turned": ")(", "two turned": "))((",
		"a beginning below 0": "())(()", "a beginning below 0 at the first bit": ")()(", "a beginning below 0 at the last but one": "(()))(",
		"right beginnings, an excess of 2": "(()(", "right beginnings, an excess of 1": "(()", "all (": all("(", 2000), "all )": all(")", 2000),
		"many pairs turned": all(")(", 2000), "a chain and one more (": "(" + nested(2000), "a chain and one more )": nested(2000) + ")",
		"an odd number": pairs(600) + "(", "roots and one )": pairs(600) + ")", "roots and a pair turned": pairs(600) + ")(" + pairs(600),
		"below 0 in the second block": nested(256) + ")(", "below 0 in the last one": nested(3000) + all(")", 700) + all("(", 700),
		"an excess of 2 in many": pairs(900) + "((" + pairs(900), "a root that isn't closed": nested(300) + "(" + nested(300) + "(" + nested(300) + ")",
	} {
		if x, e := nest.New(row(t, s)); e != api.ErrForm || x != nil {
			t.Errorf("%s: %v, %d", what, x, e)
		}
	}
}

// P8.1: with one bit turned a balanced row of many is none.
func TestNotBalancedByOneBit(t *testing.T) {
	for _, s := range []string{nested(700), pairs(700), thrown(3, 700, 128)} {
		made(t, s)
		for i := 0; i < len(s); i += 11 {
			other := "("
			if s[i] == '(' {
				other = ")"
			}
			if x, e := nest.New(row(t, s[:i]+other+s[i+1:])); e != api.ErrForm || x != nil {
				t.Fatalf("with another bit at %d: %v, %d", i, x, e)
			}
		}
	}
}

// P8.1: a row of no bits is a nest of no nodes.
func TestNoNodes(t *testing.T) {
	var b bits.Builder
	read, e := bits.Of("\x00\x00\x00\x00\x00\x00\x00\x00")
	if e != api.OK {
		t.Fatal("Of:", e)
	}
	for _, y := range []*bits.Row{b.Row(), read, row(t, nested(600)).Clip(520, 520)} {
		x := of(t, y)
		if x.Nodes() != 0 || x.Size() < 0 || x.Size() > 4096 {
			t.Error("of no bits:", x.Nodes(), x.Size())
		}
		for _, i := range append(odd(), -1, 0, 1) {
			look(t, x, count(""), i)
			lookChildren(t, x, count(""), i)
			if got := tell(x.Node(i)); got != (told{0, api.ErrNone}) {
				t.Errorf("of no bits Node(%d) is %v", i, got)
			}
		}
	}
}

// P8.1: one pair, and two: the one in the other, and the one behind the other.
func TestFewPairs(t *testing.T) {
	arg, no := told{0, api.ErrArg}, told{0, api.ErrNone}
	ok := func(v int) told { return told{v, api.OK} }
	for _, c := range []struct {
		s                                       string
		i                                       int
		close, open, parent, first, next, prev  told
		count, child, second, depth, rank, node told
	}{
		{"()", 0, ok(1), arg, no, no, no, no, ok(0), no, no, ok(0), ok(0), ok(0)},
		{"()", 1, arg, ok(0), arg, arg, arg, arg, arg, arg, arg, arg, arg, no},
		{"()", 2, arg, arg, arg, arg, arg, arg, arg, arg, arg, arg, arg, no},
		{"()", -1, arg, arg, arg, arg, arg, arg, arg, arg, arg, arg, arg, no},
		{"(())", 0, ok(3), arg, no, ok(1), no, no, ok(1), ok(1), no, ok(0), ok(0), ok(0)},
		{"(())", 1, ok(2), arg, ok(0), no, no, no, ok(0), no, no, ok(1), ok(1), ok(1)},
		{"(())", 2, arg, ok(1), arg, arg, arg, arg, arg, arg, arg, arg, arg, no},
		{"(())", 3, arg, ok(0), arg, arg, arg, arg, arg, arg, arg, arg, arg, no},
		{"()()", 0, ok(1), arg, no, no, ok(2), no, ok(0), no, no, ok(0), ok(0), ok(0)},
		{"()()", 1, arg, ok(0), arg, arg, arg, arg, arg, arg, arg, arg, arg, ok(2)},
		{"()()", 2, ok(3), arg, no, no, no, ok(0), ok(0), no, no, ok(0), ok(1), no},
		{"()()", 3, arg, ok(2), arg, arg, arg, arg, arg, arg, arg, arg, arg, no},
		{"()()", 4, arg, arg, arg, arg, arg, arg, arg, arg, arg, arg, arg, no},
	} {
		x := made(t, c.s)
		got := []told{tell(x.Close(c.i)), tell(x.Open(c.i)), tell(x.Parent(c.i)), tell(x.First(c.i)), tell(x.Next(c.i)), tell(x.Prev(c.i)),
			tell(x.Count(c.i)), tell(x.Child(c.i, 0)), tell(x.Child(c.i, 1)), tell(x.Depth(c.i)), tell(x.Rank(c.i)), tell(x.Node(c.i))}
		want := []told{c.close, c.open, c.parent, c.first, c.next, c.prev, c.count, c.child, c.second, c.depth, c.rank, c.node}
		for k, what := range []string{"Close", "Open", "Parent", "First", "Next", "Prev", "Count", "Child 0", "Child 1", "Depth", "Rank", "Node"} {
			if got[k] != want[k] {
				t.Errorf("of %s %s at %d is %v, want %v", c.s, what, c.i, got[k], want[k])
			}
		}
	}
}

// P8.1: a long chain: each node in the one ahead, its ) far behind it.
func TestChain(t *testing.T) {
	for _, n := range []int{3, 31, 32, 33, 255, 256, 257, 511, 512, 513, 1024, 5000} {
		lookWhole(t, nested(n), 1+n/400)
	}
}

// P8.1: many roots, and none in any.
func TestManyRoots(t *testing.T) {
	for _, n := range []int{3, 31, 32, 33, 255, 256, 257, 512, 513, 5000} {
		lookWhole(t, pairs(n), 1+n/200)
	}
}

// P8.1: one node that has many children, some of them with many of their own.
func TestManyChildren(t *testing.T) {
	wide := "(" + pairs(300) + ")"
	for _, s := range []string{"(" + pairs(1) + ")", "(" + pairs(2) + ")", "(" + pairs(255) + ")", "(" + pairs(3000) + ")",
		"(" + strings.Repeat(wide, 7) + ")", "()" + wide + "()" + wide, strings.Repeat("("+nested(300)+pairs(5)+nested(300)+")", 4)} {
		lookWhole(t, s, 1+len(s)/500)
		look(t, made(t, s), count(s), len(s)-2)
	}
}

// P8.1: nests without an order: steep ones, flat ones, of few blocks every place, of many some.
func TestThrownNests(t *testing.T) {
	for i, fill := range []int{100, 120, 128, 136, 200, 250} {
		lookWhole(t, thrown(uint64(i), 900, fill), 1)
		lookWhole(t, thrown(uint64(i)+50, 30000, fill), 211)
	}
}

// P8.1: nests that end about the blocks' ends.
func TestAboutBlocks(t *testing.T) {
	for _, blocks := range []int{1, 2, 3, 5, 8} {
		for n := blocks*span/2 - 1; n <= blocks*span/2+1; n++ {
			for _, s := range []string{nested(n), pairs(n), "(" + pairs(n-1) + ")", thrown(uint64(n), n, 128)} {
				x, c := made(t, s), count(s)
				for at := 0; at <= len(s)+span; at += span {
					for i := at - 3; i <= at+3; i++ {
						look(t, x, c, i)
					}
				}
				lookRanks(t, x, c, 17)
			}
		}
	}
}

// P8.1: places that stand far from one another: parents, ends and neighbours over many blocks.
func TestFarApart(t *testing.T) {
	const n = 40000
	s := "(" + pairs(n) + nested(n) + pairs(n) + ")()"
	x := made(t, s)
	inner, last := 1+2*n, 4*n
	for _, c := range []struct {
		what      string
		got, want told
	}{
		{"the end of the whole", tell(x.Close(0)), told{6*n + 1, 0}}, {"its beginning", tell(x.Open(6*n + 1)), told{0, 0}},
		{"the next root", tell(x.Next(0)), told{6*n + 2, 0}}, {"back to it", tell(x.Prev(6*n + 2)), told{0, 0}}, {"behind that", tell(x.Next(6*n + 2)), told{0, api.ErrNone}},
		{"the parent of a late child", tell(x.Parent(6*n - 1)), told{0, 0}}, {"the parent of the chain", tell(x.Parent(inner)), told{0, 0}},
		{"behind the chain", tell(x.Next(inner)), told{last + 1, 0}}, {"ahead of what is behind it", tell(x.Prev(last + 1)), told{inner, 0}},
		{"the end of the chain", tell(x.Close(inner)), told{last, 0}}, {"all children", tell(x.Count(0)), told{2*n + 1, 0}},
		{"the chain as a child", tell(x.Child(0, n)), told{inner, 0}}, {"the last child", tell(x.Child(0, 2*n)), told{6*n - 1, 0}},
		{"one more", tell(x.Child(0, 2*n+1)), told{0, api.ErrNone}}, {"the innermost one's depth", tell(x.Depth(inner + n - 1)), told{n, 0}},
		{"its rank", tell(x.Rank(inner + n - 1)), told{2 * n, 0}}, {"the node of that", tell(x.Node(2 * n)), told{inner + n - 1, 0}},
		{"the last one's rank", tell(x.Rank(6*n + 2)), told{3*n + 1, 0}}, {"the last node", tell(x.Node(3*n + 1)), told{6*n + 2, 0}},
		{"no node", tell(x.Node(3*n + 2)), told{0, api.ErrNone}}, {"how many", tell(x.Nodes(), 0), told{3*n + 2, 0}},
	} {
		if c.got != c.want {
			t.Errorf("%s: %v, want %v", c.what, c.got, c.want)
		}
	}
}

// P8.1, R2: what is no node is told ahead of a child that there isn't.
func TestNoNodeIsToldFirst(t *testing.T) {
	x := made(t, "(()())")
	for _, i := range []int{math.MinInt, -1, 2, 4, 5, 6, 7, math.MaxInt} {
		for _, k := range []int{math.MinInt, -1, 0, 1, 2, math.MaxInt} {
			if got := tell(x.Child(i, k)); got != (told{0, api.ErrArg}) {
				t.Errorf("Child(%d, %d) is %v", i, k, got)
			}
		}
	}
}

// P8.1: rows that weren't put together bit by bit are nests, too; also a balanced piece of one that isn't.
func TestRowsOfOtherMakes(t *testing.T) {
	s := thrown(12, 2000, 128)
	again, e := bits.Of(row(t, s).Bytes())
	if e != api.OK {
		t.Fatal("Of:", e)
	}
	piece := row(t, ")))"+s+"(").Clip(3, 3+len(s))
	for _, y := range []*bits.Row{again, piece} {
		x, c := of(t, y), count(s)
		for i := range len(s) {
			look(t, x, c, i)
		}
		lookRanks(t, x, c, 1)
	}
}

// P8.1: Size is within its bounds, whatever the row is, and not less than what the tree and the chooser take that are kept.
func TestSizeAtItsBounds(t *testing.T) {
	check := func(y *bits.Row) {
		t.Helper()
		size, n := of(t, y).Size(), y.Len()
		if size < 0 || size > 4*n+4096 {
			t.Fatalf("of %d bits Size is %d", n, size)
		}
		if parts := minmax.New(y).Size() + choose.New(y).Size(); size < parts {
			t.Fatalf("of %d bits Size is %d, less than %d", n, size, parts)
		}
	}
	roots := row(t, pairs(40*span))
	for n := 0; n <= 3*span; n += 2 {
		check(roots.Clip(0, n))
	}
	for blocks := range 70 {
		check(roots.Clip(0, blocks*span))
		check(roots.Clip(0, blocks*span+2))
	}
	for _, n := range []int{1, 2, 100, 255, 256, 257, 512, 1024, 1025, 20000, 1 << 19} {
		check(row(t, nested(n)))
		check(row(t, thrown(uint64(n), n, 128)))
	}
}

// P8.2: what is closed there is opened here, and no two nodes are closed at one place.
func TestClosedIsOpened(t *testing.T) {
	for _, s := range []string{nested(1500), pairs(1500), thrown(5, 1500, 128), thrown(6, 1500, 200), thrown(7, 1500, 110)} {
		x := made(t, s)
		seen := map[int]bool{}
		for k := range x.Nodes() {
			i, e := x.Node(k)
			end, f := x.Close(i)
			back, g := x.Open(end)
			if e+f+g != api.OK || back != i || end <= i || seen[end] {
				t.Fatalf("the node %d is closed at %d, which is opened at %d: %d, %d, %d", i, end, back, e, f, g)
			}
			seen[end] = true
			if rank, h := x.Rank(i); rank != k || h != api.OK {
				t.Fatalf("the node of the rank %d has the rank %d, %d", k, rank, h)
			}
		}
		if len(seen)*2 != len(s) {
			t.Fatalf("%d nodes are closed in %d bits", len(seen), len(s))
		}
	}
}

// P8.2: a parent's children have it as their parent, and stand one deeper; one behind the other, from both ends, they are as many as are counted, and those that Child tells.
func TestChildrenHaveTheirParent(t *testing.T) {
	for _, s := range []string{nested(400), "(" + pairs(400) + ")", thrown(5, 1500, 128), thrown(6, 1500, 200), thrown(8, 1500, 110)} {
		x := made(t, s)
		below := 0
		for k := range x.Nodes() {
			i, _ := x.Node(k)
			n, e := x.Count(i)
			if e != api.OK {
				t.Fatalf("Count(%d) tells %d", i, e)
			}
			below += family(t, x, i, n)
		}
		if roots := roots(t, x); below+roots != x.Nodes() {
			t.Fatalf("%d children and %d roots are not %d nodes", below, roots, x.Nodes())
		}
	}
}

// family goes through the n children of i and tells how many there are.
func family(t *testing.T, x *nest.Nest, i, n int) int {
	t.Helper()
	depth, _ := x.Depth(i)
	end, _ := x.Close(i)
	seen, last := 0, i
	for child, e := x.First(i); e == api.OK; child, e = x.Next(child) {
		if p, f := x.Parent(child); p != i || f != api.OK {
			t.Fatalf("%d is a child of %d, but its parent is %d, %d", child, i, p, f)
		}
		if d, f := x.Depth(child); d != depth+1 || f != api.OK {
			t.Fatalf("%d is a child of %d, but its depth is %d, %d", child, i, d, f)
		}
		if k, f := x.Child(i, seen); k != child || f != api.OK {
			t.Fatalf("Child(%d, %d) is %d, %d, want %d", i, seen, k, f, child)
		}
		if ahead, f := x.Prev(child); seen > 0 && (ahead != last || f != api.OK) || seen == 0 && f != api.ErrNone {
			t.Fatalf("ahead of %d is %d, %d, want %d", child, ahead, f, last)
		}
		if child <= last || child >= end {
			t.Fatalf("%d is a child of %d, which is closed at %d", child, i, end)
		}
		seen, last = seen+1, child
	}
	if seen != n {
		t.Fatalf("%d has %d children, but %d are counted", i, seen, n)
	}
	return seen
}

// roots goes through the roots and tells how many there are.
func roots(t *testing.T, x *nest.Nest) int {
	t.Helper()
	seen := 0
	for at, e := x.Node(0); e == api.OK; at, e = x.Next(at) {
		if p, f := x.Parent(at); p != 0 || f != api.ErrNone {
			t.Fatalf("the parent of the root %d is %d, %d", at, p, f)
		}
		if d, f := x.Depth(at); d != 0 || f != api.OK {
			t.Fatalf("the depth of the root %d is %d, %d", at, d, f)
		}
		seen++
	}
	return seen
}

// R4, R5, R7: a row that is asked stays as it is; nests of one row, and of others, tell the same each time.
func TestNothingChanges(t *testing.T) {
	s, other := thrown(40, 1000, 128), nested(1000)
	y := row(t, s)
	before := y.Bytes()
	a, b, c := of(t, y), of(t, y), made(t, other)
	ofS, ofOther := count(s), count(other)
	for range 2 {
		for i := -1; i <= len(s); i++ {
			look(t, a, ofS, i)
			look(t, c, ofOther, i)
			look(t, b, ofS, i)
		}
		if a.Size() != b.Size() || a.Nodes() != b.Nodes() {
			t.Error("the nests differ")
		}
	}
	if y.Bytes() != before {
		t.Error("the row has changed")
	}
}

// R5: what is put behind a row's bits later changes nothing in its nest.
func TestPutLater(t *testing.T) {
	var b bits.Builder
	for range 300 {
		b.Put(1, 2)
	}
	x := of(t, b.Row())
	for range 300 {
		b.Put(0, 2)
	}
	if last := tell(x.Node(299)); x.Nodes() != 300 || last != (told{598, api.OK}) {
		t.Error("then it has", x.Nodes(), last)
	}
	if next := tell(x.Next(598)); next != (told{0, api.ErrNone}) {
		t.Error("behind the last one is", next)
	}
}
