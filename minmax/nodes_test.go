package minmax

import (
	"testing"

	"lacework/bits"
)

// These look from inside at what the nodes know, and how many of them are asked.

// mixed is a row of n bits, of which some stretches rise, some fall, and some go up and down.
func mixed(n int) *bits.Row {
	var b bits.Builder
	x := uint64(88172645463325252)
	for i := range n {
		x ^= x << 13
		x ^= x >> 7
		x ^= x << 17
		b.Bit(int(x>>40&255) < 64+i/700%3*64)
	}
	return b.Row()
}

// known counts one by one what a node of the bits from from on, ahead of to, has to know.
func known(x *bits.Row, from, to int) node {
	e := 0
	begun, ahead := [2]int{to, -to}, [2]int{to, -to}
	for i := from; i < to; i++ {
		ahead[0], ahead[1] = min(ahead[0], e), max(ahead[1], e)
		if x.Get(i) {
			e++
		} else {
			e--
		}
		begun[0], begun[1] = min(begun[0], e), max(begun[1], e)
	}
	return node{e, complex(float64(begun[0]), float64(begun[1])), complex(float64(ahead[0]), float64(ahead[1]))}
}

// P7.1: each node knows its stretch: blocks of 512 bits, the last one perhaps shorter, two and two, and so on up to one.
func TestEachNodeKnowsItsStretch(t *testing.T) {
	for _, n := range []int{1, 2, 511, 512, 513, 1023, 1024, 1025, 1536, 1537, 3000, 4095, 4096, 4097, 5632, 16*512 + 1, 20000} {
		x := mixed(n)
		wide := 512
		tree := New(x)
		for i, level := range tree.levels {
			if want := (n + wide - 1) / wide; len(level) != want {
				t.Fatalf("of %d bits the level %d has %d nodes, want %d", n, i, len(level), want)
			}
			for j, got := range level {
				if want := known(x, j*wide, min((j+1)*wide, n)); got != want {
					t.Fatalf("of %d bits the node %d of the level %d is %v, want %v", n, j, i, got, want)
				}
			}
			wide *= 2
		}
		if top := tree.levels[len(tree.levels)-1]; len(top) != 1 {
			t.Fatalf("of %d bits %d nodes are at the top", n, len(top))
		}
	}
}

// P7.1: Size counts all nodes: a number and two complex ones each.
func TestSizeCountsNodes(t *testing.T) {
	for _, n := range []int{0, 1, 512, 513, 1024, 1025, 5000, 20000} {
		tree := New(mixed(n))
		nodes := 0
		for _, level := range tree.levels {
			nodes += len(level)
		}
		if got, least := tree.Size(), nodes*320; got < least || got > least+64*3*len(tree.levels) {
			t.Errorf("of %d bits with %d nodes Size is %d", n, nodes, got)
		}
	}
}

// P7.1: however far what is found is, two nodes of a level are asked at most, not all of them.
func TestFewNodesAreAsked(t *testing.T) {
	var b bits.Builder
	// A ( that only the last bit closes, 512 blocks further on.
	b.Bit(true)
	for range 1 << 17 {
		b.Put(1, 2)
	}
	b.Bit(false)
	tree := New(b.Row())
	last := len(tree.levels[0]) - 1
	for _, c := range []struct {
		what         string
		from, d, way int
		meets        func(node, int) bool
		block, rest  int
	}{
		{"to the last block", 0, -2, forth, begins, last, -2}, {"nowhere forth", 0, -3, forth, begins, none, 0},
		{"to the first block", last, 2, back, ends, 0, 2}, {"nowhere back", last, 3, back, ends, none, 0},
	} {
		asked := 0
		block, rest := tree.seek(c.from, c.d, c.way, func(n node, d int) bool {
			asked++
			return c.meets(n, d)
		})
		if block != c.block || rest != c.rest {
			t.Errorf("%s: the block %d with %d, want %d with %d", c.what, block, rest, c.block, c.rest)
		}
		if most := 2 * len(tree.levels); asked > most {
			t.Errorf("%s: %d nodes are asked, more than %d", c.what, asked, most)
		}
	}
}
