package scan

// A bracket that is open is one bit.
const (
	square = 0
	curly  = 1
)

// wordBits is how many brackets a word has room for.
const wordBits = 64

// stack are the brackets that are open, the last one in the lowest bit.
type stack struct {
	below []uint64 // what last was, each time that it had no more room (and the first time, when it was empty)
	last  uint64
	size  int
	most  int // how many have been open at one time
}

// push lays a bracket on the others.
func (o *stack) push(bracket uint64) {
	if o.size%wordBits == 0 {
		o.below = append(o.below, o.last)
	}
	o.last = o.last<<1 | bracket
	o.size++
	o.most = max(o.most, o.size)
}

// pop takes the last bracket off; there is one.
func (o *stack) pop() {
	o.size--
	o.last >>= 1
	if o.size%wordBits == 0 {
		o.last = o.below[len(o.below)-1]
		o.below = o.below[:len(o.below)-1]
	}
}

// top tells the last bracket; there is one.
func (o *stack) top() uint64 {
	return o.last & 1
}

// closer tells the byte that closes the last bracket.
func (o *stack) closer() byte {
	if o.top() == curly {
		return '}'
	}
	return ']'
}
