// Package word is layer 1: words of 64 bits, looked at bit by bit (see shared/doc/01-word.md).
package word

import "math/bits"

// size is how many bits a word has; as a place it says that there is none.
const size = 64

// clip tells how many bits a count of first bits really means.
func clip(n int) int {
	return min(max(n, 0), size)
}

// first keeps the first n bits of w, for n from 0 to 64.
func first(w uint64, n int) uint64 {
	// A shift by 64 leaves 0, so that all bits are kept then.
	return w & (uint64(1)<<n - 1)
}

// step is what the bit at adds to an excess.
func step(w uint64, at int) int {
	return int(w>>at&1)*2 - 1
}

// Ones tells how many of the first n bits of w are 1.
func Ones(w uint64, n int) int {
	return bits.OnesCount64(first(w, clip(n)))
}

// Select tells the place of the 1 ahead of which k others are; 64, if there is none.
func Select(w uint64, k int) int {
	if k < 0 {
		return size
	}
next:
	if w == 0 {
		return size
	}
	if k > 0 {
		w &= w - 1
		k--
		goto next
	}
	return bits.TrailingZeros64(w)
}

// Field tells the number that the n bits of w from at on make; bits that aren't there are 0.
func Field(w uint64, at, n int) uint64 {
	n = clip(n)
	// Asked ahead of the shifts: the least int has no negative of its own.
	if at >= size || at <= -size {
		return 0
	}
	if at < 0 {
		return first(w<<-at, n)
	}
	return first(w>>at, n)
}

// Need tells how many bits v takes.
func Need(v uint64) int {
	return bits.Len64(v)
}

// Excess tells how many of the first n bits of w are 1, less how many are 0.
func Excess(w uint64, n int) int {
	return 2*Ones(w, n) - clip(n)
}

// Reach tells the least (real) and the greatest (imaginary) excess of the first 1 to the first n bits of w.
func Reach(w uint64, n int) complex128 {
	n = clip(n)
	if n == 0 {
		return 0
	}
	excess := step(w, 0)
	least, most := excess, excess
	for at := 1; at < n; at++ {
		excess += step(w, at)
		least, most = min(least, excess), max(most, excess)
	}
	return complex(float64(least), float64(most))
}

// Find tells the least k from 1 to n so that the excess of the first k bits of w is d; 0, if there is none.
func Find(w uint64, n, d int) int {
	n = clip(n)
	k, excess := 0, 0
next:
	if k == n {
		return 0
	}
	excess += step(w, k)
	k++
	if excess != d {
		goto next
	}
	return k
}
