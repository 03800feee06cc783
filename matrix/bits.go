package matrix

import mathbits "math/bits"

// bits is a dense vector: rows are sums of many others while they are reduced.
type bits []uint64

func newBits(length int) bits { return make(bits, length/64+1) }

func (b bits) flip(i int) { b[i/64] ^= 1 << (i % 64) }

func (b bits) has(i int) bool { return b[i/64]>>(i%64)&1 == 1 }

func (b bits) flipAll(l []int) {
	for _, i := range l {
		b.flip(i)
	}
}

func (b bits) clear() {
	for i := range b {
		b[i] = 0
	}
}

func (b bits) add(other bits) {
	for i, word := range other {
		b[i] ^= word
	}
}

// first returns the first position from a given one on, or -1.
func (b bits) first(from int) int {
	for w := from / 64; w < len(b); w++ {
		word := b[w]
		if w == from/64 {
			word &= ^uint64(0) << (from % 64)
		}
		if word != 0 {
			return w*64 + mathbits.TrailingZeros64(word)
		}
	}
	return -1
}

// odd reports whether an odd number of positions of a list are in the vector.
func (b bits) odd(l []int) bool {
	odd := false
	for _, i := range l {
		odd = odd != b.has(i)
	}
	return odd
}

// list returns the positions below a length.
func (b bits) list(length int) []int {
	var l []int
	for i := b.first(0); i >= 0 && i < length; i = b.first(i + 1) {
		l = append(l, i)
	}
	return l
}
