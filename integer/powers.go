package integer

import "eliminant/api"

const maxExponent = 4096

// Pow returns a power; the exponent is in the range 0 to 4096.
func Pow(a api.Int, n int) (api.Int, api.Errno) {
	if n < 0 || n > maxExponent {
		return api.Int{}, api.ErrArg
	}
	return signed(a.Neg && n%2 == 1, power(words(a), n)), api.OK
}

// Root returns the k-th root, rounded down.
func Root(a api.Int, k int) (api.Int, api.Errno) {
	if Sign(a) < 0 || k < 1 {
		return api.Int{}, api.ErrArg
	}
	return signed(false, root(words(a), k)), api.OK
}

// power returns a^n.
func power(a []uint32, n int) []uint32 {
	if n == 0 {
		return []uint32{1}
	}
	half := power(a, n/2)
	square := times(half, half)
	if n%2 == 0 {
		return square
	}
	return times(square, a)
}

// root returns the greatest number whose k-th power is not greater than a. It starts from the first half of the bits
// of the root, rounded up: from there Newton's method takes a few steps, however great k is.
func root(a []uint32, k int) []uint32 {
	bits := bitLength(a)
	if bits == 0 {
		return nil
	}
	if k >= bits {
		return []uint32{1}
	}
	size := (bits-1)/k + 1 // the bits of the root
	half := (size - bitLength(wordsOf(uint64(k)))) / 2
	if half <= 0 {
		return shortRoot(a, k, size)
	}
	start := root(shiftRight(a, k*half), k)
	return newtonRoot(a, k, shiftLeft(plus(start, []uint32{1}), half))
}

// shortRoot finds a root of at most size bits, bit by bit.
func shortRoot(a []uint32, k, size int) []uint32 {
	found := uint64(0)
	for i := range size {
		next := found | 1<<(size-1-i)
		if compare(power(wordsOf(next), k), a) <= 0 {
			found = next
		}
	}
	return wordsOf(found)
}

// newtonRoot finds a root from a start that is greater. Each step leads to a lesser number that is not less than the
// root, until the root is reached.
func newtonRoot(a []uint32, k int, start []uint32) []uint32 {
	less := wordsOf(uint64(k - 1))
	degree := wordsOf(uint64(k))
	for {
		q, _ := divide(a, power(start, k-1))
		next, _ := divide(plus(times(start, less), q), degree)
		if compare(next, start) >= 0 {
			return start
		}
		start = next
	}
}
