package integer

// divide returns the quotient, rounded down, and the remainder; b is not 0.
func divide(a, b []uint32) ([]uint32, []uint32) {
	if compare(a, b) < 0 {
		return nil, clone(a)
	}
	if len(a) <= 2 {
		x, y := number(a), number(b)
		return wordsOf(x / y), wordsOf(x % y)
	}
	if len(b) == 1 {
		q := clone(a)
		r := divideByWord(q, b[0])
		return trim(q), wordsOf(uint64(r))
	}
	return divideLong(a, b)
}

// divideByWord divides a by a word that is not 0, in place, and returns the remainder.
func divideByWord(a []uint32, b uint32) uint32 {
	rest := uint64(0)
	for i := range len(a) {
		k := len(a) - 1 - i
		rest = rest<<wordBits | uint64(a[k])
		a[k] = uint32(rest / uint64(b))
		rest %= uint64(b)
	}
	return uint32(rest)
}

// divideLong is Knuth's algorithm D, for a >= b with at least two words. Both are shifted to the left until the
// first bit of b is 1: then the first guess of each word of the quotient is too great by little.
func divideLong(a, b []uint32) ([]uint32, []uint32) {
	shift := wordBits - bitsOfWord(b[len(b)-1])
	v := shiftLeft(b, shift)
	u := make([]uint32, len(a)+1)
	copy(u, shiftLeft(a, shift))
	q := make([]uint32, len(a)-len(b)+1)
	for i := range len(q) {
		k := len(q) - 1 - i
		q[k] = divideStep(u[k:k+len(v)+1], v)
	}
	return trim(q), shiftRight(u, shift)
}

// divideStep returns the quotient of u and v, which is one word, and leaves the remainder in u. u has one word more
// than v, which has at least two, and the first bit of v is 1.
func divideStep(u, v []uint32) uint32 {
	n := len(v)
	first, second := uint64(v[n-1]), uint64(v[n-2])
	top := uint64(u[n])<<wordBits | uint64(u[n-1])
	guess, rest := top/first, top%first
	for guess > wordMask || guess*second > rest<<wordBits|uint64(u[n-2]) {
		guess--
		rest += first
		if rest > wordMask {
			break
		}
	}
	if subtractTimes(u, v, guess) {
		// The guess was still too great by 1, and u became negative: the carry makes up for that.
		guess--
		u[n] += addTimes(u[:n], v, 1)
	}
	return uint32(guess)
}

// subtractTimes subtracts v times w, which is one word, from u in place, and reports whether u became negative
// (then 2^32 to the power of the length of u was added). u has one word more than v.
func subtractTimes(u, v []uint32, w uint64) bool {
	carry, borrow := uint64(0), uint64(0)
	for i := range len(u) {
		carry += uint64(word(v, i)) * w
		d := uint64(u[i]) - carry&wordMask - borrow
		u[i] = uint32(d)
		borrow = d >> 63
		carry >>= wordBits
	}
	return borrow == 1
}
