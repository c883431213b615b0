// Package integer has integers of any length. See shared/doc/01-integer.md.
package integer

import "eliminant/api"

// Valid reports whether an integer is canonical: no word 0 at the end, and no negative 0.
func Valid(a api.Int) bool {
	if len(a.Mag) == 0 {
		return !a.Neg
	}
	return a.Mag[len(a.Mag)-1] != 0
}

// Of returns the integer with a value.
func Of(n int64) api.Int {
	if n < 0 {
		// The wraparound gives the absolute value, also for -2^63.
		return signed(true, wordsOf(-uint64(n)))
	}
	return signed(false, wordsOf(uint64(n)))
}

// Small returns the value of an integer that fits into 64 bits.
func Small(a api.Int) (int64, bool) {
	mag := words(a)
	if len(mag) > 2 {
		return 0, false
	}
	n := number(mag)
	if a.Neg && n <= 1<<63 {
		return int64(-n), true
	}
	if !a.Neg && n < 1<<63 {
		return int64(n), true
	}
	return 0, false
}

// Sign returns -1, 0 or 1.
func Sign(a api.Int) int {
	if len(words(a)) == 0 {
		return 0
	}
	if a.Neg {
		return -1
	}
	return 1
}

// Cmp compares two integers: -1, 0 or 1.
func Cmp(a, b api.Int) int {
	s, t := Sign(a), Sign(b)
	if s != t {
		return min(max(s-t, -1), 1)
	}
	return s * compare(words(a), words(b))
}

// Neg returns -a.
func Neg(a api.Int) api.Int {
	return signed(!a.Neg, clone(words(a)))
}

// Add returns a + b.
func Add(a, b api.Int) api.Int {
	return sum(a.Neg, words(a), b.Neg, words(b))
}

// Sub returns a - b.
func Sub(a, b api.Int) api.Int {
	return sum(a.Neg, words(a), !b.Neg, words(b))
}

// Mul returns a times b.
func Mul(a, b api.Int) api.Int {
	return signed(a.Neg != b.Neg, times(words(a), words(b)))
}

// DivMod returns the Euclidean quotient and remainder: a = q b + r with 0 <= r < |b|.
func DivMod(a, b api.Int) (api.Int, api.Int, api.Errno) {
	x, y := words(a), words(b)
	if len(y) == 0 {
		return api.Int{}, api.Int{}, api.ErrZero
	}
	q, r := divide(x, y)
	if a.Neg && len(r) > 0 {
		q, r = plus(q, []uint32{1}), minus(y, r)
	}
	return signed(a.Neg != b.Neg, q), signed(false, r), api.OK
}

// Bits returns the number of bits of the absolute value.
func Bits(a api.Int) int {
	return bitLength(words(a))
}

// signed returns the integer with a sign and an absolute value, whose memory it keeps.
func signed(neg bool, mag []uint32) api.Int {
	return api.Int{Neg: neg && len(mag) > 0, Mag: mag}
}

// words returns the absolute value of an integer, in the memory of the integer.
// Words 0 at the end are dropped, so that also an integer that is not valid does no harm.
func words(a api.Int) []uint32 {
	return trim(a.Mag)
}

// sum returns the sum of two integers that are given by their signs and absolute values.
func sum(aNeg bool, a []uint32, bNeg bool, b []uint32) api.Int {
	if aNeg == bNeg {
		return signed(aNeg, plus(a, b))
	}
	if compare(a, b) < 0 {
		return signed(bNeg, minus(b, a))
	}
	return signed(aNeg, minus(a, b))
}
