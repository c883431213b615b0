package integer

import "eliminant/api"

// Gcd returns the greatest common divisor, at least 0.
func Gcd(a, b api.Int) api.Int {
	return signed(false, gcd(words(a), words(b)))
}

// Bezout returns the greatest common divisor g and cofactors u and v with u a + v b = g, where u is the least one
// that is not negative (Sign(a) if b is 0).
func Bezout(a, b api.Int) (api.Int, api.Int, api.Int) {
	if len(words(b)) == 0 {
		return signed(false, clone(words(a))), Of(int64(Sign(a))), api.Int{}
	}
	modulus := signed(false, clone(words(b)))
	// In each row, r is the product of u and a, up to a multiple of b.
	r0, u0 := modulus, api.Int{}
	_, r1, _ := DivMod(a, modulus)
	u1 := Of(1)
	for len(r1.Mag) > 0 {
		q, r, _ := DivMod(r0, r1)
		r0, r1 = r1, r
		u0, u1 = u1, Sub(u0, Mul(q, u1))
	}
	step, _, _ := DivMod(modulus, r0)
	_, u, _ := DivMod(u0, step)
	v, _, _ := DivMod(Sub(r0, Mul(u, a)), b)
	return r0, u, v
}

// gcd returns the greatest common divisor. While the lesser number is long, it takes many steps of the Euclidean
// algorithm at once, by Lehmer's method; short numbers are left to the machine's division.
func gcd(a, b []uint32) []uint32 {
	if compare(a, b) < 0 {
		a, b = b, a
	}
	for len(b) > 2 {
		s := leadingSteps(a, b)
		if s.v0 == 0 {
			_, r := divide(a, b)
			a, b = b, r
		} else {
			a, b = s.apply(a, b)
		}
	}
	if len(b) == 0 {
		return clone(a)
	}
	if len(a) > 2 {
		_, r := divide(a, b)
		a, b = b, r
	}
	x, y := number(a), number(b)
	for y != 0 {
		x, y = y, x%y
	}
	return wordsOf(x)
}

// steps are some steps of the Euclidean algorithm, which lead from a and b to u0 a - v0 b and v1 b - u1 a if their
// number is even, otherwise to v0 b - u0 a and u1 a - v1 b. All four factors are less than 2^32.
type steps struct {
	u0, u1, v0, v1 uint64
	even           bool
}

// leadingSteps returns as many steps as the 64 leading bits of a, and those of b at the same places, determine;
// v0 is 0 if there are none. a has at least three words and is not less than b.
func leadingSteps(a, b []uint32) steps {
	shift := bitLength(a) - 64
	x, y := window(a, shift), window(b, shift)
	s := steps{u1: 1}
	u2, v2 := uint64(0), uint64(1)
	// Collins' condition: while it holds, the quotient is that of a and b, whatever their other bits are.
	for y >= v2 && x-y >= s.v1+v2 {
		q, r := x/y, x%y
		x, y = y, r
		s.u0, s.u1, u2 = s.u1, u2, s.u1+q*u2
		s.v0, s.v1, v2 = s.v1, v2, s.v1+q*v2
		s.even = !s.even
	}
	return s
}

// apply performs the steps.
func (s steps) apply(a, b []uint32) ([]uint32, []uint32) {
	if s.even {
		return difference(a, s.u0, b, s.v0), difference(b, s.v1, a, s.u1)
	}
	return difference(b, s.v0, a, s.u0), difference(a, s.u1, b, s.v1)
}

// window returns the 64 bits of a from the bit with the number shift on.
func window(a []uint32, shift int) uint64 {
	skip, by := shift/wordBits, shift%wordBits
	low, middle, high := uint64(word(a, skip)), uint64(word(a, skip+1)), uint64(word(a, skip+2))
	// For by = 0 the shift by 64 leaves nothing of the third word.
	return low>>by | middle<<(32-by) | high<<(64-by)
}

// difference returns x a - y b, which has to be at least 0 and to have no more words than the longer one of a and b.
func difference(a []uint32, x uint64, b []uint32, y uint64) []uint32 {
	out := make([]uint32, max(len(a), len(b)))
	add, sub, borrow := uint64(0), uint64(0), uint64(0)
	for i := range out {
		add += x * uint64(word(a, i))
		sub += y * uint64(word(b, i))
		d := add&wordMask - sub&wordMask - borrow
		out[i] = uint32(d)
		borrow = d >> 63
		add >>= wordBits
		sub >>= wordBits
	}
	return trim(out)
}
