package rational

import (
	"eliminant/api"
	"eliminant/integer"
)

// Add returns a + b. With the greatest common divisor g of the denominators, the sum is
// (a.Num y + b.Num x) / (x y g), in which the numerator can only share divisors of g with the denominator: so the
// numbers that are reduced remain short.
func Add(a, b api.Rat) api.Rat {
	g := integer.Gcd(a.Den, b.Den)
	if isOne(g) {
		n := integer.Add(product(a.Num, b.Den), product(b.Num, a.Den))
		return api.Rat{Num: n, Den: product(a.Den, b.Den)}
	}
	x, y := quotient(a.Den, g), quotient(b.Den, g)
	n := integer.Add(product(a.Num, y), product(b.Num, x))
	h := integer.Gcd(n, g)
	return api.Rat{Num: quotient(n, h), Den: product(x, y, quotient(g, h))}
}

// Sub returns a - b.
func Sub(a, b api.Rat) api.Rat {
	return Add(a, Neg(b))
}

// Mul returns a times b.
func Mul(a, b api.Rat) api.Rat {
	// Each of the two is in lowest terms: only the numerator of one and the denominator of the other have divisors in common.
	n, y := lowest(a.Num, b.Den)
	m, x := lowest(b.Num, a.Den)
	return api.Rat{Num: product(n, m), Den: product(x, y)}
}

// Neg returns -a.
func Neg(a api.Rat) api.Rat {
	return api.Rat{Num: integer.Neg(a.Num), Den: withSign(false, a.Den)}
}

// Inv returns the reciprocal.
func Inv(a api.Rat) (api.Rat, api.Errno) {
	if Sign(a) == 0 {
		return api.Rat{}, api.ErrZero
	}
	return api.Rat{Num: withSign(a.Num.Neg, a.Den), Den: withSign(false, a.Num)}, api.OK
}

// Div returns a divided by b.
func Div(a, b api.Rat) (api.Rat, api.Errno) {
	c, e := Inv(b)
	if e != api.OK {
		return api.Rat{}, e
	}
	return Mul(a, c), api.OK
}

// lowest divides n and d by their greatest common divisor. The results may be n and d themselves.
func lowest(n, d api.Int) (api.Int, api.Int) {
	g := integer.Gcd(n, d)
	if isOne(g) {
		return n, d
	}
	return quotient(n, g), quotient(d, g)
}
