package univariate

import (
	"eliminant/api"
	"eliminant/rational"
)

// Gcd returns the monic greatest common divisor.
func Gcd(a, b api.Upoly) api.Upoly {
	g, _ := euclid(primitive(a), primitive(b), func(step) {})
	return Monic(g)
}

// Bezout returns the monic greatest common divisor and its cofactors.
func Bezout(a, b api.Upoly) (api.Upoly, api.Upoly, api.Upoly) {
	if len(b) == 0 {
		g := Monic(a)
		if len(a) == 0 {
			return g, nil, nil
		}
		return g, constant(inverse(lead(a))), nil
	}
	x, y := primitive(a), primitive(b)
	// These are the cofactors of x for the two polynomials to which the steps have led.
	u, next := constant(rational.Whole(1)), api.Upoly(nil)
	g, _ := euclid(x, y, func(s step) {
		u, next = next, s.after(u, next)
	})
	v, _, _ := divide(Sub(g, Mul(next, x)), y)
	if len(a) > 0 {
		next = products(ratio(lead(x), times(lead(a), lead(g))), next)
	}
	return Monic(g), next, products(ratio(lead(y), times(lead(b), lead(g))), v)
}

// Resultant returns the resultant.
func Resultant(a, b api.Upoly) api.Rat {
	if len(a) == 0 || len(b) == 0 {
		return rational.Whole(0)
	}
	x, y := primitive(a), primitive(b)
	sign := rational.Whole(1)
	g, out := euclid(x, y, func(s step) {
		if len(s.a)%2 == 0 && len(s.b)%2 == 0 { // both degrees are odd
			sign = rational.Neg(sign)
		}
	})
	if len(g) > 1 {
		return rational.Whole(0)
	}
	c, d := ratio(lead(a), lead(x)), ratio(lead(b), lead(y))
	out = times(out, times(power(c, len(b)-1), power(d, len(a)-1)))
	return rational.Mul(sign, out)
}

// step is a step of the Euclidean algorithm, from a and b to b and (m a - q b)/d.
type step struct {
	a, b, q api.Upoly
	m, d    api.Rat
}

// after returns what the step makes of the polynomials a and b instead of its own ones.
func (s step) after(a, b api.Upoly) api.Upoly {
	return quotient(Sub(scaled(s.m, a), Mul(s.q, b)), s.d)
}

// euclid performs the Euclidean algorithm on polynomials with whole coefficients, and passes each step that leads to
// a remainder other than 0 to visit. It returns the last one, the greatest common divisor up to a factor; and, if that is
// constant, the resultant up to its sign.
//
// The remainders get the factors that make them subresultants: their coefficients are determinants of parts of the
// Sylvester matrix, so they are whole, and grow by about the same length in each step. See Cohen, A Course in
// Computational Algebraic Number Theory, algorithms 3.3.1 and 3.3.7.
func euclid(a, b api.Upoly, visit func(s step)) (api.Upoly, api.Rat) {
	g, h := rational.Whole(1), rational.Whole(1)
	for len(b) > 0 {
		q, r, m := divide(a, b)
		s := step{a: a, b: b, q: q, m: m, d: m}
		if n := len(a) - len(b); n >= 0 { // otherwise a and b only change places
			s.d = times(times(g, power(h, n)), ratio(m, power(lead(b), n+1)))
			g = lead(b)
			if n > 0 {
				h = ratio(power(g, n), power(h, n-1))
			}
		}
		r = quotient(r, s.d)
		if len(r) > 0 {
			visit(s)
		}
		a, b = b, r
	}
	return a, h
}
