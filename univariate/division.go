package univariate

import (
	"eliminant/api"
	"eliminant/rational"
)

// DivMod returns quotient and remainder.
func DivMod(a, b api.Upoly) (api.Upoly, api.Upoly, api.Errno) {
	if len(b) == 0 {
		return nil, nil, api.ErrZero
	}
	x, c := cleared(a)
	y := primitive(b)
	q, r, m := divide(x, y)
	m = times(c, m)
	return products(ratio(lead(y), times(lead(b), m)), q), products(inverse(m), r), api.OK
}

// divide divides polynomials with whole coefficients, of which b is not 0: it returns q, r and m with m a = q b + r,
// which are whole, too, and where the degree of r is less than that of b. Each time when a leading coefficient is not
// divisible by that of b, what remains of a is multiplied by the factor that is missing, and by no more.
func divide(a, b api.Upoly) (api.Upoly, api.Upoly, api.Rat) {
	n, m := len(b)-1, rational.Whole(1)
	rest := make(api.Upoly, len(a))
	copy(rest, a)
	if len(a) <= n {
		return nil, rest, m
	}
	down := inverse(lead(b))
	q := make(api.Upoly, len(a)-n)
	factors := make([]api.Rat, len(q))
	for k := len(q) - 1; k >= 0; k-- {
		rest[k] = times(m, rest[k]) // the coefficients below are multiplied when it is their turn
		c := times(rest[k+n], down)
		factors[k] = denominator(c)
		if !isWhole(c) {
			c, m = times(factors[k], c), times(factors[k], m)
			copy(rest[k:k+n], products(factors[k], rest[k:k+n]))
		}
		q[k] = c
		addProduct(rest[k:], rational.Neg(c), b[:n])
	}
	// Each coefficient of the quotient is still without the factors that were found after it.
	later := rational.Whole(1)
	for k := range q {
		q[k] = times(later, q[k])
		later = times(later, factors[k])
	}
	return q, trimmed(rest[:n]), m
}
