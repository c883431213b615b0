package univariate

import (
	"eliminant/api"
	"eliminant/rational"
)

// Add returns a + b.
func Add(a, b api.Upoly) api.Upoly { return combined(a, b, rational.Add) }

// Sub returns a - b.
func Sub(a, b api.Upoly) api.Upoly { return combined(a, b, rational.Sub) }

// Mul returns a b.
func Mul(a, b api.Upoly) api.Upoly {
	if len(a) > len(b) {
		a, b = b, a
	}
	if len(a) == 0 {
		return nil
	}
	if len(a) == 1 {
		return Scale(a[0], b)
	}
	a, c := cleared(a)
	b, d := cleared(b)
	sum := zeros(len(a) + len(b) - 1)
	for k := range a {
		addProduct(sum[k:], a[k], b)
	}
	return quotient(sum, times(c, d))
}

// Scale returns c a.
func Scale(c api.Rat, a api.Upoly) api.Upoly {
	if rational.Sign(c) == 0 {
		return nil
	}
	return products(c, a)
}

// combined returns the polynomial whose coefficients both computes from those of a and b.
func combined(a, b api.Upoly, both func(x, y api.Rat) api.Rat) api.Upoly {
	out := make(api.Upoly, max(len(a), len(b)))
	for k := range out {
		out[k] = both(coefficient(a, k), coefficient(b, k))
	}
	return trimmed(out)
}

// products returns the products of c and each coefficient.
func products(c api.Rat, a api.Upoly) api.Upoly {
	out := make(api.Upoly, len(a))
	for k := range a {
		out[k] = rational.Mul(c, a[k])
	}
	return out
}

// addProduct adds c a to the first coefficients of sum, in place.
func addProduct(sum api.Upoly, c api.Rat, a api.Upoly) {
	if rational.Sign(c) == 0 {
		return
	}
	for k := range a {
		if rational.Sign(a[k]) != 0 {
			sum[k] = rational.Add(sum[k], rational.Mul(c, a[k]))
		}
	}
}
