package univariate

import (
	"slices"

	"eliminant/api"
	"eliminant/rational"
)

// Derive returns the derivative.
func Derive(a api.Upoly) api.Upoly {
	var out api.Upoly
	for k := 1; k < len(a); k++ {
		out = append(out, rational.Mul(rational.Whole(int64(k)), a[k]))
	}
	return out
}

// Eval returns the value at x.
func Eval(a api.Upoly, x api.Rat) api.Rat {
	sum := rational.Whole(0)
	for _, c := range slices.Backward(a) {
		sum = rational.Add(rational.Mul(sum, x), c)
	}
	return sum
}

// Compose returns a(b).
func Compose(a, b api.Upoly) api.Upoly {
	a, c := cleared(a)
	b, d := cleared(b)
	// With these powers of d, the sums of Horner's scheme remain whole.
	var sum api.Upoly
	scale := rational.Whole(1)
	for _, x := range slices.Backward(a) {
		scale = times(scale, d)
		sum = Add(Mul(sum, b), constant(times(scale, x)))
	}
	return quotient(sum, times(c, scale))
}
