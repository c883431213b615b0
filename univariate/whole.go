package univariate

import (
	"eliminant/api"
	"eliminant/rational"
)

// Sums of fractions take several greatest common divisors each, sums of integers none. So what forms many sums of
// products clears the denominators first, and divides the result by them.

// cleared returns c a, with whole coefficients, and the least such c that is positive. The result may be a itself.
func cleared(a api.Upoly) (api.Upoly, api.Rat) {
	c := rational.Whole(1)
	for k := range a {
		if !isWhole(a[k]) {
			c = times(c, denominator(times(c, a[k])))
		}
	}
	return scaled(c, a), c
}

// primitive returns the multiple whose coefficients are whole, have no divisor in common, and end with a positive one.
// The result may be a itself.
func primitive(a api.Upoly) api.Upoly {
	if len(a) > 0 && !isOne(lead(a)) {
		a = Monic(a)
	}
	out, _ := cleared(a)
	return out
}

// scaled returns c a, where c is not 0. The result may be a itself.
func scaled(c api.Rat, a api.Upoly) api.Upoly {
	if isOne(c) {
		return a
	}
	return products(c, a)
}

// quotient returns a divided by c, which is not 0. The result may be a itself.
func quotient(a api.Upoly, c api.Rat) api.Upoly { return scaled(inverse(c), a) }

// denominator returns the denominator of a number as a number.
func denominator(c api.Rat) api.Rat { return api.Rat{Num: c.Den, Den: rational.Whole(1).Den} }

// isWhole reports whether a number is an integer.
func isWhole(c api.Rat) bool { return isUnit(c.Den) }

// isOne reports whether a number is 1.
func isOne(c api.Rat) bool { return isUnit(c.Den) && isUnit(c.Num) && !c.Num.Neg }

// isUnit reports whether an integer is 1 or -1. It looks at the words, since it is asked for each coefficient.
func isUnit(a api.Int) bool { return len(a.Mag) == 1 && a.Mag[0] == 1 }
