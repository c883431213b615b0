package modular

import (
	"eliminant/api"
	"eliminant/integer"
)

// Rebuild returns the small rational number with a residue, if there is one.
func Rebuild(u, m api.Int) (api.Rat, bool) {
	if integer.Sign(m) < 1 {
		return api.Rat{}, false
	}
	one := integer.Of(1)
	half, _, _ := integer.DivMod(integer.Sub(m, one), integer.Of(2))
	bound, _ := integer.Root(half, 2)
	found := firstShort(u, m, bound)
	n, d := found.rest, found.times
	if integer.Sign(d) < 0 {
		n, d = integer.Neg(n), integer.Neg(d)
	}
	// A divisor that d and m have in common would also divide n: so the last condition excludes it, too.
	if integer.Cmp(d, bound) > 0 || integer.Cmp(integer.Gcd(n, d), one) != 0 {
		return api.Rat{}, false
	}
	return api.Rat{Num: n, Den: d}, true
}

// row is a row of the extended Euclidean algorithm for m and u: rest is times u, up to a multiple of m.
type row struct{ rest, times api.Int }

// firstShort returns the first row whose rest is at most the bound. If a number n/d is to be found, it is in this row:
// as 2 |n| d is less than m, n and d are the rest and the factor of a row, up to the sign; and the factors of the rows
// after the first short one are greater than the bound.
func firstShort(u, m, bound api.Int) row {
	_, rest, _ := integer.DivMod(u, m)
	before, last := row{m, integer.Of(0)}, row{rest, integer.Of(1)}
	step := func() {
		q, rest, _ := integer.DivMod(before.rest, last.rest)
		times := integer.Sub(before.times, integer.Mul(q, last.times))
		before, last = last, row{rest, times}
	}
	for integer.Cmp(last.rest, bound) > 0 {
		step()
	}
	return last
}
