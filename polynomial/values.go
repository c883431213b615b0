package polynomial

import (
	"eliminant/api"
	"eliminant/rational"
)

// Partial returns the derivative by a variable.
func Partial(p api.Poly, i int) (api.Poly, api.Errno) {
	if !isVariable(i) {
		return nil, api.ErrArg
	}
	var out api.Poly
	for _, t := range p {
		if e := t.M[i]; e > 0 {
			t.M[i]--
			out = append(out, api.Term{C: rational.Mul(rational.Whole(int64(e)), t.C), M: t.M})
		}
	}
	return out, api.OK
}

// Eval returns the value at a point.
func Eval(p api.Poly, x [api.MaxVars]api.Rat) api.Rat {
	used := variables(p)
	// value takes terms that have the same powers of the variables before used[k], and leaves those powers out.
	var value func(p api.Poly, k int) api.Rat
	value = func(p api.Poly, k int) api.Rat {
		sum := rational.Whole(0)
		if k == len(used) {
			for _, t := range p {
				sum = rational.Add(sum, t.C)
			}
			return sum
		}
		// By Horner's scheme, the powers are those by which the exponent decreases from one part to the next.
		for i := used[k]; len(p) > 0; {
			n, e := run(p, i), p[0].M[i]
			sum = rational.Add(sum, value(p[:n], k+1))
			p = p[n:]
			if len(p) > 0 {
				e -= p[0].M[i]
			}
			if e > 0 {
				sum = rational.Mul(sum, raised(x[i], e))
			}
		}
		return sum
	}
	return value(p, 0)
}

// variables returns the variables that occur, in increasing order.
func variables(p api.Poly) []int {
	var out []int
	set := Uses(p)
	for i := range api.MaxVars {
		if set>>i&1 == 1 {
			out = append(out, i)
		}
	}
	return out
}

// run returns how many of the first terms of a polynomial, which is not 0, have the same power of the variable i.
func run(p api.Poly, i int) int {
	n := 1
	for n < len(p) && p[n].M[i] == p[0].M[i] {
		n++
	}
	return n
}

// raised returns x^n, for n from 1 to the greatest exponent; so it also ends for exponents that are not valid.
func raised(x api.Rat, n int) api.Rat {
	n = min(n, api.MaxExp)
	if n <= 1 {
		return x
	}
	half := raised(x, n/2)
	out := rational.Mul(half, half)
	if n%2 == 1 {
		out = rational.Mul(out, x)
	}
	return out
}
