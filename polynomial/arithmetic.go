package polynomial

import (
	"slices"

	"eliminant/api"
	"eliminant/monomial"
	"eliminant/rational"
)

// maxPower is the greatest exponent for Pow, and the greatest degree for Subst.
const maxPower = 64

// Times returns c m p.
func Times(c api.Rat, m api.Mono, p api.Poly) (api.Poly, api.Errno) {
	if rational.Sign(c) == 0 {
		return nil, api.OK
	}
	out := make(api.Poly, len(p))
	for k, t := range p {
		product, e := monomial.Mul(m, t.M)
		if e != api.OK {
			return nil, e
		}
		out[k] = api.Term{C: rational.Mul(c, t.C), M: product}
	}
	return out, api.OK
}

// Add returns p + q.
func Add(p, q api.Poly) api.Poly { return merged(p, q, rational.Add, copied) }

// Sub returns p - q.
func Sub(p, q api.Poly) api.Poly { return merged(p, q, rational.Sub, rational.Neg) }

// Mul returns p q.
func Mul(p, q api.Poly) (api.Poly, api.Errno) {
	if len(q) == 1 {
		p, q = q, p
	}
	if len(p) == 1 {
		return Times(p[0].C, p[0].M, q) // the terms remain in their order
	}
	index := make(map[api.Mono]int) // where the monomial stands in sum
	var sum api.Poly
	for _, a := range p {
		for _, b := range q {
			m, e := monomial.Mul(a.M, b.M)
			if e != api.OK {
				return nil, e
			}
			c := rational.Mul(a.C, b.C)
			if k, found := index[m]; found {
				sum[k].C = rational.Add(sum[k].C, c)
				continue
			}
			index[m] = len(sum)
			sum = append(sum, api.Term{C: c, M: m})
		}
	}
	sum = slices.DeleteFunc(sum, func(t api.Term) bool { return rational.Sign(t.C) == 0 })
	return sorted(sum), api.OK
}

// Pow returns a power.
func Pow(p api.Poly, n int) (api.Poly, api.Errno) {
	if n < 0 || n > maxPower {
		return nil, api.ErrArg
	}
	// The greatest exponents of a product are the sums of those of the factors: so this is known before the product is.
	if !monomial.Valid(power(exponents(p), n)) {
		return nil, api.ErrBig
	}
	out := Constant(rational.Whole(1))
	for range n {
		// Squares would need fewer products, but of longer polynomials, which takes more time in several variables.
		out, _ = Mul(p, out)
	}
	return out, api.OK
}

// merged returns the sum or the difference: both combines two coefficients of one monomial, and right changes the
// coefficients that only q has.
func merged(p, q api.Poly, both func(a, b api.Rat) api.Rat, right func(a api.Rat) api.Rat) api.Poly {
	out := make(api.Poly, 0, len(p)+len(q))
	for len(p) > 0 || len(q) > 0 {
		switch side := first(p, q); {
		case side > 0:
			out = append(out, api.Term{C: copied(p[0].C), M: p[0].M})
			p = p[1:]
		case side < 0:
			out = append(out, api.Term{C: right(q[0].C), M: q[0].M})
			q = q[1:]
		default:
			if c := both(p[0].C, q[0].C); rational.Sign(c) != 0 {
				out = append(out, api.Term{C: c, M: p[0].M})
			}
			p, q = p[1:], q[1:]
		}
	}
	return out
}

// first compares the first monomials of two polynomials, not both of which are 0; without one, the other one is greater.
func first(p, q api.Poly) int {
	if len(q) == 0 {
		return 1
	}
	if len(p) == 0 {
		return -1
	}
	return monomial.Cmp(p[0].M, q[0].M)
}

// sorted puts terms into decreasing order, in place.
func sorted(list []api.Term) api.Poly {
	slices.SortFunc(list, func(a, b api.Term) int { return monomial.Cmp(b.M, a.M) })
	return list
}

// exponents returns the greatest exponent of each variable.
func exponents(p api.Poly) api.Mono {
	var m api.Mono
	for _, t := range p {
		m = monomial.Lcm(m, t.M)
	}
	return m
}

// power returns the monomial m^n, which may have exponents that are too great.
func power(m api.Mono, n int) api.Mono {
	for i := range m {
		m[i] *= n
	}
	return m
}
