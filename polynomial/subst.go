package polynomial

import (
	"eliminant/api"
	"eliminant/monomial"
	"eliminant/rational"
)

// Subst puts polynomials into the places of the variables.
func Subst(p api.Poly, q [api.MaxVars]api.Poly) (api.Poly, api.Errno) {
	rest, e := remaining(p, q)
	if e != api.OK {
		return nil, e
	}
	used, powerOf := variables(rest), powers(q)
	// put takes terms that have the same powers of the variables before used[k], and leaves those powers out.
	var put func(p api.Poly, k int) api.Poly
	put = func(p api.Poly, k int) api.Poly {
		var sum api.Poly
		if k == len(used) {
			for _, t := range p {
				sum = Add(sum, Constant(t.C))
			}
			return sum
		}
		for i := used[k]; len(p) > 0; {
			n := run(p, i)
			product, _ := Mul(put(p[:n], k+1), powerOf(i, p[0].M[i]))
			sum = Add(sum, product)
			p = p[n:]
		}
		return sum
	}
	return put(rest, 0), api.OK
}

// Permute moves variable i to perm[i].
func Permute(p api.Poly, perm [api.MaxVars]int) (api.Poly, api.Errno) {
	if !permutes(perm) {
		return nil, api.ErrArg
	}
	out := make(api.Poly, len(p))
	for k, t := range p {
		out[k].C = copied(t.C)
		for i, e := range t.M {
			out[k].M[perm[i]] = e
		}
	}
	return sorted(out), api.OK
}

// remaining returns the terms of p that do not become 0, and ErrBig if Subst does.
func remaining(p api.Poly, q [api.MaxVars]api.Poly) (api.Poly, api.Errno) {
	var greatest [api.MaxVars]api.Mono
	zeros := uint8(0)
	for i := range q {
		greatest[i] = exponents(q[i])
		if len(q[i]) == 0 {
			zeros |= 1 << i
		}
	}
	var out api.Poly
	for _, t := range p {
		// Exponents that are not valid may have a small sum.
		if !monomial.Valid(t.M) || monomial.Degree(t.M) > maxPower {
			return nil, api.ErrBig
		}
		if monomial.Support(t.M)&zeros != 0 {
			continue
		}
		if !monomial.Valid(replaced(t.M, greatest)) {
			return nil, api.ErrBig
		}
		out = append(out, t)
	}
	return out, api.OK
}

// replaced returns m with a monomial in the place of each variable; it may have exponents that are too great.
func replaced(m api.Mono, by [api.MaxVars]api.Mono) api.Mono {
	var out api.Mono
	for i, e := range m {
		for k, n := range by[i] {
			out[k] += e * n
		}
	}
	return out
}

// powers returns the function that returns the power q[i]^n, and that remembers the powers that it has computed.
func powers(q [api.MaxVars]api.Poly) func(i, n int) api.Poly {
	var known [api.MaxVars][]api.Poly
	for i := range known {
		known[i] = []api.Poly{Constant(rational.Whole(1))}
	}
	return func(i, n int) api.Poly {
		for k := len(known[i]); k <= n; k++ {
			next, _ := Mul(q[i], known[i][k-1])
			known[i] = append(known[i], next)
		}
		return known[i][n]
	}
}

// permutes reports whether each variable stands at one place.
func permutes(perm [api.MaxVars]int) bool {
	set := 0
	for _, i := range perm {
		if !isVariable(i) {
			return false
		}
		set |= 1 << i
	}
	return set == 1<<api.MaxVars-1
}
