package univariate

import "eliminant/api"

// SquareFree returns the squarefree parts.
func SquareFree(a api.Upoly) []api.Ufactor {
	var out []api.Ufactor
	d := Derive(a)
	g := Gcd(a, d)
	// This is Yun's algorithm: rest is the product of the leading coefficient and the parts P with multiplicities N of at
	// least n, and c is the sum of (N - n + 1) P' rest/P over these parts. No multiplicity is greater than the degree of
	// a; with this bound it ends for coefficients that are not valid, too.
	rest, c := exact(a, g), exact(d, g)
	for n := 1; len(rest) > 1 && n < len(a); n++ {
		d = Sub(c, Derive(rest))
		p := Gcd(rest, d)
		if len(p) > 1 {
			out = append(out, api.Ufactor{P: p, N: n})
		}
		rest, c = exact(rest, p), exact(d, p)
	}
	return out
}

// exact returns the quotient of two polynomials, the second of which divides the first.
func exact(a, b api.Upoly) api.Upoly {
	q, _, _ := DivMod(a, b)
	return q
}
