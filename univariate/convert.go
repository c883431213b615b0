package univariate

import (
	"eliminant/api"
	"eliminant/rational"
)

// From reads a polynomial that only uses the variable i.
func From(p api.Poly, i int) (api.Upoly, api.Errno) {
	if !isVariable(i) {
		return nil, api.ErrArg
	}
	n := 0
	for _, t := range p {
		e := t.M[i]
		t.M[i] = 0
		if t.M != (api.Mono{}) || e < 0 || e > api.MaxExp {
			return nil, api.ErrArg
		}
		n = max(n, e+1)
	}
	out := zeros(n)
	for _, t := range p {
		out[t.M[i]] = rational.Add(out[t.M[i]], t.C)
	}
	return trimmed(out), api.OK
}

// To returns a as a polynomial in the variable i.
func To(a api.Upoly, i int) (api.Poly, api.Errno) {
	if !isVariable(i) {
		return nil, api.ErrArg
	}
	if len(a)-1 > api.MaxExp {
		return nil, api.ErrBig
	}
	var out api.Poly
	for k := len(a) - 1; k >= 0; k-- {
		if rational.Sign(a[k]) != 0 {
			t := api.Term{C: rational.Add(a[k], rational.Whole(0))} // in new memory
			t.M[i] = k
			out = append(out, t)
		}
	}
	return out, api.OK
}

// isVariable reports whether there is a variable i.
func isVariable(i int) bool { return 0 <= i && i < api.MaxVars }
