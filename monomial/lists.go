package monomial

import "eliminant/api"

// Minimal returns the elements of a list that no other element divides, in decreasing order.
func Minimal(l []api.Mono) []api.Mono {
	list := decreasing(l)
	// A divisor is lexicographically less than its other multiples, so it comes after them. Of equal monomials, which
	// divide each other, the last one is left.
	divided := func(i int) bool { return In(list[i], list[i+1:]) }
	var out []api.Mono
	for i, m := range list {
		if !divided(i) {
			out = append(out, m)
		}
	}
	return out
}

// In reports whether an element of a list divides m.
func In(m api.Mono, l []api.Mono) bool {
	for _, d := range l {
		if Divides(d, m) {
			return true
		}
	}
	return false
}

// All returns the monomials of a degree in the variables 0 to n - 1, in decreasing order.
func All(n, d int) ([]api.Mono, api.Errno) {
	if n < 0 || n > api.MaxVars || d < 0 || d > api.MaxDeg {
		return nil, api.ErrArg
	}
	var out []api.Mono
	var m api.Mono
	var fill func(i, rest int)
	fill = func(i, rest int) {
		if i < n {
			for m[i] = rest; m[i] > 0; m[i]-- {
				fill(i+1, rest-m[i])
			}
			fill(i+1, rest)
		} else if rest == 0 {
			out = append(out, m)
		}
	}
	fill(0, d)
	return out, api.OK
}

// decreasing returns the elements of a list in lexicographically decreasing order.
func decreasing(l []api.Mono) []api.Mono {
	if len(l) < 2 {
		return l
	}
	half := len(l) / 2
	return merge(decreasing(l[:half]), decreasing(l[half:]))
}

// merge returns the elements of two decreasing lists as one such list.
func merge(a, b []api.Mono) []api.Mono {
	var out []api.Mono
	for len(a) > 0 && len(b) > 0 {
		if Cmp(a[0], b[0]) < 0 {
			a, b = b, a
		}
		out = append(out, a[0])
		a = a[1:]
	}
	return append(append(out, a...), b...)
}
