package monomial

import "eliminant/api"

// Mul returns the product.
func Mul(a, b api.Mono) (api.Mono, api.Errno) {
	for i, e := range b {
		a[i] += e
	}
	if !Valid(a) {
		return api.Mono{}, api.ErrBig
	}
	return a, api.OK
}

// Divides reports whether a divides b.
func Divides(a, b api.Mono) bool {
	for i, e := range a {
		if e > b[i] {
			return false
		}
	}
	return true
}

// Quo returns a divided by b, if b divides a.
func Quo(a, b api.Mono) (api.Mono, bool) {
	if !Divides(b, a) {
		return api.Mono{}, false
	}
	for i, e := range b {
		a[i] -= e
	}
	return a, true
}

// Lcm returns the least common multiple.
func Lcm(a, b api.Mono) api.Mono {
	for i, e := range b {
		a[i] = max(a[i], e)
	}
	return a
}

// Gcd returns the greatest common divisor.
func Gcd(a, b api.Mono) api.Mono {
	for i, e := range b {
		a[i] = min(a[i], e)
	}
	return a
}
