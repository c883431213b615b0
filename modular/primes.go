package modular

import "eliminant/api"

// Prime reports whether a number is a prime below 2^31.
func Prime(n uint64) bool {
	if n < 2 || n >= api.MaxPrime {
		return false
	}
	// The least number that is not a prime, and passes with these witnesses, is 3215031751, which is beyond 2^31.
	witnesses := [...]uint64{2, 3, 5, 7}
	for _, w := range witnesses {
		if n%w == 0 {
			return n == w
		}
	}
	for _, w := range witnesses {
		if !passes(w, n) {
			return false
		}
	}
	return true
}

// Next returns the least prime greater than n.
func Next(n uint64) (uint64, api.Errno) {
	if n >= api.MaxPrime-1 {
		return 0, api.ErrArg
	}
	// 2^31 - 1 is a prime: so the search ends.
	n++
	for !Prime(n) {
		n++
	}
	return n, api.OK
}

// passes reports whether an odd number n passes Miller's test with a witness. If n is a prime, 1 has no other square
// roots than 1 and -1: so, of the powers w^d, w^(2 d), w^(4 d), .., w^(n - 1) with an odd d, the first one is 1, or
// one before the last is -1.
func passes(w, n uint64) bool {
	d, squarings := n-1, 0
	for d%2 == 0 {
		d /= 2
		squarings++
	}
	x := Pow(w, d, n)
	if x == 1 {
		return true
	}
	for range squarings {
		if x == n-1 {
			return true
		}
		x = x * x % n
	}
	return false
}
