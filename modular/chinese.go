package modular

import (
	"eliminant/api"
	"eliminant/integer"
)

// Chinese returns the residue with given residues, and the modulus.
func Chinese(l, p []uint64) (api.Int, api.Int, api.Errno) {
	if len(l) != len(p) || !differentPrimes(p) {
		return api.Int{}, api.Int{}, api.ErrArg
	}
	u, m := integer.Of(0), integer.Of(1)
	for i := range len(p) {
		// m is a product of other primes: so it has an inverse, and adding m often enough leads to the residue.
		inverse, _ := Inv(residue(m, p[i]), p[i])
		gap := (l[i]%p[i] + p[i] - residue(u, p[i])) % p[i]
		times := gap * inverse % p[i]
		u = integer.Add(u, integer.Mul(m, integer.Of(int64(times))))
		m = integer.Mul(m, integer.Of(int64(p[i])))
	}
	return u, m, api.OK
}

// differentPrimes reports whether all elements of p are primes, and no two are equal.
func differentPrimes(p []uint64) bool {
	seen := map[uint64]bool{}
	for _, q := range p {
		if seen[q] || !Prime(q) {
			return false
		}
		seen[q] = true
	}
	return true
}
