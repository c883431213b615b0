package monomial_test

import (
	"math/rand/v2"
	"slices"

	"eliminant/api"
)

// The tests compare with the definitions of the chapter, exponent by exponent, and with searches through all monomials
// up to a bound.

// mono returns the monomial with these first exponents.
func mono(l ...int) api.Mono {
	var m api.Mono
	copy(m[:], l)
	return m
}

// each returns the monomial whose exponents are all e.
func each(e int) api.Mono {
	var m api.Mono
	for i := range m {
		m[i] = e
	}
	return m
}

// power returns the power of the variable i.
func power(i, e int) api.Mono {
	var m api.Mono
	m[i] = e
	return m
}

func source() *rand.Rand { return rand.New(rand.NewPCG(7, 8)) }

// someExponents are those at both ends of the range, and in the middle of it.
func someExponents() []int { return []int{0, 1, 2, 255, 256, 32767, 32768, 65534, 65535} }

// random returns a monomial with exponents up to high; about every second one is 0.
func random(r *rand.Rand, high int) api.Mono {
	var m api.Mono
	for i := range m {
		if r.IntN(2) == 0 {
			m[i] = r.IntN(high + 1)
		}
	}
	return m
}

// randomPair returns two monomials, small ones and great ones, which may be equal, or divide each other.
func randomPair(r *rand.Rand) (api.Mono, api.Mono) {
	high := []int{1, 2, 5, 300, api.MaxExp}[r.IntN(5)]
	a, b := random(r, high), random(r, high)
	switch r.IntN(4) {
	case 0:
		return a, a
	case 1:
		for i := range a {
			a[i] = min(a[i], b[i])
		}
	case 2:
		for i := range a {
			a[i] = max(a[i], b[i])
		}
	}
	return a, b
}

// below returns all monomials in the variables of the list whose exponents are at most high.
func below(high int, variables ...int) []api.Mono {
	out := []api.Mono{{}}
	for _, v := range variables {
		for _, m := range out {
			for m[v] < high {
				m[v]++
				out = append(out, m)
			}
		}
	}
	return out
}

// divides says by the definition whether a divides b.
func divides(a, b api.Mono) bool {
	for i := range a {
		if a[i] > b[i] {
			return false
		}
	}
	return true
}

// compare says by the definition which of two monomials is lexicographically less.
func compare(a, b api.Mono) int { return slices.Compare(a[:], b[:]) }

// sign returns -1, 0 or 1.
func sign(c int) int { return max(-1, min(1, c)) }

// plus adds the exponents, also beyond the range.
func plus(a, b api.Mono) api.Mono {
	for i := range a {
		a[i] += b[i]
	}
	return a
}

// total adds up the exponents from the last one on.
func total(m api.Mono) int {
	out := 0
	for _, e := range slices.Backward(m[:]) {
		out += e
	}
	return out
}

// greatest returns the greatest exponent.
func greatest(m api.Mono) int { return slices.Max(m[:]) }
