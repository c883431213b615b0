package monomial_test

import (
	"math"
	"testing"

	"eliminant/api"
	"eliminant/monomial"
)

// P4.1, D1: both ends of the range, at each variable; all other values are not valid.
func TestValid(t *testing.T) {
	for i := range api.MaxVars {
		for _, rest := range []int{0, 1, 7, api.MaxExp} {
			m := each(rest)
			for _, e := range someExponents() {
				m[i] = e
				if !monomial.Valid(m) {
					t.Errorf("Valid(%v): false", m)
				}
			}
			for _, e := range []int{-1, -2, -65535, -65536, 65536, 65537, 1 << 31, 1<<32 + 1, -1 << 32, math.MinInt, math.MaxInt} {
				m[i] = e
				if monomial.Valid(m) {
					t.Errorf("Valid(%v): true", m)
				}
			}
		}
	}
}

// P4.1, D1: exponents that are not in the range do not make up for one another.
func TestValidNeedsEachExponent(t *testing.T) {
	for _, m := range []api.Mono{mono(-1, 1), mono(1, -1), mono(65536, -1), mono(math.MaxInt, math.MinInt, 1), mono(0, 0, 0, 0, 0, 0, -1, 65535), each(-1), each(65536)} {
		if monomial.Valid(m) {
			t.Errorf("Valid(%v): true", m)
		}
	}
}

// P4.1, D2.
func TestDegree(t *testing.T) {
	for _, c := range []struct {
		m    api.Mono
		want int
	}{{mono(), 0}, {mono(3, 0, 4), 7}, {mono(1, 2, 3, 4, 5, 6, 7, 8), 36}, {each(1), 8}, {each(api.MaxExp), 524280}, {mono(65535, 1), 65536}} {
		if got := monomial.Degree(c.m); got != c.want {
			t.Errorf("Degree(%v): %d, want %d", c.m, got, c.want)
		}
	}
	for i := range api.MaxVars {
		for _, e := range someExponents() {
			if got := monomial.Degree(power(i, e)); got != e {
				t.Errorf("Degree(%v): %d", power(i, e), got)
			}
		}
	}
	r := source()
	for range 5000 {
		m, _ := randomPair(r)
		if got := monomial.Degree(m); got != total(m) {
			t.Errorf("Degree(%v): %d, want %d", m, got, total(m))
		}
	}
}

// P4.1, D2: each set of variables, whatever the exponents are.
func TestSupport(t *testing.T) {
	for mask := range 256 {
		for _, e := range someExponents()[1:] {
			m, odd := mono(), mono()
			for i := range m {
				if mask>>i&1 == 1 {
					m[i], odd[i] = e, 1+(e+i)%api.MaxExp
				}
			}
			if monomial.Support(m) != uint8(mask) || monomial.Support(odd) != uint8(mask) {
				t.Errorf("Support(%v): %b; Support(%v): %b", m, monomial.Support(m), odd, monomial.Support(odd))
			}
		}
	}
}
