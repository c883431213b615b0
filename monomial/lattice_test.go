package monomial_test

import (
	"testing"

	"eliminant/api"
	"eliminant/monomial"
)

// P4.1, D6, with the example.
func TestLcmAndGcd(t *testing.T) {
	for _, c := range []struct{ a, b, lcm, gcd api.Mono }{
		{mono(3, 0, 1), mono(1, 2), mono(3, 2, 1), mono(1)}, {mono(), mono(), mono(), mono()}, {mono(), each(65535), each(65535), mono()},
		{each(65535), each(65535), each(65535), each(65535)}, {mono(65535), power(7, 65535), mono(65535, 0, 0, 0, 0, 0, 0, 65535), mono()},
		{mono(1, 2, 3, 4, 5, 6, 7, 8), mono(8, 7, 6, 5, 4, 3, 2, 1), mono(8, 7, 6, 5, 5, 6, 7, 8), mono(1, 2, 3, 4, 4, 3, 2, 1)},
	} {
		if got, back := monomial.Lcm(c.a, c.b), monomial.Lcm(c.b, c.a); got != c.lcm || back != c.lcm {
			t.Errorf("Lcm(%v, %v): %v, and back %v, want %v", c.a, c.b, got, back, c.lcm)
		}
		if got, back := monomial.Gcd(c.a, c.b), monomial.Gcd(c.b, c.a); got != c.gcd || back != c.gcd {
			t.Errorf("Gcd(%v, %v): %v, and back %v, want %v", c.a, c.b, got, back, c.gcd)
		}
	}
}

// P4.1, D6: against the definition, at each variable and at random.
func TestLcmAndGcdByExponents(t *testing.T) {
	check := func(a, b api.Mono) {
		l, g := monomial.Lcm(a, b), monomial.Gcd(a, b)
		for i := range a {
			high, low := a[i], b[i]
			if high < low {
				high, low = low, high
			}
			if l[i] != high || g[i] != low {
				t.Errorf("%v and %v: %v and %v", a, b, l, g)
			}
		}
	}
	for i := range api.MaxVars {
		for _, e := range someExponents() {
			for _, f := range someExponents() {
				check(power(i, e), power(i, f))
				check(plus(each(3), power(i, e)), plus(power((i+3)%api.MaxVars, 9), power(i, f)))
			}
		}
	}
	r := source()
	for range 20000 {
		check(randomPair(r))
	}
}

// P4.4: the least common multiple is divisible by both and divides each common multiple, the greatest common divisor
// divides both and is divisible by each common divisor.
func TestLattice(t *testing.T) {
	l := below(2, 1, 4, 7)
	for _, a := range l {
		for _, b := range l {
			up, down := monomial.Lcm(a, b), monomial.Gcd(a, b)
			for _, c := range l {
				if (monomial.Divides(a, c) && monomial.Divides(b, c)) != monomial.Divides(up, c) {
					t.Errorf("the least common multiple of %v and %v is not %v: %v", a, b, up, c)
				}
				if (monomial.Divides(c, a) && monomial.Divides(c, b)) != monomial.Divides(c, down) {
					t.Errorf("the greatest common divisor of %v and %v is not %v: %v", a, b, down, c)
				}
			}
		}
	}
}

// P4.4: their product is that of both monomials, also where it does not exist.
func TestProductOfLcmAndGcd(t *testing.T) {
	r := source()
	for range 20000 {
		a, b := randomPair(r)
		x, e := monomial.Mul(a, b)
		y, f := monomial.Mul(monomial.Lcm(a, b), monomial.Gcd(a, b))
		if x != y || e != f {
			t.Errorf("%v and %v: %v, %v and %v, %v", a, b, x, e, y, f)
		}
	}
}
