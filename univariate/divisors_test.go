package univariate_test

import (
	"testing"

	"eliminant/api"
	"eliminant/univariate"
)

// P7.1, G4, G5: greatest common divisors and cofactors.
func TestDivisors(t *testing.T) {
	for _, c := range []struct{ a, b, g, u, v string }{
		{"x^2 - 1", "2 x - 2", "x - 1", "0", "1/2"}, {"2 x - 2", "x^2 - 1", "x - 1", "1/2", "0"}, {"0", "0", "0", "0", "0"}, {"3", "0", "1", "1/3", "0"}, {"0", "3", "1", "0", "1/3"},
		{"x", "x + 1", "1", "-1", "1"}, {"2", "0", "1", "1/2", "0"}, {"0", "2 x", "x", "0", "1/2"}, {"x", "3", "1", "0", "1/3"}, {"3", "x", "1", "1/3", "0"}, {"4 x + 2", "0", "x + 1/2", "1/4", "0"},
		{"2", "5", "1", "0", "1/5"}, {"x^2 + 1", "x", "1", "1", "- x"}, {"x", "x^2 + 1", "1", "- x", "1"}, {"x^2 + 1", "x^2 - 1", "1", "1/2", "-1/2"}, {"2 x + 3", "-4 x - 6", "x + 3/2", "0", "-1/4"},
		{"x^3 - x", "x^3 + x^2", "x^2 + x", "-1", "1"}, {"x^4 + x", "x^2 - 1", "x + 1", "1", "- x^2 - 1"}, {"1/2 x^2 - 1/8", "1/3 x^2 + 1/3 x + 1/12", "x + 1/2", "-2", "3"},
	} {
		a, b := read(t, c.a), read(t, c.b)
		g, u, v := univariate.Bezout(a, b)
		expect(t, "Gcd", univariate.Gcd(a, b), read(t, c.g), a, b)
		expect(t, "Bezout", g, read(t, c.g), a, b)
		expect(t, "the first cofactor", u, read(t, c.u), a, b)
		expect(t, "the second cofactor", v, read(t, c.v), a, b)
	}
}

// checkDivisor checks that the greatest common divisor of a and b is the wanted one, and that the cofactors are the
// least ones: there is one first cofactor alone whose degree is low enough.
func checkDivisor(t *testing.T, a, b, want api.Upoly) {
	t.Helper()
	expect(t, "Gcd", univariate.Gcd(a, b), want, a, b)
	g, u, v := univariate.Bezout(a, b)
	expect(t, "Bezout", g, want, a, b)
	if len(b) == 0 {
		if len(v) > 0 || len(u) != min(len(a), 1) || len(u) == 1 && !same(univariate.Mul(u, a), g) {
			t.Errorf("cofactors of %s: %s", texts(a, b), texts(u, v))
		}
		return
	}
	expect(t, "the combination", univariate.Add(univariate.Mul(u, a), univariate.Mul(v, b)), g, a, b)
	q, r := division(t, b, g)
	expect(t, "the remainder", r, nil, b, g)
	if len(u) >= len(q) || len(q) == 1 && len(u) > 0 {
		t.Errorf("the first cofactor of %s: %s", texts(a, b), text(u))
	}
	_, r = division(t, a, g)
	expect(t, "the remainder", r, nil, a, g)
}

// P7.4, G4, G5: the divisor divides both, is a combination of them, and a multiple of each common divisor.
func TestCommonDivisors(t *testing.T) {
	r := source()
	polys := samples(t, r, 30)
	for _, a := range polys {
		for _, b := range polys {
			checkDivisor(t, a, b, modelOf(a).gcd(modelOf(b)).poly())
		}
	}
	for range 150 {
		a, b, c := random(r, 5), random(r, 5), random(r, 6)
		if r.IntN(4) == 0 {
			c = randomLong(r, 2, 40)
		}
		x, y := univariate.Mul(a, c), univariate.Mul(b, c)
		g := univariate.Gcd(x, y)
		checkDivisor(t, x, y, modelOf(x).gcd(modelOf(y)).poly())
		expect(t, "Gcd", g, univariate.Monic(univariate.Mul(univariate.Gcd(a, b), c)), x, y)
		expect(t, "Gcd", univariate.Gcd(y, x), g, y, x)
		if len(c) > 0 && len(g) > 0 {
			_, rest := division(t, g, c)
			expect(t, "the remainder of the divisor", rest, nil, g, c)
		}
	}
}

// P7.1, G4, G5: gaps between the degrees of the remainders, and common factors of all their coefficients.
func TestGaps(t *testing.T) {
	for _, c := range [][2]string{
		{"x^8 + x^6 - 3 x^4 - 3 x^3 + 8 x^2 + 2 x - 5", "3 x^6 + 5 x^4 - 4 x^2 - 9 x + 21"}, {"x^9 + 3 x + 1", "x^9 - x^2"}, {"x^9 + 3 x + 1", "2 x^4 - 1/7"}, {"x^12 - 1", "5 x^8 - 5"},
		{"6 x^7 + 12 x^3 - 18", "10 x^6 + 20 x^2 - 30"}, {"x^10 + x^5 + 1", "3 x^10 + x^5 + 2"}, {"x^9", "x^7 + x^2"}, {"2 x^9 + 4 x^4 + 1", "4 x^9 + 8 x^4 + 2 x"}, {"x^20 - 2", "x^3 - 7"}, {"12 x^6 + 1", "18 x^6 + 12 x + 5"},
	} {
		a, b := read(t, c[0]), read(t, c[1])
		want := modelOf(a).gcd(modelOf(b)).poly()
		checkDivisor(t, a, b, want)
		checkDivisor(t, b, a, want)
	}
	high := univariate.Sub(monomial(number(1, 1), 5000), read(t, "1"))
	checkDivisor(t, high, univariate.Derive(high), read(t, "1"))
	checkDivisor(t, high, read(t, "3 x^3 - 3"), read(t, "x - 1"))
	checkDivisor(t, read(t, "2 x^2 - 2"), high, read(t, "x^2 - 1"))
}

// P7.4, P1: of high degrees and with long numbers.
func TestLongDivisors(t *testing.T) {
	r := source()
	for _, c := range []struct{ degree, common, bits int }{{40, 0, 20}, {30, 20, 60}, {12, 3, 600}} {
		a, b, g := randomLong(r, c.degree, c.bits), randomLong(r, c.degree-1, c.bits), univariate.Monic(randomLong(r, c.common, c.bits))
		checkDivisor(t, univariate.Mul(a, g), univariate.Mul(b, g), g)
	}
}
