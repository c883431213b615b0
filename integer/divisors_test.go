package integer_test

import (
	"math/big"
	"testing"

	"eliminant/api"
	"eliminant/integer"
)

// checkBezout checks the divisor and both cofactors against the definition of A6.
func checkBezout(t *testing.T, a, b api.Int) {
	t.Helper()
	x, y := toBig(a), toBig(b)
	g, u, v := integer.Bezout(a, b)
	want := new(big.Int).GCD(nil, nil, new(big.Int).Abs(x), new(big.Int).Abs(y))
	expect(t, "g", g, want)
	expect(t, "Gcd", integer.Gcd(a, b), want)
	sum := new(big.Int).Add(new(big.Int).Mul(toBig(u), x), new(big.Int).Mul(toBig(v), y))
	if sum.Cmp(want) != 0 || !integer.Valid(u) || !integer.Valid(v) {
		t.Errorf("Bezout(%v, %v): %v, %v give %v", x, y, u, v, sum)
	}
	if y.Sign() == 0 {
		expect(t, "u for b = 0", u, big.NewInt(int64(x.Sign())))
		expect(t, "v for b = 0", v, new(big.Int))
		return
	}
	// The cofactors of a are those that differ from u by multiples of |b|/g: the least one is less than that.
	if step := new(big.Int).Quo(new(big.Int).Abs(y), want); u.Neg || toBig(u).Cmp(step) >= 0 {
		t.Errorf("Bezout(%v, %v): u = %v is not the least cofactor", x, y, toBig(u))
	}
}

// P1.1, A6, with the examples.
func TestBezout(t *testing.T) {
	for _, c := range [][5]int64{
		{6, 4, 2, 1, -1}, {-5, 0, 5, -1, 0}, {0, -3, 3, 0, -1}, {7, 1, 1, 0, 1},
		{5, 0, 5, 1, 0}, {0, 0, 0, 0, 0}, {0, 3, 3, 0, 1}, {1, 0, 1, 1, 0}, {7, -1, 1, 0, -1}, {0, 1, 1, 0, 1},
		{3, 5, 1, 2, -1}, {-3, 5, 1, 3, 2}, {3, -5, 1, 2, 1}, {-3, -5, 1, 3, -2},
		{12, 18, 6, 2, -1}, {18, 12, 6, 1, -1}, {4, 4, 4, 0, 1}, {4, -4, 4, 0, -1}, {-8, 4, 4, 0, 1},
	} {
		a, b := integer.Of(c[0]), integer.Of(c[1])
		g, u, v := integer.Bezout(a, b)
		if !same(g, integer.Of(c[2])) || !same(u, integer.Of(c[3])) || !same(v, integer.Of(c[4])) {
			t.Errorf("Bezout(%d, %d): %s, %s, %s", c[0], c[1], text(g), text(u), text(v))
		}
	}
	list := samples(source(), 40)
	for _, a := range list {
		for _, b := range list {
			checkBezout(t, a, b)
		}
	}
	for a := int64(-20); a <= 20; a++ {
		for b := int64(-20); b <= 20; b++ {
			checkBezout(t, integer.Of(a), integer.Of(b))
		}
	}
	r := source()
	for range 3000 {
		checkBezout(t, random(r, 12), random(r, 12))
	}
}

// P1.1, A6: numbers with a known common factor, and Fibonacci numbers, for which the Euclidean algorithm takes most
// steps.
func TestGcdOfLongNumbers(t *testing.T) {
	r := source()
	for range 2000 {
		c := random(r, 10)
		checkBezout(t, integer.Mul(random(r, 10), c), integer.Mul(random(r, 10), c))
	}
	a, b := integer.Of(0), integer.Of(1)
	for i := range 1500 {
		a, b = b, integer.Add(a, b)
		if i%10 == 0 {
			checkBezout(t, a, b)
			checkBezout(t, integer.Mul(b, b), integer.Mul(a, b))
		}
	}
	for range 20 {
		a, b := random(r, 300), random(r, 300)
		expect(t, "Gcd", integer.Gcd(a, b), new(big.Int).GCD(nil, nil, toBig(absolute(a)), toBig(absolute(b))))
	}
}

// P1.5.
func TestDivisorLaws(t *testing.T) {
	r := source()
	for range 2000 {
		c := random(r, 4)
		a, b := integer.Mul(random(r, 5), c), integer.Mul(random(r, 5), c)
		g, u, v := integer.Bezout(a, b)
		if !multiple(a, g) || !multiple(b, g) {
			t.Errorf("%s does not divide %s and %s", text(g), text(a), text(b))
		}
		if !multiple(g, c) {
			t.Errorf("%s is no multiple of the common divisor %s", text(g), text(c))
		}
		if !same(g, integer.Add(integer.Mul(u, a), integer.Mul(v, b))) {
			t.Errorf("%s is not the combination of %s and %s", text(g), text(a), text(b))
		}
		if g.Neg || !same(g, integer.Gcd(a, b)) || !same(g, integer.Gcd(b, a)) || !same(g, integer.Gcd(integer.Neg(a), b)) {
			t.Errorf("Gcd(%s, %s) is not %s", text(a), text(b), text(g))
		}
	}
}
