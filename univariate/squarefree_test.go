package univariate_test

import (
	"testing"

	"eliminant/api"
	"eliminant/univariate"
)

// checkParts checks all that is said of the squarefree parts: there is one list alone for which it is true.
func checkParts(t *testing.T, a api.Upoly, l []api.Ufactor) {
	t.Helper()
	prod, last := read(t, "1"), 0
	for i, f := range l {
		if f.N <= last || len(f.P) < 2 || !same(univariate.Monic(f.P), f.P) {
			t.Errorf("part %d of %s: %s, %d", i, text(a), text(f.P), f.N)
		}
		last = f.N
		if !same(univariate.Gcd(f.P, univariate.Derive(f.P)), read(t, "1")) {
			t.Errorf("part %d of %s has a square: %s", i, text(a), text(f.P))
		}
		for k := range i {
			expect(t, "the common divisor of parts", univariate.Gcd(f.P, l[k].P), read(t, "1"), a)
		}
		for range f.N {
			prod = univariate.Mul(prod, f.P)
		}
	}
	if len(a) > 0 {
		expect(t, "the product of the parts", prod, univariate.Monic(a), a)
	} else if len(l) > 0 {
		t.Errorf("parts of 0: %v", l)
	}
}

// P7.1, G7: squarefree parts, and those of constants.
func TestSquareFree(t *testing.T) {
	type part struct {
		p string
		n int
	}
	for _, c := range []struct {
		a    string
		want []part
	}{
		{"0", nil}, {"5", nil}, {"-1/2", nil}, {"2 x^3 - 2 x^2", []part{{"x - 1", 1}, {"x", 2}}}, {"x^3 + 3 x^2 + 3 x + 1", []part{{"x + 1", 3}}}, {"x^2 - 2", []part{{"x^2 - 2", 1}}}, {"x^4 - 4 x^2 + 4", []part{{"x^2 - 2", 2}}},
		{"-3 x", []part{{"x", 1}}}, {"x^7", []part{{"x", 7}}}, {"2 x^5 + x^4", []part{{"x + 1/2", 1}, {"x", 4}}}, {"1/4 x^2 + 1/3 x + 1/9", []part{{"x + 2/3", 2}}}, {"x^8 - 2 x^4 + 1", []part{{"x^4 - 1", 2}}}, {"x^6 - x^4", []part{{"x^2 - 1", 1}, {"x", 4}}},
	} {
		a := read(t, c.a)
		got := univariate.SquareFree(a)
		for i, f := range got {
			if i >= len(c.want) || f.N != c.want[i].n || !same(f.P, read(t, c.want[i].p)) {
				t.Errorf("part %d of %s: %s, %d", i, text(a), text(f.P), f.N)
			}
		}
		if len(got) != len(c.want) {
			t.Errorf("%d parts of %s", len(got), text(a))
		}
		checkParts(t, a, got)
	}
	for _, a := range samples(t, source(), 60) {
		checkParts(t, a, univariate.SquareFree(a))
	}
}

// P7.5: the parts are those from which the polynomial was made, and their product has the same roots: it divides the
// polynomial, which divides a power of it.
func TestSquareFreeParts(t *testing.T) {
	r := source()
	var prime []api.Upoly
	for _, s := range []string{"x", "x - 1", "x + 1/2", "x^2 + 1", "x^2 - 2", "x^2 + x + 1", "x^3 - 2", "x^3 + 12345678901234567890 x + 1/98765432109876543210", "x^4 + 3"} {
		prime = append(prime, read(t, s))
	}
	for range 60 {
		a, highest := monomial(parsed(t, "-7/3"), 0), 0
		var by [9]api.Upoly // the products of those with the same multiplicity
		for _, p := range prime {
			n := r.IntN(9)
			if n == 0 || r.IntN(3) == 0 || len(a) > 25 {
				continue
			}
			if by[n] == nil {
				by[n] = read(t, "1")
			}
			by[n], highest = univariate.Mul(by[n], p), max(highest, n)
			for range n {
				a = univariate.Mul(a, p)
			}
		}
		got := univariate.SquareFree(a)
		checkParts(t, a, got)
		prod := read(t, "1")
		for _, f := range got {
			if f.N >= len(by) || !same(f.P, by[f.N]) {
				t.Errorf("the part %d of %s: %s", f.N, text(a), text(f.P))
			}
			prod = univariate.Mul(prod, f.P)
		}
		_, rest := division(t, a, prod)
		expect(t, "the remainder by the product", rest, nil, a, prod)
		power := read(t, "1")
		for range highest {
			power = univariate.Mul(power, prod)
		}
		_, rest = division(t, power, a)
		expect(t, "the remainder of the power", rest, nil, power, a)
	}
}

// P7.5, P1: of high degrees.
func TestLongSquareFree(t *testing.T) {
	l := univariate.SquareFree(monomial(number(3, 1), 5000))
	if len(l) != 1 || l[0].N != 5000 || !same(l[0].P, read(t, "x")) {
		t.Errorf("the parts of 3 x^5000: %v", l)
	}
	a := univariate.Mul(monomial(number(1, 1), 300), univariate.Sub(monomial(number(1, 1), 400), read(t, "1")))
	l = univariate.SquareFree(a)
	if len(l) != 2 || l[0].N != 1 || len(l[0].P) != 401 || l[1].N != 300 || !same(l[1].P, read(t, "x")) {
		t.Errorf("%d parts of x^700 - x^300", len(l))
	}
	r := source()
	b, c := randomLong(r, 15, 60), randomLong(r, 10, 60)
	checkParts(t, product(b, c, c), univariate.SquareFree(product(b, c, c)))
}
