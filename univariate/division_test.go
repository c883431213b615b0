package univariate_test

import (
	"testing"

	"eliminant/api"
	"eliminant/univariate"
)

// P7.1, G3: quotients and remainders, and the error of a division by 0.
func TestDivMod(t *testing.T) {
	for _, c := range []struct{ a, b, q, r string }{
		{"x^2 + 1", "2 x", "1/2 x", "1"}, {"x^3 - 1", "x - 1", "x^2 + x + 1", "0"}, {"x + 1", "x^2", "0", "x + 1"}, {"0", "3", "0", "0"}, {"0", "x", "0", "0"},
		{"4 x + 2", "2", "2 x + 1", "0"}, {"x", "-2/3", "-3/2 x", "0"}, {"x^2", "x^2 - 1", "1", "1"}, {"1/2 x^2 + 1/3", "1/5 x + 1", "5/2 x - 25/2", "77/6"},
		{"x^4", "3 x^2 + 2 x", "1/3 x^2 - 2/9 x + 4/27", "-8/27 x"}, {"6 x^3 + 6 x^2 + 1", "4 x + 2", "3/2 x^2 + 3/4 x - 3/8", "7/4"},
		{"2 x^2 + 5 x + 3", "2 x + 3", "x + 1", "0"}, {"7 x^2", "7 x^2", "1", "0"},
	} {
		a, b := read(t, c.a), read(t, c.b)
		q, r := division(t, a, b)
		expect(t, "the quotient", q, read(t, c.q), a, b)
		expect(t, "the remainder", r, read(t, c.r), a, b)
	}
	for _, a := range samples(t, source(), 10) {
		if q, r, e := univariate.DivMod(a, nil); len(q)+len(r) != 0 || e != api.ErrZero {
			t.Errorf("%s divided by 0: %s, %v", text(a), texts(q, r), e)
		}
	}
}

// P7.3: a is q b + r, where r has a lower degree than b; no other pair has this property.
func TestUniqueDivision(t *testing.T) {
	polys := samples(t, source(), 40)
	for _, a := range polys {
		for _, b := range polys {
			if len(b) == 0 {
				continue
			}
			q, r := division(t, a, b)
			wantQ, wantR := modelOf(a).divide(modelOf(b))
			expect(t, "the quotient", q, wantQ.poly(), a, b)
			expect(t, "the remainder", r, wantR.poly(), a, b)
			if len(r) >= len(b) {
				t.Errorf("the remainder of %s: %s", texts(a, b), text(r))
			}
			// From a quotient and a remainder, these are obtained again.
			sum := univariate.Add(univariate.Mul(a, b), r)
			q, again := division(t, sum, b)
			expect(t, "the quotient", q, a, sum, b)
			expect(t, "the remainder", again, r, sum, b)
		}
	}
}

// P7.1, G3, P1: of high degrees and with long numbers.
func TestLongDivision(t *testing.T) {
	r := source()
	a, b, c := randomLong(r, 60, 200), randomLong(r, 25, 300), randomLong(r, 24, 100)
	q, rest := division(t, univariate.Add(univariate.Mul(a, b), c), b)
	expect(t, "the quotient", q, a)
	expect(t, "the remainder", rest, c)
	q, rest = division(t, a, b)
	expect(t, "the sum", univariate.Add(univariate.Mul(q, b), rest), a)
	one := read(t, "1")
	high := univariate.Sub(monomial(number(1, 1), 30000), one)
	q, rest = division(t, high, read(t, "x - 1"))
	if len(q) != 30000 || len(rest) != 0 || !sameRat(q[0], number(1, 1)) || !sameRat(univariate.Eval(q, number(1, 1)), number(30000, 1)) {
		t.Error("x^30000 - 1 divided by x - 1")
	}
	q, rest = division(t, high, read(t, "x^2 - 2"))
	if len(q) != 29999 || len(rest) != 1 || len(rest[0].Num.Mag) != 469 {
		t.Error("x^30000 - 1 divided by x^2 - 2")
	}
}
