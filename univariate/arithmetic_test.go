package univariate_test

import (
	"testing"

	"eliminant/api"
	"eliminant/univariate"
)

// P7.1, G2: sums, differences, products and multiples.
func TestArithmetic(t *testing.T) {
	for _, c := range []struct{ a, b, sum, difference, product string }{
		{"0", "0", "0", "0", "0"}, {"0", "x - 2", "x - 2", "- x + 2", "0"}, {"x - 2", "0", "x - 2", "x - 2", "0"},
		{"x + 1", "x - 1", "2 x", "2", "x^2 - 1"}, {"x^2 + x", "- x^2 + 1", "x + 1", "2 x^2 + x - 1", "- x^4 - x^3 + x^2 + x"},
		{"1/2 x + 1/3", "6 x^3", "6 x^3 + 1/2 x + 1/3", "-6 x^3 + 1/2 x + 1/3", "3 x^4 + 2 x^3"}, {"1/2", "-1/2", "0", "1", "-1/4"},
		{"x^3", "x^4 - x", "x^4 + x^3 - x", "- x^4 + x^3 + x", "x^7 - x^4"}, {"1/6 x^2 + 1/10", "1/15 x - 1/2", "1/6 x^2 + 1/15 x - 2/5", "1/6 x^2 - 1/15 x + 3/5", "1/90 x^3 - 1/12 x^2 + 1/150 x - 1/20"},
	} {
		a, b := read(t, c.a), read(t, c.b)
		expect(t, "Add", univariate.Add(a, b), read(t, c.sum), a, b)
		expect(t, "Sub", univariate.Sub(a, b), read(t, c.difference), a, b)
		expect(t, "Mul", univariate.Mul(a, b), read(t, c.product), a, b)
	}
	r := source()
	polys := samples(t, r, 30)
	for _, a := range polys {
		for _, b := range polys {
			x, y := modelOf(a), modelOf(b)
			expect(t, "Add", univariate.Add(a, b), x.plus(1, y).poly(), a, b)
			expect(t, "Sub", univariate.Sub(a, b), x.plus(-1, y).poly(), a, b)
			expect(t, "Mul", univariate.Mul(a, b), x.times(y).poly(), a, b)
		}
		for _, c := range numbers(t) {
			expect(t, "Scale", univariate.Scale(c, a), modelOf(a).by(bigOf(c)).poly(), api.Upoly{c}, a)
		}
	}
}

// P7.2: the laws of a ring; degrees of products add up.
func TestRing(t *testing.T) {
	polys := samples(t, source(), 12)
	one := read(t, "1")
	for _, a := range polys {
		expect(t, "Sub", univariate.Sub(a, a), nil, a, a)
		expect(t, "Mul", univariate.Mul(a, one), a, a, one)
		for _, b := range polys {
			sum, prod := univariate.Add(a, b), univariate.Mul(a, b)
			expect(t, "Add", univariate.Add(b, a), sum, b, a)
			expect(t, "Mul", univariate.Mul(b, a), prod, b, a)
			expect(t, "Sub", univariate.Sub(sum, b), a, sum, b)
			if len(a) > 0 && len(b) > 0 && len(prod) != len(a)+len(b)-1 || len(a)*len(b) == 0 && len(prod) > 0 {
				t.Errorf("Mul of %s has the degree %d", texts(a, b), len(prod)-1)
			}
			for k := 0; k < len(polys); k += 3 {
				c := polys[k]
				expect(t, "Add", univariate.Add(sum, c), univariate.Add(a, univariate.Add(b, c)), a, b, c)
				expect(t, "Mul", univariate.Mul(prod, c), univariate.Mul(a, univariate.Mul(b, c)), a, b, c)
				expect(t, "Mul", univariate.Mul(sum, c), univariate.Add(univariate.Mul(a, c), univariate.Mul(b, c)), sum, c)
			}
		}
	}
}

// P7.1, G2, P1: of high degrees and with long numbers.
func TestLongArithmetic(t *testing.T) {
	r := source()
	a, b := randomLong(r, 40, 500), randomLong(r, 35, 300)
	x, y := modelOf(a), modelOf(b)
	expect(t, "Mul", univariate.Mul(a, b), x.times(y).poly())
	expect(t, "Add", univariate.Add(a, b), x.plus(1, y).poly())
	high := univariate.Add(monomial(number(2, 3), 65535), read(t, "1"))
	square := univariate.Add(univariate.Add(monomial(number(4, 9), 131070), monomial(number(4, 3), 65535)), read(t, "1"))
	if !same(univariate.Mul(high, high), square) {
		t.Error("the square of a polynomial of a high degree")
	}
}
