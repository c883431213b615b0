package univariate_test

import (
	"math/big"
	"testing"

	"eliminant/api"
	"eliminant/rational"
	"eliminant/univariate"
)

// P7.1, G6: derivatives, values and compositions.
func TestValues(t *testing.T) {
	for _, c := range []struct{ a, want string }{{"0", "0"}, {"5", "0"}, {"x", "1"}, {"3 x^3 - 2 x + 1", "9 x^2 - 2"}, {"1/6 x^6 - 1/2 x^2 + 1/3 x", "x^5 - x + 1/3"}, {"- x^100", "-100 x^99"}} {
		a := read(t, c.a)
		expect(t, "Derive", univariate.Derive(a), read(t, c.want), a)
	}
	for _, c := range []struct{ a, x, want string }{{"0", "5", "0"}, {"5", "0", "5"}, {"-1/2", "1/3", "-1/2"}, {"3 x^3 - 2 x + 1", "1/2", "3/8"}, {"x^2 + 1/4", "-1/2", "1/2"}, {"x^3 - 8", "2", "0"}, {"x^5 + x + 1/7", "0", "1/7"}, {"2/3 x^2 - x", "-3/5", "21/25"}} {
		a, x := read(t, c.a), parsed(t, c.x)
		expectNumber(t, "Eval", univariate.Eval(a, x), parsed(t, c.want), a, api.Upoly{x})
	}
	for _, c := range []struct{ a, b, want string }{
		{"x^2", "x + 1", "x^2 + 2 x + 1"}, {"x - 1", "1", "0"}, {"0", "x^2", "0"}, {"0", "0", "0"}, {"3", "x^2", "3"}, {"3", "0", "3"}, {"x^2 + x + 1/2", "0", "1/2"}, {"x^3 - 2", "5", "123"}, {"x^2 - 3", "x", "x^2 - 3"},
		{"x", "x^2 - 3", "x^2 - 3"}, {"x^2 - x", "x^2 + x", "x^4 + 2 x^3 - x"}, {"1/2 x^2 - 1/3", "1/3 x - 1/2", "1/18 x^2 - 1/6 x - 5/24"}, {"x^3", "- x", "- x^3"}, {"4 x^2 + 3", "1/2 x^5", "x^10 + 3"}, {"x^2 - 1/4", "-1/2", "0"},
	} {
		a, b := read(t, c.a), read(t, c.b)
		expect(t, "Compose", univariate.Compose(a, b), read(t, c.want), a, b)
	}
	polys := samples(t, source(), 30)
	for _, a := range polys {
		x := modelOf(a)
		var derivative model
		for k := 1; k < len(a); k++ {
			derivative = append(derivative, new(big.Rat).Mul(big.NewRat(int64(k), 1), x[k]))
		}
		expect(t, "Derive", univariate.Derive(a), derivative.poly(), a)
		for _, c := range numbers(t) {
			expectNumber(t, "Eval", univariate.Eval(a, c), ratOf(x.value(bigOf(c))), a, api.Upoly{c})
		}
		for _, b := range polys {
			var sum model
			power := model{big.NewRat(1, 1)}
			for _, c := range x {
				sum, power = sum.plus(1, power.by(c)), power.times(modelOf(b))
			}
			expect(t, "Compose", univariate.Compose(a, b), sum.poly(), a, b)
		}
	}
}

// P7.6: values of sums, products and compositions; the rules of derivatives.
func TestRules(t *testing.T) {
	polys := samples(t, source(), 14)
	for _, a := range polys {
		for _, b := range polys {
			sum, prod, put := univariate.Add(a, b), univariate.Mul(a, b), univariate.Compose(a, b)
			for _, x := range numbers(t) {
				va, vb := univariate.Eval(a, x), univariate.Eval(b, x)
				expectNumber(t, "the value of the sum", univariate.Eval(sum, x), rational.Add(va, vb), a, b, api.Upoly{x})
				expectNumber(t, "the value of the product", univariate.Eval(prod, x), rational.Mul(va, vb), a, b, api.Upoly{x})
				expectNumber(t, "the value of the composition", univariate.Eval(put, x), univariate.Eval(a, vb), a, b, api.Upoly{x})
			}
			da, db := univariate.Derive(a), univariate.Derive(b)
			expect(t, "the derivative of the sum", univariate.Derive(sum), univariate.Add(da, db), a, b)
			expect(t, "the derivative of the product", univariate.Derive(prod), univariate.Add(univariate.Mul(da, b), univariate.Mul(a, db)), a, b)
			expect(t, "the derivative of the composition", univariate.Derive(put), univariate.Mul(univariate.Compose(da, b), db), a, b)
		}
	}
}

// P7.6, P1: of high degrees and with long numbers.
func TestLongValues(t *testing.T) {
	r := source()
	a, x := randomLong(r, 50, 300), parsed(t, "123456789012345678901234567890/987654321987654321")
	expectNumber(t, "Eval", univariate.Eval(a, x), ratOf(modelOf(a).value(bigOf(x))))
	back := univariate.Compose(univariate.Compose(a, read(t, "2/3 x + 5")), read(t, "3/2 x - 15/2"))
	expect(t, "moved there and back", back, a)
	expectNumber(t, "Eval", univariate.Eval(monomial(number(3, 1), 65535), number(-1, 1)), number(-3, 1))
	high := univariate.Derive(monomial(number(1, 2), 65536))
	if len(high) != 65536 || !sameRat(high[65535], number(32768, 1)) {
		t.Error("the derivative of a polynomial of a high degree")
	}
}
