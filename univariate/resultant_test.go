package univariate_test

import (
	"math/big"
	"testing"

	"eliminant/api"
	"eliminant/rational"
	"eliminant/univariate"
)

// determinant eliminates the entries below the diagonal.
func determinant(rows []model) *big.Rat {
	out := big.NewRat(1, 1)
	for k := range rows {
		p := k
		for p < len(rows) && rows[p][k].Sign() == 0 {
			p++
		}
		if p == len(rows) {
			return new(big.Rat)
		}
		if p != k {
			rows[p], rows[k] = rows[k], rows[p]
			out.Neg(out)
		}
		out.Mul(out, rows[k][k])
		for i := k + 1; i < len(rows); i++ {
			c := new(big.Rat).Quo(rows[i][k], rows[k][k])
			for j := k; j < len(rows); j++ {
				rows[i][j] = new(big.Rat).Sub(rows[i][j], new(big.Rat).Mul(c, rows[k][j]))
			}
		}
	}
	return out
}

// sylvester returns the determinant of the Sylvester matrix, and 0 if a or b is 0.
func sylvester(a, b model) *big.Rat {
	if len(a) == 0 || len(b) == 0 {
		return new(big.Rat)
	}
	m, n := len(a)-1, len(b)-1
	rows := make([]model, m+n)
	for i := range rows {
		p, shift := a, i
		if i >= n {
			p, shift = b, i-n
		}
		for j := range m + n {
			c := new(big.Rat)
			if k := len(p) - 1 - (j - shift); k >= 0 && k < len(p) {
				c.Set(p[k])
			}
			rows[i] = append(rows[i], c)
		}
	}
	return determinant(rows)
}

// P7.1, G8: resultants, and those of constants and of 0.
func TestResultant(t *testing.T) {
	for _, c := range []struct{ a, b, want string }{
		{"x^2 - 2", "x - 1", "-1"}, {"x - 1", "x^2 - 2", "-1"}, {"3", "x^2 + 1", "9"}, {"x^2 + 1", "3", "9"}, {"2", "5", "1"}, {"x", "0", "0"}, {"0", "x", "0"}, {"0", "0", "0"}, {"0", "7", "0"}, {"7", "0", "0"},
		{"x^2 - 1", "x - 1", "0"}, {"x - 3", "x - 5", "-2"}, {"x - 5", "x - 3", "2"}, {"2 x + 1", "4 x + 3", "2"}, {"x^2 + 1", "x^3 + 2", "5"}, {"-1/2", "x^3", "-1/8"}, {"x^3", "-1/2", "-1/8"}, {"2 x - 1", "2 x - 1", "0"},
		{"1/2 x - 1/3", "1/5 x^2", "1/45"}, {"x^3 - x - 1", "3 x^2 - 1", "23"}, {"2 x^2", "3", "9"}, {"3 x^3 + 1", "1/3 x", "-1/27"}, {"1/3 x", "3 x^3 + 1", "1/27"},
	} {
		a, b := read(t, c.a), read(t, c.b)
		expectNumber(t, "Resultant", univariate.Resultant(a, b), parsed(t, c.want), a, b)
	}
	polys := samples(t, source(), 30)
	for _, s := range []string{"x^9 + 3 x + 1", "2 x^4 - 1/7", "x^8 + x^6 - 3 x^4 - 3 x^3 + 8 x^2 + 2 x - 5", "3 x^6 + 5 x^4 - 4 x^2 - 9 x + 21", "6 x^7 + 12 x^3 - 18", "10 x^6 + 20 x^2 - 30", "x^5 + x^2", "3 x^5 + x"} {
		polys = append(polys, read(t, s))
	}
	for _, a := range polys {
		for _, b := range polys {
			expectNumber(t, "Resultant", univariate.Resultant(a, b), ratOf(sylvester(modelOf(a), modelOf(b))), a, b)
		}
	}
}

// P7.7: resultants are multiplicative, change their sign if both degrees are odd, and vanish exactly if there is a
// common divisor, or one of the polynomials is 0; that of x - t and b is b(t).
func TestResultants(t *testing.T) {
	polys := samples(t, source(), 14)
	for _, a := range polys {
		for _, b := range polys {
			ab := univariate.Resultant(a, b)
			turned := ab
			if len(a)%2 == 0 && len(b)%2 == 0 {
				turned = rational.Neg(ab)
			}
			expectNumber(t, "Resultant", univariate.Resultant(b, a), turned, b, a)
			g := univariate.Gcd(a, b)
			if (rational.Sign(ab) == 0) != (len(a) == 0 || len(b) == 0 || len(g) > 1) {
				t.Errorf("Resultant of %s: %s, with the common divisor %s", texts(a, b), rational.Text(ab), text(g))
			}
			for k := 0; k < len(polys); k += 3 {
				c := polys[k]
				ac, bc := univariate.Mul(a, c), univariate.Mul(b, c)
				expectNumber(t, "Resultant", univariate.Resultant(a, bc), rational.Mul(ab, univariate.Resultant(a, c)), a, bc)
				expectNumber(t, "Resultant", univariate.Resultant(ac, b), rational.Mul(ab, univariate.Resultant(c, b)), ac, b)
			}
		}
		for _, x := range numbers(t) {
			linear := api.Upoly{rational.Neg(x), number(1, 1)}
			expectNumber(t, "Resultant", univariate.Resultant(linear, a), univariate.Eval(a, x), linear, a)
		}
	}
}

// P7.7, P1: of high degrees and with long numbers.
func TestLongResultants(t *testing.T) {
	r := source()
	a, b, c := randomLong(r, 20, 40), randomLong(r, 17, 40), randomLong(r, 5, 40)
	ab, ac := univariate.Resultant(a, b), univariate.Resultant(a, c)
	expectNumber(t, "Resultant", univariate.Resultant(a, univariate.Mul(b, c)), rational.Mul(ab, ac))
	expectNumber(t, "Resultant", ab, ratOf(sylvester(modelOf(a), modelOf(b))))
	a, b = randomLong(r, 60, 20), randomLong(r, 59, 20)
	x := number(-3, 7)
	linear := api.Upoly{rational.Neg(x), number(1, 1)}
	expectNumber(t, "Resultant", univariate.Resultant(univariate.Mul(a, linear), univariate.Mul(b, linear)), number(0, 1))
	if rational.Sign(univariate.Resultant(a, b)) == 0 {
		t.Error("of two polynomials without a common divisor")
	}
	expectNumber(t, "Resultant", univariate.Resultant(linear, a), univariate.Eval(a, x))
	expectNumber(t, "Resultant", univariate.Resultant(read(t, "2 x - 1"), monomial(number(1, 1), 3000)), number(1, 1))
}
