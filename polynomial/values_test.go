package polynomial_test

import (
	"math/big"
	"math/rand/v2"
	"testing"

	"eliminant/api"
	"eliminant/polynomial"
	"eliminant/rational"
)

// derivative returns the derivative by the definition.
func derivative(p api.Poly, i int) api.Poly {
	out := model{}
	for m, c := range modelOf(p) {
		if e := m[i]; e > 0 {
			m[i]--
			out.add(m, new(big.Rat).Mul(c, big.NewRat(int64(e), 1)))
		}
	}
	return out.poly()
}

// P6.1, F5: with the example of the chapter.
func TestPartial(t *testing.T) {
	for _, c := range []struct {
		p    string
		i    int
		want string
	}{
		{"x0^2 x1", 0, "2 x0 x1"}, {"x0^2 x1", 1, "x0^2"}, {"x0^2 x1", 2, "0"}, {"0", 0, "0"}, {"5", 7, "0"}, {"x7", 7, "1"}, {"x7^65535 - x7", 7, "65535 x7^65534 - 1"}, {"1/3 x3^3 - 1/2 x3^2 x4 + x4^5 - x3", 3, "x3^2 - x3 x4 - 1"},
	} {
		p := read(t, c.p)
		expect(t, "Partial", must(t)(polynomial.Partial(p, c.i)), read(t, c.want), p)
	}
	for _, p := range samples(t, source(), 150) {
		for i := range api.MaxVars {
			expect(t, "Partial", must(t)(polynomial.Partial(p, i)), derivative(p, i), p)
		}
		for _, i := range []int{-1, 8, 9, -1 << 63, 1<<63 - 1} {
			got, e := polynomial.Partial(p, i)
			expectError(t, "Partial", got, e, api.ErrArg, p)
		}
	}
}

// P6.5: derivatives are linear, satisfy the product rule, and commute.
func TestDerivatives(t *testing.T) {
	r := source()
	list := samples(t, r, 100)
	d := func(p api.Poly, i int) api.Poly { return must(t)(polynomial.Partial(p, i)) }
	for range 1500 {
		p, q := list[r.IntN(len(list))], list[r.IntN(len(list))]
		i, k := r.IntN(3), r.IntN(api.MaxVars)
		c := polynomial.Constant(number(int64(r.IntN(9)-4), int64(1+r.IntN(3))))
		expect(t, "d(p + c q) = dp + c dq", d(polynomial.Add(p, mul(t, c, q)), i), polynomial.Add(d(p, i), mul(t, c, d(q, i))), p, q, c)
		expect(t, "d(p q) = p dq + q dp", d(mul(t, p, q), i), polynomial.Add(mul(t, p, d(q, i)), mul(t, q, d(p, i))), p, q)
		expect(t, "derivatives commute", d(d(p, i), k), d(d(p, k), i), p)
		expect(t, "d(p^3) = 3 p^2 dp", d(mul(t, p, p, p), i), mul(t, read(t, "3"), p, p, d(p, i)), p)
	}
	for i := range api.MaxVars {
		for k := range api.MaxVars {
			want := "0"
			if i == k {
				want = "1"
			}
			expect(t, "derivatives of variables", d(variable(i), k), read(t, want), variable(i))
		}
	}
}

// point is a point, whose coordinates are numbers.
type point = [api.MaxVars]api.Rat

// randomPoint returns a point; some coordinates are 0, 1 or -1.
func randomPoint(r *rand.Rand) point {
	var x point
	for i := range x {
		x[i] = number(int64(r.IntN(7)-3), int64(1+r.IntN(4)))
	}
	return x
}

// valueOf returns the value by the definition.
func valueOf(p api.Poly, x point) *big.Rat {
	sum := new(big.Rat)
	for m, c := range modelOf(p) {
		for i, e := range m {
			base := bigOf(x[i])
			n, d := new(big.Int).Exp(base.Num(), big.NewInt(int64(e)), nil), new(big.Int).Exp(base.Denom(), big.NewInt(int64(e)), nil)
			c.Mul(c, new(big.Rat).SetFrac(n, d))
		}
		sum.Add(sum, c)
	}
	return sum
}

func expectValue(t *testing.T, p api.Poly, x point, want *big.Rat) {
	t.Helper()
	if got := polynomial.Eval(p, x); !sameRat(got, ratOf(want)) {
		t.Errorf("Eval of %s at %s: %s, want %s", text(p), text(coordinates(x)), bigOf(got).RatString(), want.RatString())
	}
}

// coordinates returns the sum of the coordinates times the variables, for messages.
func coordinates(x point) api.Poly {
	var out api.Poly
	for i, c := range x {
		out = append(out, api.Term{C: c, M: single(i, 1)})
	}
	return out
}

// P6.1, F5: against the definition.
func TestEval(t *testing.T) {
	r := source()
	var zero, one, minus point
	for i := range zero {
		zero[i], one[i], minus[i] = number(0, 1), number(1, 1), number(-1, 1)
	}
	for _, p := range samples(t, r, 150) {
		for _, x := range []point{zero, one, minus, randomPoint(r), randomPoint(r), randomPoint(r)} {
			expectValue(t, p, x, valueOf(p, x))
		}
	}
	for range 150 {
		p, x := random(r, 30, 12), randomPoint(r)
		x[r.IntN(3)] = number(98765432109876543, 12345678901)
		expectValue(t, p, x, valueOf(p, x))
	}
	for _, c := range []struct {
		p    string
		want int64
	}{
		{"0", 0}, {"1", 1}, {"-7", -7}, {"x0", 2}, {"x7", 9}, {"x0^2 x1 - x1", 9}, {"x0^10 - x1^3 x0", 970}, {"x7 - x6 + x5 - x4 + x3 - x2 + x1 - x0", 4}, {"x0 x1 x2 x3 x4 x5 x6 x7", 362880}, {"1/3 x1^2 + 1/2 x0", 4}, {"x6^3 + 1", 513},
	} {
		p, x := read(t, c.p), point{}
		for i := range x {
			x[i] = number(int64(i+2), 1)
		}
		expectValue(t, p, x, big.NewRat(c.want, 1))
	}
}

// P6.1, F5: 0^0 is 1: where a variable does not occur, 0 is as good as any number.
func TestEvalAtZero(t *testing.T) {
	for i := range api.MaxVars {
		x := point{}
		for k := range x {
			x[k] = number(0, 1)
		}
		p := polynomial.Add(read(t, "5"), api.Poly{{C: number(3, 1), M: single(i, 2)}})
		expectValue(t, p, x, big.NewRat(5, 1))
		x[i] = number(-1, 2)
		expectValue(t, p, x, big.NewRat(23, 4))
		expectValue(t, read(t, "1"), x, big.NewRat(1, 1))
	}
}

// P6.1, F5: the greatest exponents, and gaps between exponents.
func TestEvalOfGreatExponents(t *testing.T) {
	for _, s := range []string{"x0^65535", "x0^65535 + x0^65534 - 1/3", "x0^65535 x1^65535 - x0^65535 + x1^3 + x0", "x0^65535 x1 + x0^65535 + x0^256 x1^2 - x0^255 + x1^65535"} {
		p := read(t, s)
		for _, c := range [][2]api.Rat{{number(2, 1), number(-1, 1)}, {number(-1, 1), number(3, 2)}, {number(0, 1), number(1, 1)}, {number(1, 2), number(0, 1)}} {
			x := point{c[0], c[1]}
			for i := 2; i < api.MaxVars; i++ {
				x[i] = number(1, 1)
			}
			expectValue(t, p, x, valueOf(p, x))
		}
	}
}

// P6.3: the values of sums and products.
func TestValues(t *testing.T) {
	r := source()
	list := samples(t, r, 150)
	for range 1500 {
		p, q, x := list[r.IntN(len(list))], list[r.IntN(len(list))], randomPoint(r)
		v, w := polynomial.Eval(p, x), polynomial.Eval(q, x)
		for _, c := range []struct {
			what      string
			got, want api.Rat
		}{
			{"sum", polynomial.Eval(polynomial.Add(p, q), x), rational.Add(v, w)}, {"difference", polynomial.Eval(polynomial.Sub(p, q), x), rational.Sub(v, w)}, {"product", polynomial.Eval(mul(t, p, q), x), rational.Mul(v, w)},
			{"power", polynomial.Eval(must(t)(polynomial.Pow(p, 2)), x), rational.Mul(v, v)}, {"constant", polynomial.Eval(polynomial.Constant(v), x), v},
		} {
			if !sameRat(c.got, c.want) {
				t.Errorf("the value of the %s of %s at %s: %s, want %s", c.what, texts(p, q), text(coordinates(x)), bigOf(c.got).RatString(), bigOf(c.want).RatString())
			}
		}
	}
}
