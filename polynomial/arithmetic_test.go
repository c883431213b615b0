package polynomial_test

import (
	"math/big"
	"testing"

	"eliminant/api"
	"eliminant/polynomial"
)

// checkProducts compares the products of p and q, and p times each term of q, with the definition.
func checkProducts(t *testing.T, p, q api.Poly) {
	t.Helper()
	want := modelOf(p).times(modelOf(q))
	product, e := polynomial.Mul(p, q)
	if want.greatest() > api.MaxExp {
		expectError(t, "Mul", product, e, api.ErrBig, p, q)
	} else {
		expect(t, "Mul", must(t)(product, e), want.poly(), p, q)
	}
	for _, term := range q {
		want := modelOf(p).times(modelOf(api.Poly{term}))
		product, e := polynomial.Times(term.C, term.M, p)
		if want.greatest() > api.MaxExp {
			expectError(t, "Times", product, e, api.ErrBig, p, api.Poly{term})
		} else {
			expect(t, "Times", must(t)(product, e), want.poly(), p, api.Poly{term})
		}
	}
}

// P6.1, F1 and F2: sums, differences and products against the definition.
func TestArithmetic(t *testing.T) {
	r := source()
	list := samples(t, r, 60)
	var pairs [][2]api.Poly
	for _, p := range list {
		for _, q := range list {
			pairs = append(pairs, [2]api.Poly{p, q})
		}
	}
	for k := range 500 {
		n := 8 + k%10/9*20 // some are longer
		pairs = append(pairs, [2]api.Poly{random(r, n, n/3), random(r, n, n/3)})
	}
	for _, pair := range pairs {
		p, q := pair[0], pair[1]
		sum, difference := modelOf(p), modelOf(p)
		for m, c := range modelOf(q) {
			sum.add(m, c)
			difference.add(m, new(big.Rat).Neg(c))
		}
		expect(t, "Add", polynomial.Add(p, q), sum.poly(), p, q)
		expect(t, "Sub", polynomial.Sub(p, q), difference.poly(), p, q)
		checkProducts(t, p, q)
	}
}

// P6.1, F2: by examples, with the ones of the chapter; sums and products in which terms vanish.
func TestArithmeticByExamples(t *testing.T) {
	for _, c := range [][5]string{
		{"x0 + 1", "x0 - 1", "2 x0", "2", "x0^2 - 1"}, {"x0 + x1", "x0 - x1", "2 x0", "2 x1", "x0^2 - x1^2"}, {"x0", "- x0", "0", "2 x0", "- x0^2"}, {"0", "x3", "x3", "- x3", "0"}, {"0", "0", "0", "0", "0"},
		{"x0^2 + x0 + 1", "x0 - 1", "x0^2 + 2 x0", "x0^2 + 2", "x0^3 - 1"}, {"x0^2 + 2 x0 + 2", "x0^2 - 2 x0 + 2", "2 x0^2 + 4", "4 x0", "x0^4 + 4"}, {"x7", "x0", "x0 + x7", "- x0 + x7", "x0 x7"},
		{"1/2 x1 + 1/3", "1/2 x1 - 1/3", "x1", "2/3", "1/4 x1^2 - 1/9"}, {"x0 + x7 + 1", "x3 - x7", "x0 + x3 + 1", "x0 - x3 + 2 x7 + 1", "x0 x3 - x0 x7 + x3 x7 - x7^2 + x3 - x7"}, {"x2 - 1", "5", "x2 + 4", "x2 - 6", "5 x2 - 5"},
	} {
		p, q := read(t, c[0]), read(t, c[1])
		expect(t, "Add", polynomial.Add(p, q), read(t, c[2]), p, q)
		expect(t, "Sub", polynomial.Sub(p, q), read(t, c[3]), p, q)
		expect(t, "Mul", mul(t, p, q), read(t, c[4]), p, q)
		expect(t, "Mul", mul(t, q, p), read(t, c[4]), q, p)
	}
}

// P6.1, F1: 0 has no exponents, so that it is not too big.
func TestTimesByExamples(t *testing.T) {
	p := read(t, "x0^2 x1 - 1/2 x1 + 3")
	for _, c := range []struct {
		c    api.Rat
		m    api.Mono
		p    api.Poly
		want string
	}{
		{number(1, 1), mono(), p, "x0^2 x1 - 1/2 x1 + 3"}, {number(-2, 3), mono(0, 1, 1), p, "-2/3 x0^2 x1^2 x2 + 1/3 x1^2 x2 - 2 x1 x2"}, {number(0, 1), mono(5), p, "0"}, {number(5, 1), mono(5), nil, "0"},
		{number(0, 1), each(65535), p, "0"}, {number(1, 1), each(65535), nil, "0"}, {number(2, 1), mono(65533, 65534, 65535), p, "2 x0^65535 x1^65535 x2^65535 - x0^65533 x1^65535 x2^65535 + 6 x0^65533 x1^65534 x2^65535"},
	} {
		got, e := polynomial.Times(c.c, c.m, c.p)
		expect(t, "Times", must(t)(got, e), read(t, c.want), c.p)
	}
	for i := range api.MaxVars {
		q := polynomial.Add(p, api.Poly{{C: number(1, 1), M: single(i, 30000)}})
		got, e := polynomial.Times(number(1, 1), single(i, 35535), q)
		expect(t, "Times", must(t)(got, e), modelOf(q).times(model{single(i, 35535): big.NewRat(1, 1)}).poly(), q)
		got, e = polynomial.Times(number(1, 1), single(i, 35536), q)
		expectError(t, "Times", got, e, api.ErrBig, q)
	}
}

// P6.1, F2: products whose exponents are at the limit, also where the greatest ones are not in the first terms.
func TestMulAtTheLimit(t *testing.T) {
	for i := range api.MaxVars {
		for _, c := range []struct {
			a, b int
			want api.Errno
		}{{65535, 0, api.OK}, {65534, 1, api.OK}, {32768, 32767, api.OK}, {65535, 1, api.ErrBig}, {32768, 32768, api.ErrBig}, {65535, 65535, api.ErrBig}} {
			a, b := api.Term{C: number(2, 1), M: single(i, c.a)}, api.Term{C: number(1, 3), M: single(i, c.b)}
			for _, rest := range []string{"0", "x0^2 + 1", "x0^2 x7 - x1^2 x7 + x7"} {
				for _, other := range []string{"0", "x7^2 x0 - 5"} {
					p, q := polynomial.Add(read(t, rest), api.Poly{a}), polynomial.Add(read(t, other), api.Poly{b})
					got, e := polynomial.Mul(p, q)
					if want := modelOf(p).times(modelOf(q)); want.greatest() <= api.MaxExp {
						expect(t, "Mul", must(t)(got, e), want.poly(), p, q)
					} else {
						expectError(t, "Mul", got, e, api.ErrBig, p, q)
					}
					if e != c.want && rest == "0" && other == "0" {
						t.Errorf("Mul of %s: %v", texts(p, q), e)
					}
				}
			}
		}
	}
	// Terms that are too great, of which some cancel out; and 0, which has no exponents.
	p, q := read(t, "x0^40000 + x1^40000"), read(t, "x0^40000 - x1^40000")
	got, e := polynomial.Mul(p, q)
	expectError(t, "Mul", got, e, api.ErrBig, p, q)
	for _, p := range []api.Poly{p, q, {{C: number(1, 1), M: each(65535)}}} {
		expect(t, "Mul", mul(t, p, nil), nil, p, nil)
		expect(t, "Mul", mul(t, nil, p), nil, nil, p)
	}
}

// P6.1, F2: powers against products of the definition.
func TestPow(t *testing.T) {
	r := source()
	list := samples(t, r, 10)
	for range 40 {
		list = append(list, random(r, 4, 2))
	}
	for _, p := range list {
		want := model{mono(): big.NewRat(1, 1)}
		for n := range 6 {
			expect(t, "Pow", must(t)(polynomial.Pow(p, n)), want.poly(), p)
			want = want.times(modelOf(p))
		}
	}
	for _, p := range []api.Poly{nil, read(t, "1"), read(t, "-1"), read(t, "3/2"), read(t, "x0"), read(t, "x0 + 1"), read(t, "1/2 x1 x2^3 - x7")} {
		want := model{mono(): big.NewRat(1, 1)}
		for n := range 65 {
			expect(t, "Pow", must(t)(polynomial.Pow(p, n)), want.poly(), p)
			want = want.times(modelOf(p))
		}
	}
	// The binomials are C(64, k).
	if p := must(t)(polynomial.Pow(read(t, "x0 + x5"), 64)); len(p) != 65 || !sameTerm(p[30], api.Term{C: ratOf(new(big.Rat).SetInt(new(big.Int).Binomial(64, 30))), M: mono(34, 0, 0, 0, 0, 30)}) {
		t.Errorf("Pow: %s", text(p))
	}
	expect(t, "0^0", must(t)(polynomial.Pow(nil, 0)), read(t, "1"))
	expect(t, "0^64", must(t)(polynomial.Pow(nil, 64)), nil)
}

// P6.1, F2: ErrArg is named first.
func TestPowErrors(t *testing.T) {
	great := api.Poly{{C: number(1, 1), M: each(65535)}}
	for _, p := range []api.Poly{nil, read(t, "1"), read(t, "x0 - 1"), great} {
		for _, n := range []int{-1, 65, 66, 1 << 40, -1 << 63, 1<<63 - 1} {
			got, e := polynomial.Pow(p, n)
			expectError(t, "Pow", got, e, api.ErrArg, p)
		}
	}
	for i := range api.MaxVars {
		for _, c := range []struct {
			e, n int
			want api.Errno
		}{
			{65535, 0, api.OK}, {65535, 1, api.OK}, {65535, 2, api.ErrBig}, {32767, 2, api.OK}, {32768, 2, api.ErrBig}, {21845, 3, api.OK}, {21846, 3, api.ErrBig}, {1023, 64, api.OK}, {1024, 64, api.ErrBig}, {1040, 63, api.OK}, {1041, 63, api.ErrBig},
		} {
			p := api.Poly{{C: number(-3, 2), M: single(i, c.e)}}
			for _, p := range []api.Poly{p, polynomial.Add(p, read(t, "1")), polynomial.Add(p, read(t, "1/3 x0"))} {
				got, e := polynomial.Pow(p, c.n)
				expectError(t, "Pow", got, e, c.want, p)
				// One or two terms have one or n + 1 terms as their power.
				if e == api.OK && (len(got) != c.n*(len(p)-1)+1 || modelOf(got).greatest() != c.n*c.e || !polynomial.Valid(got)) {
					t.Errorf("Pow of %s, %d: %s", text(p), c.n, text(got))
				}
			}
		}
	}
	// It does not begin with powers that it cannot use: these would take hours.
	var p api.Poly
	for _, s := range []string{"x0^65535", "x0^3 x1 + x2^5", "x3 + x4^7", "x5^2 x1 - x6", "x7^9 x2 + x4 + 3/7", "x0^20 x1^30 x2^9 - 1/5 x3^4"} {
		p = polynomial.Add(p, read(t, s))
	}
	got, e := polynomial.Pow(p, 64)
	expectError(t, "Pow", got, e, api.ErrBig, p)
}

// P6.2: a commutative ring without divisors of zero.
func TestRing(t *testing.T) {
	r := source()
	list := samples(t, r, 150)
	pick := func() api.Poly { return list[r.IntN(len(list))] }
	zero, one := api.Poly(nil), read(t, "1")
	add, sub := polynomial.Add, polynomial.Sub
	for range 1500 {
		p, q, s := pick(), pick(), pick()
		expect(t, "p + q = q + p", add(p, q), add(q, p), p, q)
		expect(t, "(p + q) + s = p + (q + s)", add(add(p, q), s), add(p, add(q, s)), p, q, s)
		expect(t, "p q = q p", mul(t, p, q), mul(t, q, p), p, q)
		expect(t, "(p q) s = p (q s)", mul(t, mul(t, p, q), s), mul(t, p, mul(t, q, s)), p, q, s)
		expect(t, "p (q + s) = p q + p s", mul(t, p, add(q, s)), add(mul(t, p, q), mul(t, p, s)), p, q, s)
		expect(t, "p + 0 = p", add(p, zero), p, p)
		expect(t, "0 + p = p", add(zero, p), p, p)
		expect(t, "p 1 = p", mul(t, p, one), p, p)
		expect(t, "p 0 = 0", mul(t, p, zero), zero, p)
		expect(t, "p - p = 0", sub(p, p), zero, p)
		expect(t, "(p + q) - q = p", sub(add(p, q), q), p, p, q)
		expect(t, "p - q = p + (-1) q", sub(p, q), add(p, must(t)(polynomial.Times(number(-1, 1), mono(), q))), p, q)
		if product := mul(t, p, q); (len(product) == 0) != (len(p) == 0 || len(q) == 0) {
			t.Errorf("the product of %s is %s", texts(p, q), text(product))
		}
	}
	for range 100 {
		p := random(r, 4, 2)
		for n := range 5 {
			expect(t, "p^(n+1) = p^n p", must(t)(polynomial.Pow(p, n+1)), mul(t, must(t)(polynomial.Pow(p, n)), p), p)
		}
	}
}
