package polynomial_test

import (
	"math/big"
	"math/rand/v2"
	"testing"

	"eliminant/api"
	"eliminant/polynomial"
)

// replacement is a polynomial for each variable.
type replacement = [api.MaxVars]api.Poly

// randomReplacement returns short polynomials; some are 0, constants or variables.
func randomReplacement(r *rand.Rand) replacement {
	var q replacement
	for i := range q {
		switch r.IntN(5) {
		case 0:
			q[i] = polynomial.Constant(number(int64(r.IntN(5)-2), 1))
		case 1:
			q[i] = variable(r.IntN(api.MaxVars))
		default:
			q[i] = random(r, 3, 2)
		}
	}
	return q
}

// replaced returns p with q[i] in the place of each variable, by the definition: term by term, factor by factor; and the
// greatest exponent of the products.
func replaced(p api.Poly, q replacement) (model, int) {
	sum, greatest := model{}, 0
	for _, t := range p {
		product := model{mono(): big.NewRat(1, 1)}
		for i, e := range t.M {
			for range e {
				product = product.times(modelOf(q[i]))
			}
		}
		greatest = max(greatest, product.greatest())
		for m, c := range product {
			sum.add(m, c.Mul(c, bigOf(t.C)))
		}
	}
	return sum, greatest
}

// checkSubst compares with the definition.
func checkSubst(t *testing.T, p api.Poly, q replacement) {
	t.Helper()
	want, greatest := replaced(p, q)
	got, e := polynomial.Subst(p, q)
	if greatest > api.MaxExp {
		expectError(t, "Subst", got, e, api.ErrBig, append(q[:], p)...)
		return
	}
	expect(t, "Subst", must(t)(got, e), want.poly(), append(q[:], p)...)
}

// P6.1, F6: against the definition.
func TestSubst(t *testing.T) {
	r := source()
	for _, p := range samples(t, r, 100) {
		if polynomial.Degree(p) <= 64 {
			checkSubst(t, p, variables())
			checkSubst(t, p, replacement{})
			checkSubst(t, p, randomReplacement(r))
		}
	}
	for range 300 {
		checkSubst(t, random(r, 8, 3), randomReplacement(r))
	}
}

// P6.1, F6: all at once, and not one after the other; 0 in the place of variables, and 0^0.
func TestSubstByExamples(t *testing.T) {
	for _, c := range []struct {
		p    string
		q    [3]string // the other variables remain
		want string
	}{
		{"x0 - 2 x1", [3]string{"x1", "x0", "x2"}, "x1 - 2 x0"}, {"x0 x1 x2", [3]string{"x1", "x2", "x0"}, "x0 x1 x2"}, {"x0^2 x1 - x1", [3]string{"x1 + 1", "x0", "0"}, "x0 x1^2 + 2 x0 x1"}, {"x0^2 + x1^2", [3]string{"x0 + x1", "x0 - x1", "0"}, "2 x0^2 + 2 x1^2"},
		{"x0^2 - x1^2", [3]string{"x2", "x2", "x2"}, "0"}, {"x0 + x1 + x2 + 1", [3]string{"0", "0", "0"}, "1"}, {"x0 x1 + x1", [3]string{"0", "x2", "x2"}, "x2"}, {"5/3", [3]string{"0", "0", "0"}, "5/3"}, {"0", [3]string{"1", "1", "1"}, "0"},
		{"x0^2 + x0 + 1", [3]string{"1/2", "0", "0"}, "7/4"}, {"x7^3 - x6 x0", [3]string{"x7", "0", "0"}, "x7^3 - x6 x7"}, {"x0^3", [3]string{"x0 + x7", "0", "0"}, "x0^3 + 3 x0^2 x7 + 3 x0 x7^2 + x7^3"},
	} {
		p, q := read(t, c.p), variables()
		for i, s := range c.q {
			q[i] = read(t, s)
		}
		expect(t, "Subst", must(t)(polynomial.Subst(p, q)), read(t, c.want), append(q[:3], p)...)
		checkSubst(t, p, q)
	}
}

// P6.1, F6: the degree 64 is the last one, whatever is put in.
func TestSubstOfGreatDegrees(t *testing.T) {
	for _, c := range []struct {
		p    string
		want api.Errno
	}{
		{"x0^64", api.OK}, {"x7^64 - x7", api.OK}, {"x0^32 x1^32 + x5 x6 - 1", api.OK}, {"x0^8 x1^8 x2^8 x3^8 x4^8 x5^8 x6^8 x7^8", api.OK}, {"x0^65", api.ErrBig}, {"x0^33 x1^32", api.ErrBig}, {"x0^9 x1^8 x2^8 x3^8 x4^8 x5^8 x6^8 x7^8", api.ErrBig}, {"x7^65 - x7", api.ErrBig},
		{"x0 + x1^65", api.ErrBig}, {"x1^2 + x7^65535", api.ErrBig},
	} {
		p := read(t, c.p)
		for _, q := range []replacement{{}, {read(t, "1"), read(t, "1")}, variables()} {
			got, e := polynomial.Subst(p, q)
			expectError(t, "Subst", got, e, c.want, p)
			if e == api.OK {
				checkSubst(t, p, q)
			}
		}
	}
}

// P6.1, F6: the products for each term may have the greatest exponent, and none that is greater, even if the terms
// cancel out; a product that is 0 has no exponents.
func TestSubstAtTheLimit(t *testing.T) {
	for _, c := range []struct {
		p    string
		q    [4]string
		want api.Errno
	}{
		{"x0", [4]string{"x5^65535", "0", "0", "0"}, api.OK}, {"x0^2", [4]string{"x5^32767", "0", "0", "0"}, api.OK}, {"x0^2", [4]string{"x5^32768", "0", "0", "0"}, api.ErrBig}, {"x0^64", [4]string{"x5^1023", "0", "0", "0"}, api.OK}, {"x0^64", [4]string{"x5^1024", "0", "0", "0"}, api.ErrBig},
		{"x0 x1", [4]string{"x5^65535", "x6^65535", "0", "0"}, api.OK}, {"x0 x1", [4]string{"x5^65535 + 1", "x6^65535 - x5", "0", "0"}, api.ErrBig}, {"x0 x1", [4]string{"x5^30000", "x5^35535 + x5 x6 - 1", "0", "0"}, api.OK}, {"x0 x1", [4]string{"x5^30000", "x5^35536 + x5 x6 - 1", "0", "0"}, api.ErrBig},
		{"x0 x2 - x1 x2", [4]string{"x5^40000", "x5^40000", "x5^40000", "0"}, api.ErrBig}, {"x0 x1 + x2", [4]string{"x5^40000 + x6^40000", "x5^40000 - x6^40000", "1", "0"}, api.ErrBig}, {"x3 + x0 x2 - x1 x2", [4]string{"x5^40000", "x5^40000", "x5^20000", "x7"}, api.OK},
		{"x0^2 x1", [4]string{"x5^40000", "0", "0", "0"}, api.OK}, {"x0 x1^2", [4]string{"0", "x5^40000", "0", "0"}, api.OK}, {"x0^2 x3 + x0 x1 + x2", [4]string{"x5^40000", "x6", "1", "0"}, api.OK}, {"x0^2 x3 + x0^2 + x2", [4]string{"x5^40000", "x6", "1", "0"}, api.ErrBig},
		{"x1^2 x0 + x1 - x0^3", [4]string{"0", "x4^65535", "0", "0"}, api.OK}, {"x0^64 + 1", [4]string{"0", "0", "0", "0"}, api.OK}, {"x3 + x2^2", [4]string{"0", "0", "x7^32768 + x7", "0"}, api.ErrBig},
	} {
		p, q := read(t, c.p), variables()
		for i, s := range c.q {
			q[i] = read(t, s)
		}
		got, e := polynomial.Subst(p, q)
		expectError(t, "Subst", got, e, c.want, append(q[:4], p)...)
		checkSubst(t, p, q)
	}
	// It does not begin with powers that it cannot use: these would take hours.
	long := read(t, "x5^9 x1^3 + x2^5 x7 - x3 x0 + x3^4 x4^7 - 3/7 x5 x6^3 x1 + x1 x7^9 x2 + 1/9 x0^20 x1^30 x2^9 - 1")
	for _, s := range []string{"x0^63 x1", "x0^32 x1 x2^31"} {
		got, e := polynomial.Subst(read(t, s), replacement{long, read(t, "x5^65535"), long})
		expectError(t, "Subst", got, e, api.ErrBig, read(t, s))
		got, e = polynomial.Subst(read(t, s), replacement{long, nil, long})
		expect(t, "Subst", must(t)(got, e), nil, read(t, s))
	}
}

// P6.6: substitution is a homomorphism, and the values are those at the values of what is put in.
func TestSubstIsAHomomorphism(t *testing.T) {
	r := source()
	put := func(p api.Poly, q replacement) api.Poly { return must(t)(polynomial.Subst(p, q)) }
	for range 400 {
		p, s, q, x := random(r, 5, 2), random(r, 5, 2), randomReplacement(r), randomPoint(r)
		expect(t, "the sum", put(polynomial.Add(p, s), q), polynomial.Add(put(p, q), put(s, q)), append(q[:], p, s)...)
		expect(t, "the product", put(mul(t, p, s), q), mul(t, put(p, q), put(s, q)), append(q[:], p, s)...)
		expect(t, "a constant", put(read(t, "-3/2"), q), read(t, "-3/2"), q[:]...)
		expect(t, "the variables", put(p, variables()), p, p)
		var y point
		for i := range q {
			y[i] = polynomial.Eval(q[i], x)
			expect(t, "a variable", put(variable(i), q), q[i], q[:]...)
		}
		if got, want := polynomial.Eval(put(p, q), x), polynomial.Eval(p, y); !sameRat(got, want) {
			t.Errorf("Eval of Subst of %s at %s: %s, want %s", texts(append(q[:], p)...), text(coordinates(x)), bigOf(got).RatString(), bigOf(want).RatString())
		}
	}
}

// permutation returns one of 0 to 7, and the one that takes it back.
func permutation(r *rand.Rand) (there, back [api.MaxVars]int) {
	for i, k := range r.Perm(api.MaxVars) {
		there[i], back[k] = k, i
	}
	return there, back
}

// P6.1, F6; P6.6: Permute puts variables in the places of variables, and can be taken back.
func TestPermute(t *testing.T) {
	r := source()
	same := [api.MaxVars]int{0, 1, 2, 3, 4, 5, 6, 7}
	polys := append(samples(t, r, 150), api.Poly{{C: number(1, 1), M: mono(1, 2, 3, 4, 5, 6, 7, 8)}}, api.Poly{{C: number(1, 2), M: each(65535)}})
	for _, p := range polys {
		there, back := permutation(r)
		want := model{}
		for m, c := range modelOf(p) {
			var moved api.Mono
			for i := range m {
				moved[there[i]] = m[i]
			}
			want[moved] = c
		}
		got := must(t)(polynomial.Permute(p, there))
		expect(t, "Permute", got, want.poly(), p)
		expect(t, "Permute and back", must(t)(polynomial.Permute(got, back)), p, p)
		expect(t, "Permute that leaves all", must(t)(polynomial.Permute(p, same)), p, p)
		if polynomial.Degree(p) <= 64 {
			var q replacement
			for i, k := range there {
				q[i] = variable(k)
			}
			expect(t, "Permute by Subst", got, must(t)(polynomial.Subst(p, q)), p)
		}
	}
	p := read(t, "x0^2 x1 - x1 + x7")
	expect(t, "Permute", must(t)(polynomial.Permute(p, [api.MaxVars]int{2, 0, 1, 3, 4, 5, 6, 7})), read(t, "x2^2 x0 - x0 + x7"), p)
	expect(t, "Permute", must(t)(polynomial.Permute(p, [api.MaxVars]int{7, 6, 5, 4, 3, 2, 1, 0})), read(t, "x7^2 x6 - x6 + x0"), p)
}

// P6.1, F6: what is no permutation.
func TestPermuteErrors(t *testing.T) {
	for _, p := range []api.Poly{nil, read(t, "1"), read(t, "x0^2 x1 - x1 + x7")} {
		for i := range api.MaxVars {
			for _, n := range []int{(i + 1) % 8, (i + 5) % 8, -1, 8, 64, i + 8, i - 8, i + 256, -1 << 63, 1<<63 - 1} {
				perm := [api.MaxVars]int{0, 1, 2, 3, 4, 5, 6, 7}
				perm[i] = n
				got, e := polynomial.Permute(p, perm)
				expectError(t, "Permute", got, e, api.ErrArg, p)
			}
		}
		for _, perm := range [][api.MaxVars]int{{}, {1, 2, 3, 4, 5, 6, 7, 8}, {7, 7, 7, 7, 7, 7, 7, 7}, {0, 1, 2, 3, 4, 5, 6, 6}, {0, 0, 1, 2, 3, 4, 5, 6}, {1, 0, 3, 2, 5, 4, 7, 7}} {
			got, e := polynomial.Permute(p, perm)
			expectError(t, "Permute", got, e, api.ErrArg, p)
		}
	}
}
