package univariate_test

import (
	"math"
	"slices"
	"testing"

	"eliminant/api"
	"eliminant/polynomial"
	"eliminant/univariate"
)

// term returns the term with a coefficient and the first exponents.
func term(c api.Rat, exponents ...int) api.Term {
	out := api.Term{C: c}
	copy(out.M[:], exponents)
	return out
}

func sameTerms(p, q api.Poly) bool {
	return slices.EqualFunc(p, q, func(a, b api.Term) bool { return a.M == b.M && sameRat(a.C, b.C) })
}

// P7.1, G9: polynomials in several variables of which one occurs.
func TestFrom(t *testing.T) {
	one, half := number(1, 1), number(-1, 2)
	for _, c := range []struct {
		p    api.Poly
		i    int
		want string
		e    api.Errno
	}{
		{nil, 0, "0", api.OK}, {nil, 7, "0", api.OK}, {api.Poly{term(half)}, 0, "-1/2", api.OK}, {api.Poly{term(half)}, 6, "-1/2", api.OK}, {api.Poly{term(one, 1)}, 0, "x", api.OK},
		{api.Poly{term(half, 0, 0, 5), term(one, 0, 0, 2), term(half)}, 2, "-1/2 x^5 + x^2 - 1/2", api.OK}, {api.Poly{term(one, 0, 0, 0, 0, 0, 0, 0, 3), term(half, 0, 0, 0, 0, 0, 0, 0, 1)}, 7, "x^3 - 1/2 x", api.OK},
		{nil, -1, "0", api.ErrArg}, {nil, 8, "0", api.ErrArg}, {api.Poly{term(half)}, 8, "0", api.ErrArg}, {nil, math.MaxInt, "0", api.ErrArg}, {nil, math.MinInt, "0", api.ErrArg},
		{api.Poly{term(one, 1)}, 1, "0", api.ErrArg}, {api.Poly{term(one, 1)}, 7, "0", api.ErrArg}, {api.Poly{term(one, 1, 1)}, 0, "0", api.ErrArg}, {api.Poly{term(one, 1), term(one, 0, 1)}, 0, "0", api.ErrArg}, {api.Poly{term(one, 2), term(one, 0, 0, 0, 0, 0, 0, 0, 1), term(one)}, 0, "0", api.ErrArg},
	} {
		if got, e := univariate.From(c.p, c.i); !same(got, read(t, c.want)) || e != c.e {
			t.Errorf("From of %v, %d: %s, %v", c.p, c.i, text(got), e)
		}
	}
}

// P7.1, G9: the errors of To, in their order, and the terms, the highest one first.
func TestTo(t *testing.T) {
	p, e := univariate.To(read(t, "- x^2 + 2/3 x - 5"), 3)
	if want := (api.Poly{term(number(-1, 1), 0, 0, 0, 2), term(number(2, 3), 0, 0, 0, 1), term(number(-5, 1))}); !sameTerms(p, want) || e != api.OK {
		t.Errorf("To of three terms: %v, %v", p, e)
	}
	highest, tooHigh := monomial(number(1, 2), api.MaxExp), monomial(number(1, 2), api.MaxExp+1)
	for _, c := range []struct {
		a    api.Upoly
		i    int
		want api.Poly
		e    api.Errno
	}{
		{nil, 0, nil, api.OK}, {nil, 8, nil, api.ErrArg}, {nil, -1, nil, api.ErrArg}, {read(t, "x"), math.MinInt, nil, api.ErrArg}, {highest, 0, api.Poly{term(number(1, 2), api.MaxExp)}, api.OK}, {highest, 1, api.Poly{term(number(1, 2), 0, api.MaxExp)}, api.OK},
		{tooHigh, 0, nil, api.ErrBig}, {tooHigh, 7, nil, api.ErrBig}, {tooHigh, 8, nil, api.ErrArg}, {tooHigh, -1, nil, api.ErrArg},
	} {
		if got, e := univariate.To(c.a, c.i); !sameTerms(got, c.want) || e != c.e {
			t.Errorf("To of the degree %d, %d: %v, %v", len(c.a)-1, c.i, got, e)
		}
	}
}

// P7.8: a polynomial is obtained again from the one in several variables, which is valid and uses one variable alone.
func TestConversion(t *testing.T) {
	for n, a := range append(samples(t, source(), 60), monomial(number(3, 7), api.MaxExp)) {
		for i := range api.MaxVars {
			p, e := univariate.To(a, i)
			if e != api.OK || !polynomial.Valid(p) || polynomial.Uses(p)&^(1<<i) != 0 || polynomial.Degree(p) != len(a)-1 {
				t.Errorf("To of %s, %d: %v, %v", text(a), i, p, e)
			}
			if got, e := univariate.From(p, i); !same(got, a) || e != api.OK {
				t.Errorf("From of the polynomial %d in variable %d: %v", n, i, e)
			}
			if got, e := univariate.From(p, (i+1)%api.MaxVars); len(a) > 1 && (e != api.ErrArg || len(got) > 0) {
				t.Errorf("From of the polynomial %d in another variable than %d: %v", n, i, e)
			}
		}
	}
}
