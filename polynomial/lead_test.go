package polynomial_test

import (
	"math/bits"
	"testing"

	"eliminant/api"
	"eliminant/order"
	"eliminant/polynomial"
	"eliminant/rational"
)

// P6.1, F4: with the example of the chapter.
func TestLead(t *testing.T) {
	for _, c := range []struct {
		o       api.Order
		p, want string
	}{
		{order.Lex(), "x0 + x1^2", "x0"}, {order.Graded(), "x0 + x1^2", "x1^2"}, {order.Reverse(), "x0 x2 + x1^2", "x1^2"}, {order.Graded(), "x0 x2 + x1^2", "x0 x2"}, {order.Eliminating(1), "x0 + x1^2", "x0"}, {order.Eliminating(4), "x0^9 + 1/3 x2 - x1^99", "1/3 x2"},
		{api.Order{mono(1, 3)}, "x0^2 - 2 x1", "-2 x1"}, {api.Order{mono(1, 3)}, "x0^3 - 2 x1", "x0^3"}, {order.Reverse(), "7", "7"}, {order.Graded(), "x7^2 - 3 x0 x7 + x6 - 5", "-3 x0 x7"}, {api.Order{single(7, 1)}, "x0^65535 + 2/7 x7 + x1", "2/7 x7"}, {nil, "2 x0^2 + x0 + 5", "2 x0^2"},
	} {
		p, want := read(t, c.p), read(t, c.want)[0]
		if got, ok := polynomial.Lead(p, c.o); !ok || !sameTerm(got, want) {
			t.Errorf("Lead of %s: %s, %v", c.p, text(api.Poly{got}), ok)
		}
	}
	for _, o := range orders() {
		for _, zero := range []api.Poly{nil, {}} {
			if got, ok := polynomial.Lead(zero, o); ok || !sameTerm(got, api.Term{}) {
				t.Errorf("Lead of 0: %v, %v", got, ok)
			}
			expect(t, "Monic", polynomial.Monic(zero, o), nil)
		}
	}
}

// P6.1, F4: no term has a greater monomial than the leading one; it becomes 1 times its monomial.
func TestLeadAndMonic(t *testing.T) {
	r := source()
	list := samples(t, r, 60)
	for range 60 {
		list = append(list, random(r, 20, 5))
	}
	for _, p := range list {
		if len(p) == 0 {
			continue
		}
		for _, o := range orders() {
			best := p[len(p)-1]
			for _, term := range p {
				if order.Cmp(o, term.M, best.M) > 0 {
					best = term
				}
			}
			if got, ok := polynomial.Lead(p, o); !ok || !sameTerm(got, best) {
				t.Errorf("Lead of %s for %v: %s, %v", text(p), o, text(api.Poly{got}), ok)
			}
			monic := model{}
			for m, c := range modelOf(p) {
				monic[m] = c.Quo(c, bigOf(best.C))
			}
			expect(t, "Monic", polynomial.Monic(p, o), monic.poly(), p)
		}
	}
	p := read(t, "2 x0 + 3 x1^2 - 4")
	expect(t, "Monic", polynomial.Monic(p, order.Lex()), read(t, "x0 + 3/2 x1^2 - 2"), p)
	expect(t, "Monic", polynomial.Monic(p, order.Graded()), read(t, "2/3 x0 + x1^2 - 4/3"), p)
}

// P6.1, F4.
func TestDegreeAndUses(t *testing.T) {
	for _, c := range []struct {
		p      string
		degree int
		uses   uint8
	}{
		{"0", -1, 0}, {"1", 0, 0}, {"-7/3", 0, 0}, {"x0", 1, 1}, {"x7", 1, 128}, {"x0 + x1^2", 2, 3}, {"x0 x1^2 + x7^2 - 1", 3, 131}, {"x3^65535 x5", 65536, 40}, {"x0 + x1 + x2 + x3 + x4 + x5 + x6 + x7", 1, 255}, {"x2 - x2^2 x4^3 + x2^6", 6, 20}, {"x6 + 1", 1, 64},
	} {
		p := read(t, c.p)
		if d, u := polynomial.Degree(p), polynomial.Uses(p); d != c.degree || u != c.uses {
			t.Errorf("%s: degree %d, variables %b", c.p, d, u)
		}
	}
	if p := (api.Poly{{C: number(1, 1), M: each(65535)}}); polynomial.Degree(p) != 8*65535 || polynomial.Uses(p) != 255 {
		t.Errorf("%s: degree %d, variables %b", text(p), polynomial.Degree(p), polynomial.Uses(p))
	}
	for _, p := range samples(t, source(), 200) {
		degree, uses := -1, uint8(0)
		for m := range modelOf(p) {
			sum := 0
			for i, e := range m {
				sum += e
				uses |= uint8(min(e, 1)) << i
			}
			degree = max(degree, sum)
		}
		if d, u := polynomial.Degree(p), polynomial.Uses(p); d != degree || u != uses || bits.OnesCount8(u) == 0 && d > 0 {
			t.Errorf("%s: degree %d, variables %b", text(p), d, u)
		}
	}
}

// P6.4: the leading term of a product is the product of the leading terms, and degrees add up.
func TestLeadOfProducts(t *testing.T) {
	r := source()
	list := samples(t, r, 80)
	all := orders()
	for range 1500 {
		p, q := list[r.IntN(len(list))], list[r.IntN(len(list))]
		product := mul(t, p, q)
		if len(p) == 0 || len(q) == 0 {
			continue
		}
		if polynomial.Degree(product) != polynomial.Degree(p)+polynomial.Degree(q) {
			t.Errorf("the degree of the product of %s: %d", texts(p, q), polynomial.Degree(product))
		}
		o := all[r.IntN(len(all))]
		a, _ := polynomial.Lead(p, o)
		b, _ := polynomial.Lead(q, o)
		want := api.Term{C: rational.Mul(a.C, b.C), M: plus(a.M, b.M)}
		if got, ok := polynomial.Lead(product, o); !ok || !sameTerm(got, want) {
			t.Errorf("Lead of the product of %s for %v: %s", texts(p, q), o, text(api.Poly{got}))
		}
		expect(t, "Monic of products", polynomial.Monic(product, o), mul(t, polynomial.Monic(p, o), polynomial.Monic(q, o)), p, q)
	}
}
