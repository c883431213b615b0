package order_test

import (
	"testing"

	"eliminant/api"
	"eliminant/monomial"
	"eliminant/order"
)

// expect checks a comparison, and the one with both sides exchanged.
func expect(t *testing.T, o api.Order, a, b api.Mono, want int) {
	t.Helper()
	if got, back := order.Cmp(o, a, b), order.Cmp(o, b, a); got != want || back != -want {
		t.Errorf("Cmp(%v, %v, %v): %d, and back %d, want %d", o, a, b, got, back, want)
	}
}

// P5.1, E2: the examples of the chapter, and the greatest sums.
func TestCmp(t *testing.T) {
	for _, c := range []struct {
		o    api.Order
		a, b api.Mono
		want int
	}{
		{order.Lex(), mono(1), mono(0, 5), 1}, {order.Graded(), mono(1), mono(0, 5), -1}, {order.Reverse(), mono(1, 0, 1), mono(0, 2), -1}, {order.Graded(), mono(1, 0, 1), mono(0, 2), 1},
		{api.Order{{1, 3}}, mono(0, 1), mono(3), -1},
		{nil, mono(), mono(), 0}, {order.Reverse(), mono(3, 4), mono(3, 4), 0}, {make(api.Order, 24), mono(1), mono(0, 9), 1}, {api.Order{each(1000)}, each(65535), each(65535), 0},
		{api.Order{each(1000)}, each(65535), butLast(65535, 65534), 1}, {api.Order{each(1), each(-1000)}, each(65535), mono(), 1},
		{api.Order{each(1), first(-1000, -1000, -1000, -1000, -1000, -1000, -1000, -999)}, mono(65535), mono(0, 0, 0, 0, 0, 0, 0, 65535), -1},
	} {
		expect(t, c.o, c.a, c.b, c.want)
	}
}

// butLast returns the monomial whose exponents are e, but for the last one.
func butLast(e, last int) api.Mono {
	m := api.Mono(each(e))
	m[api.MaxVars-1] = last
	return m
}

// P5.1, E2: the first row in which the sums differ decides, whatever the rows behind it say; and without such a row, the
// exponents.
func TestCmpDecidesAtEachRow(t *testing.T) {
	for k := range api.MaxRows + 1 {
		for i := range api.MaxVars {
			for n := range api.MaxVars {
				if i == n {
					continue
				}
				// The variables i and n have the same weights in the rows before k, and i has the greater one there.
				var o api.Order
				for range min(k, api.MaxRows) {
					o = append(o, each(2))
				}
				if k < api.MaxRows {
					o = append(o, sum(each(1), single(i, 1)))
				}
				for len(o) < api.MaxRows {
					o = append(o, sum(each(1), single(i, -5)))
				}
				want := 1
				if k == api.MaxRows && i > n {
					want = -1
				}
				expect(t, o, single(i, 1), single(n, 1), want)
				expect(t, o, sum(single(i, 65535), single(n, 65534)), sum(single(n, 65535), single(i, 65534)), want)
			}
		}
	}
}

// P5.1, E2: against the definition.
func TestCmpByTheDefinition(t *testing.T) {
	r := source()
	for _, o := range orders(r, 1000) {
		for range 40 {
			a, b := pair(r)
			expect(t, o, a, b, compare(o, a, b))
		}
	}
}

// P5.2: the order is total, and 1 is its least element.
func TestOrderIsTotal(t *testing.T) {
	l := append(below(2, 0, 3, 7), each(65535), mono(65535), single(7, 65535), single(3, 256))
	for _, o := range orders(source(), 20) {
		for _, a := range l {
			if (order.Cmp(o, mono(), a) == -1) != (a != mono()) {
				t.Errorf("Cmp(%v, 1, %v): %d", o, a, order.Cmp(o, mono(), a))
			}
			for _, b := range l {
				here := order.Cmp(o, a, b)
				if order.Cmp(o, b, a) != -here || (here == 0) != (a == b) || here*here > 1 {
					t.Errorf("Cmp(%v, %v, %v): %d, and back %d", o, a, b, here, order.Cmp(o, b, a))
				}
				for _, c := range l {
					if here <= 0 && order.Cmp(o, b, c) <= 0 && order.Cmp(o, a, c) > min(here, order.Cmp(o, b, c)) {
						t.Errorf("%v: %v, %v and %v are not in order", o, a, b, c)
					}
				}
			}
		}
	}
}

// P5.2: multiplying both sides by the same monomial leaves the order.
func TestProductsKeepTheOrder(t *testing.T) {
	r := source()
	compared := 0
	for _, o := range orders(r, 500) {
		for range 40 {
			a, b := pair(r)
			c := exponents(r, []int{1, 5, 300, api.MaxExp}[r.IntN(4)])
			x, e := monomial.Mul(a, c)
			y, f := monomial.Mul(b, c)
			if e != api.OK || f != api.OK {
				continue
			}
			compared++
			if order.Cmp(o, x, y) != order.Cmp(o, a, b) {
				t.Errorf("Cmp(%v, %v, %v): %d, times %v: %d", o, a, b, order.Cmp(o, a, b), c, order.Cmp(o, x, y))
			}
		}
	}
	if compared < 8000 {
		t.Errorf("only %d pairs", compared)
	}
}
