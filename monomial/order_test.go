package monomial_test

import (
	"testing"

	"eliminant/api"
	"eliminant/monomial"
)

// P4.1, D3, with the examples.
func TestCmp(t *testing.T) {
	for _, c := range []struct {
		a, b api.Mono
		want int
	}{
		{mono(1, 0), mono(0, 5), 1}, {mono(2, 1), mono(2, 3), -1}, {mono(), mono(), 0}, {mono(), power(7, 1), -1}, {mono(0, 65535), mono(1), -1},
		{mono(1, 0, 0, 0, 0, 0, 0, 65535), mono(1, 0, 0, 0, 0, 0, 1), -1}, {each(65535), each(65535), 0}, {mono(256), mono(1, 1), 1}, {mono(65535), mono(255, 65535), 1},
	} {
		if got, back := monomial.Cmp(c.a, c.b), monomial.Cmp(c.b, c.a); got != c.want || back != -c.want {
			t.Errorf("Cmp(%v, %v): %d, and back %d, want %d", c.a, c.b, got, back, c.want)
		}
	}
}

// P4.1, D3: the first index where the exponents differ decides, whatever comes before and behind it.
func TestCmpDecidesAtEachIndex(t *testing.T) {
	for i := range api.MaxVars {
		for _, before := range []int{0, 3, 65535} {
			for _, e := range someExponents() {
				for _, f := range someExponents() {
					a, b := each(9), each(0)
					for k := range i {
						a[k], b[k] = before, before
					}
					a[i], b[i] = e, f
					want := sign(e - f)
					if e == f {
						copy(b[i:], a[i:])
					}
					if got, back := monomial.Cmp(a, b), monomial.Cmp(b, a); got != want || back != -want {
						t.Errorf("Cmp(%v, %v): %d, and back %d, want %d", a, b, got, back, want)
					}
				}
			}
		}
	}
}

// P4.1, D3: against the definition.
func TestCmpOfRandomMonomials(t *testing.T) {
	r := source()
	for range 20000 {
		a, b := randomPair(r)
		if got := monomial.Cmp(a, b); got != compare(a, b) {
			t.Errorf("Cmp(%v, %v): %d", a, b, got)
		}
	}
}

// P4.5: the order is total, and 1 is its least element.
func TestOrderIsTotal(t *testing.T) {
	l := append(below(2, 0, 3, 7), each(65535), mono(65535), power(7, 65535), power(3, 256))
	for _, a := range l {
		if (monomial.Cmp(mono(), a) == -1) != (a != mono()) {
			t.Errorf("Cmp(1, %v): %d", a, monomial.Cmp(mono(), a))
		}
		for _, b := range l {
			first := monomial.Cmp(a, b)
			if monomial.Cmp(b, a) != -first || (first == 0) != (a == b) || first*first > 1 {
				t.Errorf("Cmp(%v, %v): %d, and back %d", a, b, first, monomial.Cmp(b, a))
			}
			for _, c := range l {
				if first <= 0 && monomial.Cmp(b, c) <= 0 && monomial.Cmp(a, c) > min(first, monomial.Cmp(b, c)) {
					t.Errorf("%v, %v and %v are not in order", a, b, c)
				}
			}
		}
	}
}

// P4.5: multiplying both sides by the same monomial leaves the order; also where both sides divide each other.
func TestProductsKeepTheOrder(t *testing.T) {
	r := source()
	compared := 0
	for range 20000 {
		a, b := randomPair(r)
		c := random(r, []int{1, 5, 300, api.MaxExp}[r.IntN(4)])
		x, e := monomial.Mul(a, c)
		y, f := monomial.Mul(b, c)
		if e != api.OK || f != api.OK {
			continue
		}
		compared++
		if monomial.Cmp(x, y) != monomial.Cmp(a, b) {
			t.Errorf("Cmp(%v, %v): %d, times %v: %d", a, b, monomial.Cmp(a, b), c, monomial.Cmp(x, y))
		}
	}
	if compared < 8000 {
		t.Errorf("only %d pairs", compared)
	}
}
