package monomial_test

import (
	"testing"

	"eliminant/api"
	"eliminant/monomial"
)

// checkMul compares a product with the definition.
func checkMul(t *testing.T, a, b api.Mono) {
	t.Helper()
	want, wantError := plus(a, b), api.OK
	if greatest(want) > api.MaxExp {
		want, wantError = api.Mono{}, api.ErrBig
	}
	if got, e := monomial.Mul(a, b); got != want || e != wantError {
		t.Errorf("Mul(%v, %v): %v, %v, want %v, %v", a, b, got, e, want, wantError)
	}
}

// P4.1, D4, with the example: each variable has the same limit, and the degree has none.
func TestMul(t *testing.T) {
	checkMul(t, mono(65535), mono(1))
	checkMul(t, mono(1, 2), mono(3, 0, 1))
	checkMul(t, each(65535), mono())
	checkMul(t, each(32767), each(32768))
	checkMul(t, each(65535), each(65535))
	checkMul(t, mono(65535), mono(0, 65535))
	for i := range api.MaxVars {
		for _, e := range someExponents() {
			for _, f := range someExponents() {
				a, b := each(7), each(65528)
				a[i], b[i] = e, f
				checkMul(t, power(i, e), power(i, f))
				checkMul(t, a, b)
			}
		}
	}
	r := source()
	for range 20000 {
		a, b := randomPair(r)
		checkMul(t, a, b)
	}
}

// P4.2: products that exist are commutative and associative, and 1 is neutral; if one side exists, so does the other one.
func TestProducts(t *testing.T) {
	r := source()
	for range 20000 {
		a, b := randomPair(r)
		c, _ := randomPair(r)
		x, e := monomial.Mul(a, b)
		if y, f := monomial.Mul(b, a); x != y || e != f {
			t.Errorf("%v and %v do not commute", a, b)
		}
		y, f := monomial.Mul(b, c)
		if e == api.OK && f == api.OK {
			left, e := monomial.Mul(x, c)
			if right, f := monomial.Mul(a, y); left != right || e != f {
				t.Errorf("(%v %v) %v: %v, %v, otherwise %v, %v", a, b, c, left, e, right, f)
			}
		}
		if x, e := monomial.Mul(a, mono()); x != a || e != api.OK {
			t.Errorf("%v times 1: %v, %v", a, x, e)
		}
	}
}

// P4.2: degrees add up, and a quotient times the divisor is the dividend.
func TestDegreesAndQuotientsOfProducts(t *testing.T) {
	r := source()
	for range 20000 {
		a, b := randomPair(r)
		if x, e := monomial.Mul(a, b); e == api.OK {
			if monomial.Degree(x) != monomial.Degree(a)+monomial.Degree(b) {
				t.Errorf("%v times %v: degree %d", a, b, monomial.Degree(x))
			}
			if q, ok := monomial.Quo(x, b); !ok || q != a {
				t.Errorf("%v divided by %v: %v, %v", x, b, q, ok)
			}
		}
		if q, ok := monomial.Quo(a, b); ok {
			if x, e := monomial.Mul(q, b); e != api.OK || x != a {
				t.Errorf("(%v by %v) times the divisor: %v, %v", a, b, x, e)
			}
		}
	}
}

// P4.1, D5; P4.3: a divides b exactly if there is a quotient, and it is the only monomial with this property.
func TestQuotients(t *testing.T) {
	l := below(3, 0, 2, 7)
	for _, a := range l {
		for _, b := range l {
			found, want := false, api.Mono{}
			for _, q := range l {
				if plus(q, b) == a {
					found, want = true, q
				}
			}
			if got, ok := monomial.Quo(a, b); ok != found || got != want {
				t.Errorf("Quo(%v, %v): %v, %v, want %v, %v", a, b, got, ok, want, found)
			}
			if monomial.Divides(b, a) != found {
				t.Errorf("Divides(%v, %v): %v", b, a, !found)
			}
		}
	}
}

// P4.1, D5, with the examples; without a quotient the result is 1, whatever the other exponents are.
func TestQuo(t *testing.T) {
	for _, c := range []struct {
		a, b, want api.Mono
		ok         bool
	}{
		{mono(3, 2), mono(1, 2), mono(2), true}, {mono(3, 2), mono(0, 3), mono(), false}, {mono(), mono(), mono(), true}, {mono(), power(7, 1), mono(), false},
		{each(65535), each(65535), mono(), true}, {each(65535), mono(), each(65535), true}, {mono(65535, 65535, 0), mono(1, 0, 1), mono(), false}, {mono(), each(65535), mono(), false},
	} {
		if got, ok := monomial.Quo(c.a, c.b); got != c.want || ok != c.ok {
			t.Errorf("Quo(%v, %v): %v, %v, want %v, %v", c.a, c.b, got, ok, c.want, c.ok)
		}
		if monomial.Divides(c.b, c.a) != c.ok {
			t.Errorf("Divides(%v, %v): %v", c.b, c.a, !c.ok)
		}
	}
	r := source()
	for range 20000 {
		a, b := randomPair(r)
		want := divides(b, a)
		got, ok := monomial.Quo(a, b)
		if ok != want || want && plus(got, b) != a || !want && got != mono() || monomial.Divides(b, a) != want {
			t.Errorf("Quo(%v, %v): %v, %v", a, b, got, ok)
		}
	}
}

// P4.1, D5: each variable counts, by itself.
func TestDividesLooksAtEachVariable(t *testing.T) {
	for i := range api.MaxVars {
		for _, e := range someExponents()[1:] {
			a, b := each(65535), each(65535)
			a[i], b[i] = e, e-1
			if monomial.Divides(a, b) || !monomial.Divides(b, a) {
				t.Errorf("%v and %v", a, b)
			}
			if monomial.Divides(power(i, e), power((i+1)%api.MaxVars, 65535)) {
				t.Errorf("%v divides a power of another variable", power(i, e))
			}
		}
	}
}

// P4.3: divisibility is a partial order, with 1 as its least element.
func TestDivisibilityIsAPartialOrder(t *testing.T) {
	l := append(below(2, 0, 1, 7), each(1), each(65535), mono(65535), power(5, 1))
	for _, a := range l {
		if !monomial.Divides(a, a) || !monomial.Divides(mono(), a) || monomial.Divides(a, mono()) != (a == mono()) {
			t.Errorf("%v, itself and 1", a)
		}
		for _, b := range l {
			if monomial.Divides(a, b) && monomial.Divides(b, a) && a != b {
				t.Errorf("%v and %v divide each other", a, b)
			}
			for _, c := range l {
				if monomial.Divides(a, b) && monomial.Divides(b, c) && !monomial.Divides(a, c) {
					t.Errorf("%v divides %v, which divides %v", a, b, c)
				}
			}
		}
	}
}
