package rational_test

import (
	"math/big"
	"testing"

	"eliminant/api"
	"eliminant/integer"
	"eliminant/rational"
)

// checkArithmetic compares the results for a and b with those of math/big.
func checkArithmetic(t *testing.T, a, b api.Rat) {
	t.Helper()
	x, y := bigRat(a), bigRat(b)
	expect(t, "Add", rational.Add(a, b), new(big.Rat).Add(x, y))
	expect(t, "Sub", rational.Sub(a, b), new(big.Rat).Sub(x, y))
	expect(t, "Mul", rational.Mul(a, b), new(big.Rat).Mul(x, y))
	expect(t, "Neg", rational.Neg(a), new(big.Rat).Neg(x))
	if got := rational.Sign(a); got != x.Sign() {
		t.Errorf("Sign(%v): %d", x, got)
	}
	if got := rational.Cmp(a, b); got != x.Cmp(y) {
		t.Errorf("Cmp(%v, %v): %d", x, y, got)
	}
	inverse, e1 := rational.Inv(b)
	ratio, e2 := rational.Div(a, b)
	if y.Sign() == 0 {
		if e1 != api.ErrZero || e2 != api.ErrZero || !isNothing(inverse) || !isNothing(ratio) {
			t.Errorf("division of %v by 0: %v, %v, %v, %v", x, inverse, e1, ratio, e2)
		}
		return
	}
	expect(t, "Inv", inverse, new(big.Rat).Inv(y))
	expect(t, "Div", ratio, new(big.Rat).Quo(x, y))
	if e1 != api.OK || e2 != api.OK {
		t.Errorf("division of %v by %v: %v, %v", x, y, e1, e2)
	}
}

// P2.1, B3 to B5.
func TestArithmetic(t *testing.T) {
	var list []api.Rat
	for n := int64(-6); n <= 6; n++ {
		for d := int64(1); d <= 6; d++ {
			list = append(list, fraction(t, n, d))
		}
	}
	r := source()
	list = append(list, samples(t, r, 50)...)
	for _, a := range list {
		for _, b := range list {
			checkArithmetic(t, a, b)
		}
		// A number as both arguments, and numbers that cancel out.
		checkArithmetic(t, a, rational.Neg(a))
	}
	for range 2000 {
		checkArithmetic(t, random(t, r, 400), random(t, r, 400))
	}
}

// P2.1, B3: sums and products in which all, or a part, of the denominators is cancelled.
func TestCancellation(t *testing.T) {
	for _, c := range [][4]string{
		{"1/6", "1/3", "1/2", "1/18"}, {"1/6", "5/6", "1", "5/36"}, {"1/6", "-1/6", "0", "-1/36"}, {"5/12", "7/12", "1", "35/144"}, {"1/12", "1/4", "1/3", "1/48"},
		{"2/3", "3/2", "13/6", "1"}, {"-2/3", "3/2", "5/6", "-1"}, {"4/9", "3/8", "59/72", "1/6"}, {"0", "7/9", "7/9", "0"}, {"1/10", "1/15", "1/6", "1/150"},
		{"6", "1/6", "37/6", "1"}, {"-5/2", "5", "5/2", "-25/2"}, {"0", "0", "0", "0"},
	} {
		a, b := read(t, c[0]), read(t, c[1])
		expectLaw(t, "Add", rational.Add(a, b), read(t, c[2]), a, b)
		expectLaw(t, "Mul", rational.Mul(a, b), read(t, c[3]), a, b)
	}
}

// P2.2.
func TestFieldLaws(t *testing.T) {
	r := source()
	list := samples(t, r, 200)
	pick := func() api.Rat { return list[r.IntN(len(list))] }
	zero, one, value := rational.Whole(0), rational.Whole(1), must(t)
	for range 2000 {
		a, b, c := pick(), pick(), pick()
		expectLaw(t, "a + b = b + a", rational.Add(a, b), rational.Add(b, a), a, b)
		expectLaw(t, "(a + b) + c = a + (b + c)", rational.Add(rational.Add(a, b), c), rational.Add(a, rational.Add(b, c)), a, b, c)
		expectLaw(t, "a b = b a", rational.Mul(a, b), rational.Mul(b, a), a, b)
		expectLaw(t, "(a b) c = a (b c)", rational.Mul(rational.Mul(a, b), c), rational.Mul(a, rational.Mul(b, c)), a, b, c)
		expectLaw(t, "a (b + c) = a b + a c", rational.Mul(a, rational.Add(b, c)), rational.Add(rational.Mul(a, b), rational.Mul(a, c)), a, b, c)
		expectLaw(t, "a + 0 = a", rational.Add(a, zero), a, a)
		expectLaw(t, "a 1 = a", rational.Mul(a, one), a, a)
		expectLaw(t, "a + -a = 0", rational.Add(a, rational.Neg(a)), zero, a)
		expectLaw(t, "(a + b) - b = a", rational.Sub(rational.Add(a, b), b), a, a, b)
		expectLaw(t, "(a - b) + b = a", rational.Add(rational.Sub(a, b), b), a, a, b)
		if rational.Sign(b) != 0 {
			expectLaw(t, "a b / b = a", value(rational.Div(rational.Mul(a, b), b)), a, a, b)
			expectLaw(t, "(a / b) b = a", rational.Mul(value(rational.Div(a, b)), b), a, a, b)
			expectLaw(t, "a / b = a (1 / b)", value(rational.Div(a, b)), rational.Mul(a, value(rational.Inv(b))), a, b)
			expectLaw(t, "1 / (1 / b) = b", value(rational.Inv(value(rational.Inv(b)))), b, b)
		}
	}
}

// P2.3.
func TestOrderLaws(t *testing.T) {
	r := source()
	list := samples(t, r, 200)
	pick := func() api.Rat { return list[r.IntN(len(list))] }
	for range 3000 {
		a, b, c := pick(), pick(), pick()
		order := rational.Cmp(a, b)
		if rational.Sign(rational.Sub(a, b)) != order {
			t.Errorf("Cmp is not the sign of the difference of %v", texts([]api.Rat{a, b}))
		}
		if rational.Cmp(b, a) != -order || rational.Cmp(a, a) != 0 || (order == 0) != same(a, b) {
			t.Errorf("Cmp of %v is not antisymmetric", texts([]api.Rat{a, b}))
		}
		if order <= 0 && rational.Cmp(b, c) <= 0 && rational.Cmp(a, c) > 0 {
			t.Errorf("Cmp of %v is not transitive", texts([]api.Rat{a, b, c}))
		}
		if rational.Cmp(rational.Add(a, c), rational.Add(b, c)) != order {
			t.Errorf("adding the last one changes the order of %v", texts([]api.Rat{a, b, c}))
		}
		if rational.Cmp(rational.Mul(a, c), rational.Mul(b, c)) != order*rational.Sign(c) {
			t.Errorf("multiplying by the last one: wrong order of %v", texts([]api.Rat{a, b, c}))
		}
	}
}

// P2.1, B6; P2.4.
func TestFloor(t *testing.T) {
	for s, want := range map[string]int64{
		"0": 0, "1": 1, "-1": -1, "7": 7, "-7": -7, "1/2": 0, "-1/2": -1, "3/2": 1, "-3/2": -2, "7/2": 3, "-7/2": -4, "1/9": 0, "-1/9": -1, "8/9": 0, "-8/9": -1,
		"4294967295/4294967296": 0, "-4294967297/4294967296": -2, "9223372036854775807/2": 4611686018427387903,
	} {
		if got := rational.Floor(read(t, s)); !sameInt(got, integer.Of(want)) {
			t.Errorf("Floor(%s): %v", s, got)
		}
	}
	for _, a := range samples(t, source(), 500) {
		low := whole(t, rational.Floor(a))
		if rational.Cmp(low, a) > 0 || rational.Cmp(a, rational.Add(low, rational.Whole(1))) >= 0 {
			t.Errorf("Floor(%v): %v", texts([]api.Rat{a}), texts([]api.Rat{low}))
		}
	}
}
