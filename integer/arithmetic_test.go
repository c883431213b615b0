package integer_test

import (
	"math/big"
	"testing"

	"eliminant/api"
	"eliminant/integer"
)

// checkArithmetic compares sums, differences, products and quotients of a and b with those of math/big.
func checkArithmetic(t *testing.T, a, b api.Int) {
	t.Helper()
	x, y := toBig(a), toBig(b)
	expect(t, "Add", integer.Add(a, b), new(big.Int).Add(x, y))
	expect(t, "Sub", integer.Sub(a, b), new(big.Int).Sub(x, y))
	expect(t, "Mul", integer.Mul(a, b), new(big.Int).Mul(x, y))
	q, r, e := integer.DivMod(a, b)
	if y.Sign() == 0 {
		if e != api.ErrZero || !same(q, api.Int{}) || !same(r, api.Int{}) {
			t.Errorf("DivMod(%v, 0): %v, %v, %v", x, q, r, e)
		}
		return
	}
	wantQ, wantR := new(big.Int).DivMod(x, y, new(big.Int))
	expect(t, "quotient", q, wantQ)
	expect(t, "remainder", r, wantR)
	if e != api.OK {
		t.Errorf("DivMod(%v, %v): %v", x, y, e)
	}
}

// P1.1, A4 and A5.
func TestArithmetic(t *testing.T) {
	list := samples(source(), 60)
	for _, a := range list {
		for _, b := range list {
			checkArithmetic(t, a, b)
		}
	}
	r := source()
	for range 20000 {
		checkArithmetic(t, random(r, 12), random(r, 6))
	}
	for range 50 {
		checkArithmetic(t, random(r, 400), random(r, 200))
	}
}

// P1.1, A5: the signs.
func TestDivModSigns(t *testing.T) {
	for _, c := range [][4]int64{
		{7, 2, 3, 1}, {7, -2, -3, 1}, {-7, 2, -4, 1}, {-7, -2, 4, 1},
		{8, 2, 4, 0}, {8, -2, -4, 0}, {-8, 2, -4, 0}, {-8, -2, 4, 0},
		{0, 5, 0, 0}, {0, -5, 0, 0}, {3, 5, 0, 3}, {3, -5, 0, 3}, {-3, 5, -1, 2}, {-3, -5, 1, 2},
		{5, 1, 5, 0}, {-5, 1, -5, 0}, {-5, -1, 5, 0}, {-1 << 63, 1 << 62, -2, 0}, {-1 << 63, 3, -3074457345618258603, 1},
	} {
		q, r, e := integer.DivMod(integer.Of(c[0]), integer.Of(c[1]))
		if !same(q, integer.Of(c[2])) || !same(r, integer.Of(c[3])) || e != api.OK {
			t.Errorf("DivMod(%d, %d): %s, %s, %v", c[0], c[1], text(q), text(r), e)
		}
	}
	for _, n := range []int64{0, 1, -1, -1 << 63} {
		if q, r, e := integer.DivMod(integer.Of(n), integer.Of(0)); !same(q, api.Int{}) || !same(r, api.Int{}) || e != api.ErrZero {
			t.Errorf("DivMod(%d, 0): %v, %v, %v", n, q, r, e)
		}
	}
}

// P1.4: quotient and remainder that are put together are found again, also where the first guesses are too great.
func TestDivisionIsUnique(t *testing.T) {
	r := source()
	one := integer.Of(1)
	for i := range 20000 {
		b, q := random(r, 1+i%7), random(r, 7)
		if len(b.Mag) == 0 {
			continue
		}
		bound := toBig(absolute(b))
		// The least and the greatest remainder are as likely as the others.
		rest := new(big.Int).Mod(toBig(absolute(random(r, 8))), bound)
		switch r.IntN(4) {
		case 0:
			rest.SetInt64(0)
		case 1:
			rest.Sub(bound, toBig(one))
		}
		a := integer.Add(integer.Mul(q, b), fromBig(rest))
		gotQ, gotR, e := integer.DivMod(a, b)
		if !same(gotQ, q) || !same(gotR, fromBig(rest)) || e != api.OK {
			t.Errorf("%s divided by %s: %s, %s, want %s, %v", text(a), text(b), text(gotQ), text(gotR), text(q), rest)
		}
	}
}

// P1.4: cases in which the quotient that is guessed from two words has to be corrected, once or twice.
func TestDivisionGuesses(t *testing.T) {
	const all, half = 1<<32 - 1, 1 << 31
	for i, c := range [][2][]uint32{
		{{0, 0, 0, half - 1, half}, {all, all, half}},
		{{3, 0, half}, {1, 0, half >> 2}},
		{{0, 0, half, half - 1}, {1, 0, half}},
		{{0, all - 1, half}, {all, half}},
		{{0, 0, 1, half}, {all, 0, half}},
		{{0, 0, 0, all, all - 1}, {all, all, all}},
		{{0, 0, 0, 0, 1}, {all, all}},
		{{all, all, all, all}, {0, 1}},
		{{0, 0, 0, 0, 0, 0, 1}, {1, 0, 0, 1}},
	} {
		for _, signs := range [][2]bool{{false, false}, {false, true}, {true, false}, {true, true}} {
			a, b := api.Int{Neg: signs[0], Mag: c[0]}, api.Int{Neg: signs[1], Mag: c[1]}
			if !integer.Valid(a) || !integer.Valid(b) {
				t.Fatalf("case %d is not valid", i)
			}
			checkArithmetic(t, a, b)
		}
	}
}

// P1.2.
func TestRingLaws(t *testing.T) {
	r := source()
	list := samples(r, 300)
	pick := func() api.Int { return list[r.IntN(len(list))] }
	zero, one := integer.Of(0), integer.Of(1)
	for range 3000 {
		a, b, c := pick(), pick(), pick()
		for law, sides := range map[string][2]api.Int{
			"a + b = b + a":             {integer.Add(a, b), integer.Add(b, a)},
			"(a + b) + c = a + (b + c)": {integer.Add(integer.Add(a, b), c), integer.Add(a, integer.Add(b, c))},
			"a b = b a":                 {integer.Mul(a, b), integer.Mul(b, a)},
			"(a b) c = a (b c)":         {integer.Mul(integer.Mul(a, b), c), integer.Mul(a, integer.Mul(b, c))},
			"a (b + c) = a b + a c":     {integer.Mul(a, integer.Add(b, c)), integer.Add(integer.Mul(a, b), integer.Mul(a, c))},
			"a + 0 = a":                 {integer.Add(a, zero), a},
			"1 a = a":                   {integer.Mul(one, a), a},
			"(a - b) + b = a":           {integer.Add(integer.Sub(a, b), b), a},
			"a + -a = 0":                {integer.Add(a, integer.Neg(a)), zero},
			"a - b = a + -b":            {integer.Sub(a, b), integer.Add(a, integer.Neg(b))},
		} {
			if !same(sides[0], sides[1]) {
				t.Errorf("%s fails for %s, %s, %s", law, text(a), text(b), text(c))
			}
		}
	}
}

// The examples of the chapter for A2 and A5.
func TestExamples(t *testing.T) {
	if a := integer.Of(-5); !same(a, api.Int{Neg: true, Mag: []uint32{5}}) {
		t.Errorf("Of(-5): %v", a)
	}
	if a := integer.Of(4294967296); !same(a, api.Int{Mag: []uint32{0, 1}}) {
		t.Errorf("Of(4294967296): %v", a)
	}
	for _, c := range [][4]int64{{7, -2, -3, 1}, {-7, 2, -4, 1}, {-7, -2, 4, 1}} {
		q, r, e := integer.DivMod(integer.Of(c[0]), integer.Of(c[1]))
		if !same(q, integer.Of(c[2])) || !same(r, integer.Of(c[3])) || e != api.OK {
			t.Errorf("DivMod(%d, %d): %s, %s, %v", c[0], c[1], text(q), text(r), e)
		}
	}
}
