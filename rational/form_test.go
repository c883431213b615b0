package rational_test

import (
	"math"
	"math/big"
	"testing"

	"eliminant/api"
	"eliminant/integer"
	"eliminant/rational"
)

// P2.1, B1.
func TestValid(t *testing.T) {
	of := integer.Of
	zeroWord, minusZero := api.Int{Mag: []uint32{5, 0}}, api.Int{Neg: true}
	for i, c := range []struct {
		n, d api.Int
		want bool
	}{
		{of(0), of(1), true}, {of(1), of(1), true}, {of(-1), of(1), true}, {of(3), of(2), true}, {of(-3), of(2), true}, {of(1), of(1 << 40), true}, {of(1<<40 + 1), of(1 << 40), true},
		{api.Int{Mag: []uint32{}}, of(1), true},
		{of(0), of(0), false}, {of(1), of(0), false}, {of(0), of(2), false}, {of(0), of(-1), false},
		{of(2), of(4), false}, {of(-2), of(4), false}, {of(6), of(3), false}, {of(5), of(5), false}, {of(3 << 40), of(1 << 40), false}, {of(9 << 31), of(15 << 31), false},
		{of(1), of(-1), false}, {of(3), of(-2), false}, {of(-3), of(-2), false},
		{zeroWord, of(2), false}, {of(2), zeroWord, false}, {minusZero, of(1), false}, {of(1), minusZero, false}, {of(1), api.Int{Mag: []uint32{1, 0}}, false}, {api.Int{Mag: []uint32{0}}, of(1), false},
	} {
		if got := rational.Valid(api.Rat{Num: c.n, Den: c.d}); got != c.want {
			t.Errorf("case %d: Valid(%v, %v): %v", i, c.n, c.d, got)
		}
	}
	for n := int64(-30); n <= 30; n++ {
		for d := int64(-5); d <= 30; d++ {
			want := d > 0 && new(big.Int).GCD(nil, nil, big.NewInt(max(n, -n)), big.NewInt(d)).Cmp(big.NewInt(1)) == 0
			if got := rational.Valid(api.Rat{Num: of(n), Den: of(d)}); got != want {
				t.Errorf("Valid(%d, %d): %v", n, d, got)
			}
		}
	}
	for _, a := range samples(t, source(), 100) {
		two := api.Rat{Num: integer.Mul(a.Num, of(2)), Den: integer.Mul(a.Den, of(2))}
		if !rational.Valid(a) || rational.Valid(two) {
			t.Errorf("Valid is wrong about %v", texts([]api.Rat{a}))
		}
	}
}

// P2.1, B2; P2.7: lowest terms.
func TestNew(t *testing.T) {
	check := func(n, d api.Int) {
		t.Helper()
		a, e := rational.New(n, d)
		if integer.Sign(d) == 0 {
			if e != api.ErrZero || !isNothing(a) {
				t.Errorf("New(%s, 0): %v, %v", integer.Text(n), a, e)
			}
			return
		}
		expect(t, "New", a, new(big.Rat).SetFrac(bigInt(n), bigInt(d)))
		if e != api.OK || !rational.Valid(a) || !sameInt(integer.Mul(a.Num, d), integer.Mul(n, a.Den)) {
			t.Errorf("New(%s, %s): %v, %v", integer.Text(n), integer.Text(d), a, e)
		}
	}
	for n := int64(-20); n <= 20; n++ {
		for d := int64(-20); d <= 20; d++ {
			check(integer.Of(n), integer.Of(d))
		}
	}
	edges := []int64{0, 1, -1, 2, 1 << 31, 1 << 32, -1 << 32, 6 << 32, math.MaxInt64, math.MinInt64}
	for _, n := range edges {
		for _, d := range edges {
			check(integer.Of(n), integer.Of(d))
		}
	}
	r := source()
	for range 2000 {
		c := intOf(t, randomBig(r, 300))
		n, d := intOf(t, randomBig(r, 300)), intOf(t, randomBig(r, 300))
		check(n, d)
		check(integer.Mul(n, c), integer.Mul(d, c))
		check(integer.Mul(n, c), c)
		check(api.Int{}, c)
		check(c, api.Int{})
	}
}

// P2.1, B2.
func TestWhole(t *testing.T) {
	for _, n := range []int64{0, 1, -1, 7, -7, 1<<32 - 1, 1 << 32, -1 << 32, math.MaxInt64, math.MinInt64} {
		expect(t, "Whole", rational.Whole(n), big.NewRat(n, 1))
	}
}

// P2.1, B8.
func TestBits(t *testing.T) {
	for s, want := range map[string]int{"0": 1, "1": 2, "-1": 2, "2": 3, "1/2": 3, "-3/2": 4, "-8": 5, "1/4294967296": 34, "4294967295/4294967296": 65} {
		if got := rational.Bits(read(t, s)); got != want {
			t.Errorf("Bits(%s): %d", s, got)
		}
	}
	for _, a := range samples(t, source(), 100) {
		if got, want := rational.Bits(a), bigInt(a.Num).BitLen()+bigInt(a.Den).BitLen(); got != want {
			t.Errorf("Bits(%v): %d, want %d", texts([]api.Rat{a}), got, want)
		}
	}
}

// The examples of the chapter for B2, B6 and B8.
func TestExamples(t *testing.T) {
	minus := api.Rat{Num: api.Int{Neg: true, Mag: []uint32{3}}, Den: api.Int{Mag: []uint32{2}}}
	if a, e := rational.New(integer.Of(6), integer.Of(-4)); !same(a, minus) || e != api.OK {
		t.Errorf("New(6, -4): %v, %v", a, e)
	}
	if a, e := rational.New(integer.Of(1), integer.Of(0)); !isNothing(a) || e != api.ErrZero {
		t.Errorf("New(1, 0): %v, %v", a, e)
	}
	if n := rational.Floor(minus); !sameInt(n, integer.Of(-2)) {
		t.Errorf("Floor(-3/2): %v", n)
	}
	if n := rational.Bits(minus); n != 4 {
		t.Errorf("Bits(-3/2): %d", n)
	}
}
