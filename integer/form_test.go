package integer_test

import (
	"math"
	"math/big"
	"testing"

	"eliminant/api"
	"eliminant/integer"
)

// P1.1, A1; P1.8.
func TestValid(t *testing.T) {
	for i, c := range []struct {
		a    api.Int
		want bool
	}{
		{api.Int{}, true},
		{api.Int{Mag: []uint32{}}, true},
		{api.Int{Neg: true}, false},
		{api.Int{Neg: true, Mag: []uint32{}}, false},
		{api.Int{Mag: []uint32{0}}, false},
		{api.Int{Neg: true, Mag: []uint32{0}}, false},
		{api.Int{Mag: []uint32{0, 0}}, false},
		{api.Int{Mag: []uint32{1}}, true},
		{api.Int{Neg: true, Mag: []uint32{1}}, true},
		{api.Int{Mag: []uint32{0, 1}}, true},
		{api.Int{Mag: []uint32{1, 0}}, false},
		{api.Int{Neg: true, Mag: []uint32{1, 2, 0}}, false},
		{api.Int{Neg: true, Mag: []uint32{0, 0, 1<<32 - 1}}, true},
	} {
		if integer.Valid(c.a) != c.want {
			t.Errorf("case %d: Valid(%v) is %v", i, c.a, !c.want)
		}
	}
}

// P1.1, A2; P1.8.
func TestOfAndSmall(t *testing.T) {
	for _, n := range []int64{0, 1, -1, 5, -5, 1<<31 - 1, 1 << 31, -1 << 31, 1<<32 - 1, 1 << 32, -1 << 32, 1<<32 + 1, 1<<62 + 3, math.MaxInt64, math.MaxInt64 - 1, -math.MaxInt64, math.MinInt64} {
		a := integer.Of(n)
		expect(t, "Of", a, big.NewInt(n))
		if m, ok := integer.Small(a); m != n || !ok {
			t.Errorf("Small(Of(%d)): %d, %v", n, m, ok)
		}
	}
	for _, s := range []string{"9223372036854775808", "-9223372036854775809", "18446744073709551615", "18446744073709551616", "-18446744073709551615", "-18446744073709551616", "79228162514264337593543950336", "-79228162514264337593543950336"} {
		if n, ok := integer.Small(decimal(t, s)); n != 0 || ok {
			t.Errorf("Small(%s): %d, %v", s, n, ok)
		}
	}
	for _, a := range samples(source(), 100) {
		want := toBig(a)
		n, ok := integer.Small(a)
		if ok != want.IsInt64() || ok && n != want.Int64() || !ok && n != 0 {
			t.Errorf("Small(%v): %d, %v", want, n, ok)
		}
	}
}

// P1.1, A3.
func TestSignAndNeg(t *testing.T) {
	for _, a := range samples(source(), 100) {
		want := toBig(a)
		if s := integer.Sign(a); s != want.Sign() {
			t.Errorf("Sign(%v): %d", want, s)
		}
		expect(t, "Neg", integer.Neg(a), new(big.Int).Neg(want))
	}
}

// P1.1, A3.
func TestCmp(t *testing.T) {
	list := samples(source(), 60)
	for _, a := range list {
		for _, b := range list {
			if got, want := integer.Cmp(a, b), toBig(a).Cmp(toBig(b)); got != want {
				t.Errorf("Cmp(%s, %s): %d", text(a), text(b), got)
			}
		}
	}
	// Numbers of the same length that differ in one word only.
	for i := range 4 {
		a, b := api.Int{Mag: []uint32{7, 7, 7, 7}}, api.Int{Mag: []uint32{7, 7, 7, 7}}
		b.Mag[i] = 8
		if integer.Cmp(a, b) != -1 || integer.Cmp(b, a) != 1 || integer.Cmp(integer.Neg(a), integer.Neg(b)) != 1 {
			t.Errorf("word %d is not compared", i)
		}
	}
}

// P1.1, A8.
func TestBits(t *testing.T) {
	for n, want := range map[int64]int{0: 0, 1: 1, -1: 1, 2: 2, 3: 2, 4: 3, 7: 3, 8: 4, -8: 4, 1<<16 - 1: 16, 1 << 16: 17, 1<<32 - 1: 32, 1 << 32: 33, math.MaxInt64: 63, math.MinInt64: 64} {
		if got := integer.Bits(integer.Of(n)); got != want {
			t.Errorf("Bits(%d): %d", n, got)
		}
	}
	for _, a := range samples(source(), 100) {
		if got, want := integer.Bits(a), toBig(a).BitLen(); got != want {
			t.Errorf("Bits(%s): %d, want %d", text(a), got, want)
		}
	}
}

// P1.3: a total order that sums keep, products with positive numbers keep, and products with negative ones turn.
func TestOrderLaws(t *testing.T) {
	r := source()
	list := samples(r, 300)
	pick := func() api.Int { return list[r.IntN(len(list))] }
	for range 3000 {
		a, b, c := pick(), pick(), pick()
		order := integer.Cmp(a, b)
		if integer.Cmp(b, a) != -order || integer.Cmp(a, a) != 0 || (order == 0) != same(a, b) {
			t.Errorf("Cmp of %s and %s is not antisymmetric", text(a), text(b))
		}
		if order <= 0 && integer.Cmp(b, c) <= 0 && integer.Cmp(a, c) > 0 {
			t.Errorf("Cmp of %s, %s, %s is not transitive", text(a), text(b), text(c))
		}
		if integer.Cmp(integer.Add(a, c), integer.Add(b, c)) != order {
			t.Errorf("adding %s changes the order of %s and %s", text(c), text(a), text(b))
		}
		if integer.Cmp(integer.Mul(a, c), integer.Mul(b, c)) != order*integer.Sign(c) {
			t.Errorf("multiplying by %s: wrong order of %s and %s", text(c), text(a), text(b))
		}
		if integer.Sign(integer.Sub(a, b)) != order {
			t.Errorf("Cmp is not the sign of the difference of %s and %s", text(a), text(b))
		}
	}
}

// P1.8: equal numbers that are computed in different ways have the same fields.
func TestCanonicalForm(t *testing.T) {
	r := source()
	list := samples(r, 200)
	pick := func() api.Int { return list[r.IntN(len(list))] }
	for range 2000 {
		a, b := pick(), pick()
		for i, c := range []api.Int{
			integer.Sub(integer.Add(a, b), b),
			integer.Add(integer.Sub(a, b), b),
			integer.Neg(integer.Neg(a)),
			integer.Mul(a, integer.Of(1)),
			integer.Sub(integer.Mul(a, integer.Add(b, integer.Of(1))), integer.Mul(a, b)),
		} {
			if !integer.Valid(c) || !same(a, c) {
				t.Errorf("way %d from %s with %s: %v", i, text(a), text(b), c)
			}
		}
		if zero := integer.Sub(a, a); zero.Neg || len(zero.Mag) != 0 {
			t.Errorf("%s - %s: %v", text(a), text(a), zero)
		}
		if zero := integer.Mul(a, api.Int{}); zero.Neg || len(zero.Mag) != 0 {
			t.Errorf("%s times 0: %v", text(a), zero)
		}
	}
	if zero := integer.Neg(api.Int{}); zero.Neg || len(zero.Mag) != 0 {
		t.Errorf("-0: %v", zero)
	}
}
