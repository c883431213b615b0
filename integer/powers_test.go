package integer_test

import (
	"math"
	"math/big"
	"testing"

	"eliminant/api"
	"eliminant/integer"
)

// P1.1, A7.
func TestPow(t *testing.T) {
	for i, c := range []struct {
		a    int64
		n    int
		want string
		e    api.Errno
	}{
		{0, 0, "1", api.OK}, {0, 1, "0", api.OK}, {0, 4096, "0", api.OK}, {1, 4096, "1", api.OK},
		{-1, 4096, "1", api.OK}, {-1, 4095, "-1", api.OK}, {-2, 33, "-8589934592", api.OK}, {-2, 0, "1", api.OK},
		{7, 1, "7", api.OK}, {-7, 1, "-7", api.OK}, {2, 64, "18446744073709551616", api.OK}, {10, 20, "100000000000000000000", api.OK},
		{2, 4097, "0", api.ErrArg}, {2, -1, "0", api.ErrArg}, {0, -1, "0", api.ErrArg}, {1, 4097, "0", api.ErrArg},
		{1, math.MaxInt, "0", api.ErrArg}, {1, math.MinInt, "0", api.ErrArg},
	} {
		p, e := integer.Pow(integer.Of(c.a), c.n)
		if !same(p, decimal(t, c.want)) || e != c.e {
			t.Errorf("case %d: Pow(%d, %d): %v, %v", i, c.a, c.n, p, e)
		}
	}
	for _, a := range samples(source(), 30) {
		for n := range 12 {
			checkPow(t, a, n)
		}
	}
	for _, n := range []int{4094, 4095, 4096} {
		checkPow(t, integer.Of(-3), n)
		checkPow(t, integer.Of(1<<40+1), n)
	}
}

func checkPow(t *testing.T, a api.Int, n int) {
	t.Helper()
	p, e := integer.Pow(a, n)
	expect(t, "Pow", p, new(big.Int).Exp(toBig(a), big.NewInt(int64(n)), nil))
	if e != api.OK {
		t.Errorf("Pow(%s, %d): %v", text(a), n, e)
	}
}

// P1.1, A7.
func TestRoot(t *testing.T) {
	for i, c := range []struct {
		a    string
		k    int
		want string
		e    api.Errno
	}{
		{"99", 2, "9", api.OK}, {"99", 100, "1", api.OK}, {"100", 2, "10", api.OK}, {"0", 1, "0", api.OK}, {"0", 3, "0", api.OK}, {"0", math.MaxInt, "0", api.OK},
		{"1", 1, "1", api.OK}, {"1", math.MaxInt, "1", api.OK}, {"2", math.MaxInt, "1", api.OK}, {"7", 1, "7", api.OK}, {"7", 3, "1", api.OK}, {"8", 3, "2", api.OK}, {"9", 3, "2", api.OK},
		{"3", 2, "1", api.OK}, {"4", 2, "2", api.OK}, {"15", 4, "1", api.OK}, {"16", 4, "2", api.OK}, {"16", 5, "1", api.OK},
		{"18446744073709551615", 2, "4294967295", api.OK}, {"18446744073709551616", 2, "4294967296", api.OK},
		{"18446744073709551615", 64, "1", api.OK}, {"18446744073709551616", 64, "2", api.OK}, {"18446744073709551616", 65, "1", api.OK},
		{"-1", 3, "0", api.ErrArg}, {"-8", 3, "0", api.ErrArg}, {"4", 0, "0", api.ErrArg}, {"4", -2, "0", api.ErrArg}, {"0", 0, "0", api.ErrArg}, {"4", math.MinInt, "0", api.ErrArg}, {"-4", 0, "0", api.ErrArg},
	} {
		r, e := integer.Root(decimal(t, c.a), c.k)
		if !same(r, decimal(t, c.want)) || e != c.e {
			t.Errorf("case %d: Root(%s, %d): %v, %v", i, c.a, c.k, r, e)
		}
	}
}

// checkRoot checks r^k <= a < (r + 1)^k with math/big.
func checkRoot(t *testing.T, a api.Int, k int) {
	t.Helper()
	r, e := integer.Root(a, k)
	if e != api.OK || !integer.Valid(r) || r.Neg {
		t.Errorf("Root(%s, %d): %v, %v", text(a), k, r, e)
		return
	}
	exponent := big.NewInt(int64(k))
	low := new(big.Int).Exp(toBig(r), exponent, nil)
	high := new(big.Int).Exp(new(big.Int).Add(toBig(r), big.NewInt(1)), exponent, nil)
	if low.Cmp(toBig(a)) > 0 || high.Cmp(toBig(a)) <= 0 {
		t.Errorf("Root(%s, %d): %s", text(a), k, text(r))
	}
}

// P1.6.
func TestRootBounds(t *testing.T) {
	for a := range 300 {
		for k := 1; k < 12; k++ {
			checkRoot(t, integer.Of(int64(a)), k)
		}
	}
	r := source()
	for _, a := range samples(r, 300) {
		for _, k := range []int{1, 2, 3, 4, 5, 7, 16, 31, 50, 100, 383, 400} {
			checkRoot(t, absolute(a), k)
		}
	}
	// Next to a power the root changes.
	for range 600 {
		base, k := absolute(random(r, 4)), 1+r.IntN(40)
		p, _ := integer.Pow(base, k)
		for d := int64(-1); d <= 1; d++ {
			if a := integer.Add(p, integer.Of(d)); !a.Neg {
				checkRoot(t, a, k)
			}
		}
	}
	for _, k := range []int{2, 3, 64, 1000, 4095, 4096, 4097, 50000} {
		p, _ := integer.Pow(integer.Of(12345), 4096)
		checkRoot(t, p, k)
		checkRoot(t, integer.Sub(p, integer.Of(1)), k)
	}
}

// P1.6.
func TestPowerLaws(t *testing.T) {
	r := source()
	for range 500 {
		a, m, n := random(r, 4), r.IntN(20), r.IntN(20)
		p, _ := integer.Pow(a, m)
		q, _ := integer.Pow(a, n)
		s, _ := integer.Pow(a, m+n)
		if !same(integer.Mul(p, q), s) {
			t.Errorf("%s with the exponents %d and %d", text(a), m, n)
		}
		// A root undoes a power.
		if n > 0 {
			q, _ = integer.Pow(absolute(a), n)
			if back, e := integer.Root(q, n); e != api.OK || !same(back, absolute(a)) {
				t.Errorf("Root of the power of %s with the exponent %d: %v, %v", text(a), n, back, e)
			}
		}
	}
	p, _ := integer.Pow(integer.Of(7), 4000)
	q, _ := integer.Pow(integer.Of(7), 96)
	s, e := integer.Pow(integer.Of(7), 4096)
	if e != api.OK || !same(integer.Mul(p, q), s) {
		t.Error("7 with the exponents 4000 and 96")
	}
}
