package modular_test

import (
	"math"
	"math/big"
	"testing"

	"eliminant/api"
	"eliminant/modular"
)

// checkChinese checks the result against its definition: the modulus is the product, the number is in the range from 0
// to the modulus less 1, and has all the residues. Only one number in this range has them.
func checkChinese(t *testing.T, l, p []uint64) (api.Int, api.Int) {
	t.Helper()
	u, m, e := modular.Chinese(l, p)
	if e != api.OK {
		t.Fatalf("Chinese(%v, %v): %v", l, p, e)
	}
	if want := product(p); !sameInt(m, fromBig(want)) {
		t.Fatalf("Chinese(%v, %v): modulus %v, want %v", l, p, m, want)
	}
	value := toBig(u)
	if !sameInt(u, fromBig(value)) || value.Sign() < 0 || value.Cmp(toBig(m)) >= 0 {
		t.Fatalf("Chinese(%v, %v): %v is not in the range, or not valid", l, p, u)
	}
	for i, q := range p {
		if rest := new(big.Int).Mod(value, ofUint(q)).Uint64(); rest != l[i]%q {
			t.Fatalf("Chinese(%v, %v): %v is %d modulo %d", l, p, value, rest, q)
		}
	}
	return u, m
}

// P3.1, C4, with the example.
func TestChinese(t *testing.T) {
	for _, c := range []struct {
		l, p []uint64
		u, m int64
	}{
		{nil, nil, 0, 1},
		{[]uint64{}, nil, 0, 1},
		{[]uint64{2, 3}, []uint64{3, 5}, 8, 15},
		{[]uint64{2, 3, 2}, []uint64{3, 5, 7}, 23, 105},
		{[]uint64{0}, []uint64{2}, 0, 2},
		{[]uint64{9}, []uint64{7}, 2, 7},
		{[]uint64{0, 0, 0}, []uint64{2, 3, 5}, 0, 30},
		{[]uint64{1, 2, 4}, []uint64{2, 3, 5}, 29, 30},
		{[]uint64{3, 5, 9}, []uint64{2, 3, 5}, 29, 30},
		{[]uint64{2147483646}, []uint64{2147483647}, 2147483646, 2147483647},
	} {
		u, m := checkChinese(t, c.l, c.p)
		if !sameInt(u, number(c.u)) || !sameInt(m, number(c.m)) {
			t.Errorf("Chinese(%v, %v): %v, %v, want %d, %d", c.l, c.p, u, m, c.u, c.m)
		}
	}
}

// P3.1, C4: all residues for a few primes, and residues that are not reduced.
func TestChineseAllResidues(t *testing.T) {
	p := []uint64{7, 2, 5, 3}
	for n := range uint64(210) {
		l := []uint64{n % 7, n % 2, n % 5, n % 3}
		u, _ := checkChinese(t, l, p)
		if !sameInt(u, number(int64(n))) {
			t.Errorf("Chinese(%v, %v): %v, want %d", l, p, u, n)
		}
		u, _ = checkChinese(t, []uint64{n, n + 2, n + 1<<32*5, n + math.MaxUint64/3*3 - 210*3}, p)
		if !sameInt(u, number(int64(n))) {
			t.Errorf("residues of %d that are not reduced: %v", n, u)
		}
	}
}

// P3.1, C4: the greatest residues that there are.
func TestChineseGreatestResidues(t *testing.T) {
	p := []uint64{2, 2147483647, 3, 2147483629, 65537}
	for k := range uint64(20) {
		l := []uint64{math.MaxUint64 - k, math.MaxUint64 - k*k, math.MaxUint64 - 1<<30*k, math.MaxUint64 - k, math.MaxUint64 - 3*k}
		checkChinese(t, l, p)
	}
}

// P3.5: many primes, in any order.
func TestChineseInAnyOrder(t *testing.T) {
	r := source()
	for i := range 300 {
		p := randomPrimes(t, r, i%40)
		l := make([]uint64, len(p))
		for i := range l {
			l[i] = r.Uint64() >> r.IntN(64)
		}
		u, m := checkChinese(t, l, p)
		for range 3 {
			r.Shuffle(len(p), func(i, k int) { l[i], l[k], p[i], p[k] = l[k], l[i], p[k], p[i] })
			v, n := checkChinese(t, l, p)
			if !sameInt(u, v) || !sameInt(m, n) {
				t.Errorf("Chinese(%v, %v): %v, in another order %v", l, p, u, v)
			}
		}
	}
}

// P3.5: a number is found from its residues modulo the greatest primes, also the least and the greatest one.
func TestChineseFindsNumbers(t *testing.T) {
	var p []uint64
	for n := uint64(1<<31 - 1); len(p) < 60; n-- {
		if modular.Prime(n) {
			p = append(p, n)
		}
	}
	m := product(p)
	for i := range 60 {
		want := new(big.Int).Rsh(m, uint(30*i))
		for _, want := range []*big.Int{want.Sub(want, big.NewInt(1)), new(big.Int).Sub(m, want)} {
			want.Mod(want, m)
			l := make([]uint64, len(p))
			for k, q := range p {
				l[k] = new(big.Int).Mod(want, ofUint(q)).Uint64()
			}
			if u, _ := checkChinese(t, l, p); !sameInt(u, fromBig(want)) {
				t.Errorf("%v, want %v", u, want)
			}
		}
	}
}

// P3.1, C4: what is no list of different primes, or has another length.
func TestChineseErrors(t *testing.T) {
	for _, c := range []struct{ l, p []uint64 }{
		{nil, []uint64{2}}, {[]uint64{1}, nil}, {[]uint64{1}, []uint64{2, 3}}, {[]uint64{1, 1, 1}, []uint64{2, 3}},
		{[]uint64{1, 1}, []uint64{3, 3}}, {[]uint64{1, 1, 1}, []uint64{3, 5, 3}}, {[]uint64{1, 2, 1}, []uint64{5, 3, 3}},
		{[]uint64{0}, []uint64{0}}, {[]uint64{0}, []uint64{1}}, {[]uint64{0}, []uint64{4}}, {[]uint64{0, 0}, []uint64{3, 4}}, {[]uint64{0, 0}, []uint64{1, 5}}, {[]uint64{0, 0}, []uint64{5, 0}},
		{[]uint64{0}, []uint64{2147483648}}, {[]uint64{0}, []uint64{2147483659}}, {[]uint64{0}, []uint64{1<<32 + 15}}, {[]uint64{0, 0}, []uint64{3, 1<<61 - 1}}, {[]uint64{0}, []uint64{math.MaxUint64}},
		{[]uint64{0}, []uint64{25326001}}, {[]uint64{0, 0, 0}, []uint64{2, 3, 9}},
	} {
		if u, m, e := modular.Chinese(c.l, c.p); !sameInt(u, api.Int{}) || !sameInt(m, api.Int{}) || e != api.ErrArg {
			t.Errorf("Chinese(%v, %v): %v, %v, %v", c.l, c.p, u, m, e)
		}
	}
}
