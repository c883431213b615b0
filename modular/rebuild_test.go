package modular_test

import (
	"math/big"
	"testing"

	"eliminant/api"
	"eliminant/modular"
)

func gcd(a, b int64) int64 {
	for b != 0 {
		a, b = b, a%b
	}
	return max(a, -a)
}

// search looks for the number as the definition says, through all numerators and denominators.
func search(t *testing.T, u, m int64) (api.Rat, bool) {
	t.Helper()
	var found []api.Rat
	for d := int64(1); 2*d*d <= m-1; d++ {
		for n := -m; n <= m; n++ {
			if 2*n*n <= m-1 && (n-u*d)%m == 0 && gcd(n, d) == 1 && gcd(d, m) == 1 {
				found = append(found, fraction(n, d))
			}
		}
	}
	if len(found) > 1 {
		t.Fatalf("%d modulo %d: there are several numbers", u, m)
	}
	if len(found) == 0 {
		return api.Rat{}, false
	}
	return found[0], true
}

// P3.1, C5: all residues modulo small numbers, primes or not, and numbers beyond the modulus, of both signs.
func TestRebuildAllResidues(t *testing.T) {
	for m := int64(1); m <= 150; m++ {
		for u := range m {
			want, ok := search(t, u, m)
			for _, k := range []int64{0, -1, 1, 1 << 40, -1 << 40} {
				if got, found := modular.Rebuild(number(u+k*m), number(m)); found != ok || !same(got, want) {
					t.Errorf("Rebuild(%d, %d): %v, %v, want %v, %v", u+k*m, m, got, found, want, ok)
				}
			}
		}
	}
}

// P3.1, C5, with the example; the square root of (m - 1)/2 itself is within the bound, also if it is an integer.
func TestRebuild(t *testing.T) {
	for _, c := range []struct {
		u, m, n, d int64
	}{
		{51, 101, 1, 2}, {0, 3, 0, 1}, {1, 3, 1, 1}, {2, 3, -1, 1}, {0, 1 << 40, 0, 1},
		{2, 9, 2, 1}, {7, 9, -2, 1}, {5, 9, 1, 2}, {4, 9, -1, 2}, {3, 19, 3, 1}, {13, 19, 1, 3}, {16, 19, -3, 1}, {6, 19, -1, 3},
	} {
		if got, ok := modular.Rebuild(number(c.u), number(c.m)); !ok || !same(got, fraction(c.n, c.d)) {
			t.Errorf("Rebuild(%d, %d): %v, %v, want %d/%d", c.u, c.m, got, ok, c.n, c.d)
		}
	}
}

// P3.1, C5: moduli less than 1, and those too small for any number.
func TestRebuildNothing(t *testing.T) {
	for _, c := range [][2]int64{
		{0, 0}, {1, 0}, {-5, 0}, {0, -1}, {51, -101}, {0, -1 << 40}, {0, 1}, {5, 1}, {0, 2}, {1, 2}, {-1, 2}, {4, 7}, {3, 7}, {2, 4}, {3, 9}, {6, 9}, {2, 8},
	} {
		if got, ok := modular.Rebuild(number(c[0]), number(c[1])); ok || !isNothing(got) {
			t.Errorf("Rebuild(%d, %d): %v, %v", c[0], c[1], got, ok)
		}
	}
}

// P3.6: numbers are rebuilt from their residues modulo just as many primes as are needed, and modulo more.
func TestReconstruction(t *testing.T) {
	r := source()
	for i := range 1500 {
		a := randomRat(r, 1+i%250)
		n, d := new(big.Int).Abs(toBig(a.Num)), toBig(a.Den)
		if n.Cmp(d) < 0 {
			n = d
		}
		needed := new(big.Int).Mul(n, n)
		needed.Lsh(needed, 1)
		var p, l []uint64
		more := r.IntN(3)
		for q := 1 + r.Uint64N(1<<(4+r.IntN(26))); product(p).Cmp(needed) <= 0 || more > 0; {
			if product(p).Cmp(needed) > 0 {
				more--
			}
			q, _ = modular.Next(q)
			if x, e := modular.Reduce(a, q); e == api.OK {
				p, l = append(p, q), append(l, x)
			}
		}
		u, m, e := modular.Chinese(l, p)
		if e != api.OK {
			t.Fatalf("Chinese(%v, %v): %v", l, p, e)
		}
		for _, k := range []int64{0, 1, -1} {
			v := new(big.Int).Add(toBig(u), new(big.Int).Mul(big.NewInt(k), toBig(m)))
			if got, ok := modular.Rebuild(fromBig(v), m); !ok || !same(got, a) {
				t.Errorf("%v modulo %v: %v, %v", toRat(a), p, got, ok)
			}
		}
	}
}

// P3.1, C5: long residues. What is rebuilt has the properties, and what has them is rebuilt; moduli are not primes.
func TestRebuildLongResidues(t *testing.T) {
	r := source()
	for i := range 3000 {
		m := new(big.Int).Abs(randomBig(r, 8+i%200))
		m.Add(m, big.NewInt(1))
		u := randomBig(r, 400)
		limit := new(big.Int).Sub(m, big.NewInt(1))
		limit.Sqrt(limit.Rsh(limit, 1))
		if i%2 == 0 && limit.Sign() > 0 {
			// The residue of a number within the bound; some are at the bound.
			n, d := randomWithin(r.Uint64(), limit), randomWithin(r.Uint64(), limit)
			if d.Sign() == 0 {
				d.Set(limit)
			}
			one := big.NewInt(1)
			if new(big.Int).GCD(nil, nil, d, m).Cmp(one) != 0 || new(big.Int).GCD(nil, nil, n, d).Cmp(one) != 0 {
				continue
			}
			if i%4 == 0 {
				n.Neg(n)
			}
			u.Mul(n, new(big.Int).ModInverse(d, m))
			if got, ok := modular.Rebuild(fromBig(u), fromBig(m)); !ok || !same(got, fromRat(new(big.Rat).SetFrac(n, d))) {
				t.Errorf("%v/%v modulo %v: %v, %v", n, d, m, got, ok)
			}
			continue
		}
		got, ok := modular.Rebuild(fromBig(u), fromBig(m))
		if !ok {
			if !isNothing(got) {
				t.Errorf("Rebuild(%v, %v): %v and false", u, m, got)
			}
			continue
		}
		checkRebuilt(t, got, u, m, limit)
	}
}

// randomWithin returns a number from 0 to the limit, which is the limit itself in one of four cases.
func randomWithin(seed uint64, limit *big.Int) *big.Int {
	if seed%4 == 0 {
		return new(big.Int).Set(limit)
	}
	out := new(big.Int).Exp(ofUint(seed), big.NewInt(7), nil)
	return out.Mod(out, new(big.Int).Add(limit, big.NewInt(1)))
}

// checkRebuilt checks the conditions for a result of Rebuild.
func checkRebuilt(t *testing.T, got api.Rat, u, m, limit *big.Int) {
	t.Helper()
	one := big.NewInt(1)
	n, d := toBig(got.Num), toBig(got.Den)
	rest := new(big.Int).Mul(u, d)
	rest.Sub(n, rest).Mod(rest, m)
	fits := d.Sign() > 0 && d.Cmp(limit) <= 0 && n.CmpAbs(limit) <= 0
	if !fits || rest.Sign() != 0 || new(big.Int).GCD(nil, nil, d, m).Cmp(one) != 0 || !same(got, fromRat(new(big.Rat).SetFrac(n, d))) {
		t.Errorf("Rebuild(%v, %v): %v/%v", u, m, n, d)
	}
}
