package modular_test

import (
	"math"
	"math/big"
	"testing"

	"eliminant/api"
	"eliminant/modular"
	"eliminant/rational"
)

// edges returns numbers of 64 bits at the limits, and near multiples of p.
func edges(p uint64) []uint64 {
	return []uint64{0, 1, 2, 3, p - 1, p, p + 1, 2*p - 1, 2 * p, p * p, 1<<31 - 1, 1 << 31, 1<<32 - 1, 1 << 32, 1<<63 - 1, 1 << 63, math.MaxUint64 - 1, math.MaxUint64, math.MaxUint64 / p * p}
}

func checkPow(t *testing.T, a, n, p uint64) {
	t.Helper()
	want := new(big.Int).Exp(ofUint(a), ofUint(n), ofUint(p))
	if p == 1 {
		want.SetInt64(0)
	}
	if got := modular.Pow(a, n, p); got != want.Uint64() {
		t.Errorf("Pow(%d, %d, %d): %d, want %v", a, n, p, got, want)
	}
}

// P3.1, C2: also for moduli that are no primes.
func TestPow(t *testing.T) {
	for _, p := range append(somePrimes(), 1, 4, 6, 9, 1<<16, 1<<30, 1<<31-2, 1<<31-3) {
		for _, a := range edges(p) {
			for _, n := range edges(p) {
				checkPow(t, a, n, p)
			}
		}
	}
	r := source()
	for range 20000 {
		checkPow(t, r.Uint64()>>r.IntN(64), r.Uint64()>>r.IntN(64), 1+r.Uint64N(1<<31-1)>>r.IntN(31))
	}
}

// P3.1, C2: a^0 is 1, which is 0 modulo 1.
func TestPowOfZero(t *testing.T) {
	for _, c := range [][4]uint64{{0, 0, 5, 1}, {0, 0, 2, 1}, {5, 0, 5, 1}, {0, 0, 1, 0}, {7, 0, 1, 0}, {3, 4, 1, 0}, {0, 1, 5, 0}, {0, math.MaxUint64, 5, 0}, {10, 3, 7, 6}, {2, 62, 1<<31 - 1, 1}} {
		if got := modular.Pow(c[0], c[1], c[2]); got != c[3] {
			t.Errorf("Pow(%d, %d, %d): %d, want %d", c[0], c[1], c[2], got, c[3])
		}
	}
}

// P3.1, C2; P3.3: for short primes each residue but 0 has exactly one inverse, which Inv finds.
func TestInverseIsUnique(t *testing.T) {
	for _, p := range []uint64{2, 3, 5, 7, 11, 13, 17, 101, 211} {
		for a := range 3 * p {
			var found []uint64
			for x := range p {
				if a*x%p == 1 {
					found = append(found, x)
				}
			}
			got, e := modular.Inv(a, p)
			if a%p == 0 {
				if got != 0 || e != api.ErrZero || len(found) != 0 {
					t.Errorf("Inv(%d, %d): %d, %v", a, p, got, e)
				}
				continue
			}
			if len(found) != 1 || got != found[0] || e != api.OK {
				t.Errorf("Inv(%d, %d): %d, %v, want %v", a, p, got, e, found)
			}
		}
	}
}

// P3.1, C2: long primes, and numbers beyond the prime.
func TestInv(t *testing.T) {
	r := source()
	for _, p := range append(somePrimes(), randomPrimes(t, r, 50)...) {
		for _, a := range append(edges(p), r.Uint64(), r.Uint64(), r.Uint64N(p)) {
			x, e := modular.Inv(a, p)
			if a%p == 0 {
				if x != 0 || e != api.ErrZero {
					t.Errorf("Inv(%d, %d): %d, %v", a, p, x, e)
				}
				continue
			}
			if e != api.OK || x >= p || a%p*x%p != 1 {
				t.Errorf("Inv(%d, %d): %d, %v", a, p, x, e)
			}
			if back, e := modular.Inv(x, p); back != a%p || e != api.OK {
				t.Errorf("Inv of the inverse of %d modulo %d: %d, %v", a, p, back, e)
			}
		}
	}
}

// P3.3: powers of products are products of powers; exponents are added; inverses are powers, too.
func TestFieldLaws(t *testing.T) {
	r := source()
	for _, p := range append(somePrimes(), randomPrimes(t, r, 20)...) {
		for range 200 {
			a, b := r.Uint64N(p), r.Uint64N(p)
			n, m := r.Uint64()>>r.IntN(64), r.Uint64()>>(1+r.IntN(63))
			if modular.Pow(a*b%p, n, p) != modular.Pow(a, n, p)*modular.Pow(b, n, p)%p {
				t.Errorf("(%d times %d)^%d modulo %d", a, b, n, p)
			}
			if modular.Pow(a, n>>1+m, p) != modular.Pow(a, n>>1, p)*modular.Pow(a, m, p)%p {
				t.Errorf("%d^(%d + %d) modulo %d", a, n>>1, m, p)
			}
			if a == 0 || b == 0 {
				continue
			}
			x, _ := modular.Inv(a, p)
			y, _ := modular.Inv(b, p)
			if z, e := modular.Inv(a*b%p, p); z != x*y%p || e != api.OK {
				t.Errorf("the inverse of %d times %d modulo %d: %d, %v", a, b, p, z, e)
			}
		}
	}
}

// P3.1, C3, with the example.
func TestReduce(t *testing.T) {
	for _, c := range []struct {
		n, d int64
		p    uint64
		want uint64
	}{{1, 2, 7, 4}, {-1, 2, 7, 3}, {0, 1, 2, 0}, {1, 1, 2, 1}, {-1, 1, 2, 1}, {-1, 3, 2, 1}, {-1, 1, 2147483647, 2147483646}, {7, 2, 7, 0}, {-14, 3, 7, 0}, {-15, 1, 7, 6}, {15, 1, 7, 1}, {1, 8, 7, 1}} {
		if got, e := modular.Reduce(fraction(c.n, c.d), c.p); got != c.want || e != api.OK {
			t.Errorf("%d/%d modulo %d: %d, %v", c.n, c.d, c.p, got, e)
		}
	}
	for _, c := range [][3]int64{{1, 2, 2}, {-1, 2, 2}, {3, 14, 7}, {1, 7, 7}, {-5, 49, 7}, {1, 2147483647, 2147483647}} {
		if got, e := modular.Reduce(fraction(c[0], c[1]), uint64(c[2])); got != 0 || e != api.ErrDen {
			t.Errorf("%d/%d modulo %d: %d, %v", c[0], c[1], c[2], got, e)
		}
	}
}

// P3.1, C3: long numbers, against the definition.
func TestReduceLongNumbers(t *testing.T) {
	r := source()
	primes := append(somePrimes(), randomPrimes(t, r, 20)...)
	for i := range 5000 {
		a, p := randomRat(r, 10+i%300), primes[i%len(primes)]
		if i%5 == 0 {
			// A denominator that p divides.
			a = fromRat(new(big.Rat).Quo(toRat(a), new(big.Rat).SetInt(ofUint(p))))
		}
		modulus := ofUint(p)
		n, d := new(big.Int).Mod(toBig(a.Num), modulus), new(big.Int).Mod(toBig(a.Den), modulus)
		got, e := modular.Reduce(a, p)
		if d.Sign() == 0 {
			if got != 0 || e != api.ErrDen {
				t.Errorf("%v modulo %d: %d, %v", toRat(a), p, got, e)
			}
			continue
		}
		if e != api.OK || got >= p || got*d.Uint64()%p != n.Uint64() {
			t.Errorf("%v modulo %d: %d, %v", toRat(a), p, got, e)
		}
	}
}

// P3.4: sums and products of numbers have the sums and products of the images.
func TestImages(t *testing.T) {
	r := source()
	primes := append(somePrimes(), randomPrimes(t, r, 20)...)
	for i := range 5000 {
		p := primes[i%len(primes)]
		a, b := randomRat(r, 1+i%120), randomRat(r, 1+i%90)
		x, e := modular.Reduce(a, p)
		y, f := modular.Reduce(b, p)
		if e != api.OK || f != api.OK {
			continue
		}
		for what, c := range map[string]struct {
			a    api.Rat
			want uint64
		}{
			"sum":        {rational.Add(a, b), (x + y) % p},
			"product":    {rational.Mul(a, b), x * y % p},
			"difference": {rational.Sub(a, b), (x + p - y) % p},
		} {
			if got, e := modular.Reduce(c.a, p); got != c.want || e != api.OK {
				t.Errorf("the %s of %v and %v modulo %d: %d, %v, want %d", what, toRat(a), toRat(b), p, got, e, c.want)
			}
		}
	}
}
