package modular_test

import (
	"math/big"
	"math/rand/v2"
	"slices"
	"testing"

	"eliminant/api"
	"eliminant/modular"
)

// The tests compare with math/big, with sieves and with searches through all residues. Numbers go to math/big and back
// word by word, not by the packages that are tested.

func toBig(a api.Int) *big.Int {
	out := new(big.Int)
	for _, w := range slices.Backward(a.Mag) {
		out.Lsh(out, 32)
		out.Or(out, new(big.Int).SetUint64(uint64(w)))
	}
	if a.Neg {
		out.Neg(out)
	}
	return out
}

func fromBig(b *big.Int) api.Int {
	rest, mask := new(big.Int).Abs(b), big.NewInt(1<<32-1)
	out := api.Int{Neg: b.Sign() < 0}
	for rest.Sign() > 0 {
		out.Mag = append(out.Mag, uint32(new(big.Int).And(rest, mask).Uint64()))
		rest.Rsh(rest, 32)
	}
	return out
}

func number(n int64) api.Int { return fromBig(big.NewInt(n)) }

// fraction returns n/d in lowest terms.
func fraction(n, d int64) api.Rat { return fromRat(big.NewRat(n, d)) }

func fromRat(b *big.Rat) api.Rat { return api.Rat{Num: fromBig(b.Num()), Den: fromBig(b.Denom())} }

func toRat(a api.Rat) *big.Rat { return new(big.Rat).SetFrac(toBig(a.Num), toBig(a.Den)) }

func sameInt(a, b api.Int) bool { return a.Neg == b.Neg && slices.Equal(a.Mag, b.Mag) }

func same(a, b api.Rat) bool { return sameInt(a.Num, b.Num) && sameInt(a.Den, b.Den) }

func isNothing(a api.Rat) bool { return same(a, api.Rat{}) }

func ofUint(n uint64) *big.Int { return new(big.Int).SetUint64(n) }

func source() *rand.Rand { return rand.New(rand.NewPCG(5, 6)) }

// randomBig returns an integer of at most n bits, of either sign.
func randomBig(r *rand.Rand, n int) *big.Int {
	out := new(big.Int)
	for range r.IntN(n + 1) {
		out.Lsh(out, 1)
		out.SetBit(out, 0, uint(r.IntN(2)))
	}
	if r.IntN(2) == 0 {
		out.Neg(out)
	}
	return out
}

// randomRat returns a number whose numerator and denominator have at most n bits.
func randomRat(r *rand.Rand, n int) api.Rat {
	d := randomBig(r, n)
	if d.Sign() == 0 {
		d.SetInt64(1)
	}
	return fromRat(new(big.Rat).SetFrac(randomBig(r, n), d))
}

// somePrimes are primes at both ends of the range, and some between them.
func somePrimes() []uint64 {
	return []uint64{2, 3, 5, 7, 11, 101, 251, 257, 65521, 65537, 1000003, 1073741827, 2147483587, 2147483629, 2147483647}
}

// sieve returns, for the numbers from low to low + n - 1, whether they are primes. low is 0, or greater than 2^16.
func sieve(low, n uint64) []bool {
	out := make([]bool, n)
	for i := range out {
		out[i] = low+uint64(i) > 1
	}
	for d := uint64(2); d*d < low+n; d++ {
		for k := max(d*d, (low+d-1)/d*d); k < low+n; k += d {
			out[k-low] = false
		}
	}
	return out
}

// randomPrimes returns n different primes, of different lengths.
func randomPrimes(t *testing.T, r *rand.Rand, n int) []uint64 {
	t.Helper()
	var out []uint64
	for len(out) < n {
		p, e := modular.Next(r.Uint64N(1<<(4+r.IntN(28))) % (1<<31 - 1))
		if e != api.OK {
			t.Fatalf("no prime: %v", e)
		}
		if !slices.Contains(out, p) {
			out = append(out, p)
		}
	}
	return out
}

// product returns the product of all elements.
func product(p []uint64) *big.Int {
	out := big.NewInt(1)
	for _, q := range p {
		out.Mul(out, ofUint(q))
	}
	return out
}
