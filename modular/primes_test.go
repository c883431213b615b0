package modular_test

import (
	"math"
	"math/big"
	"testing"

	"eliminant/api"
	"eliminant/modular"
)

// checkRange compares Prime and Next with a sieve, for the numbers from low to low + n - 1; next is the least prime
// that is not less than low + n.
func checkRange(t *testing.T, low, n, next uint64) {
	t.Helper()
	primes := sieve(low, n)
	for i := range n {
		k := low + n - 1 - i
		if got, e := modular.Next(k); got != next || e != api.OK {
			t.Fatalf("Next(%d): %d, %v, want %d", k, got, e, next)
		}
		if modular.Prime(k) != primes[k-low] {
			t.Fatalf("Prime(%d) is %v", k, !primes[k-low])
		}
		if primes[k-low] {
			next = k
		}
	}
}

// P3.1, C1: all numbers at the beginning, some in the middle, and the last ones.
func TestPrimesBySieve(t *testing.T) {
	checkRange(t, 0, 1<<18, 262147)
	checkRange(t, 1<<30-1000, 1000, 1073741827)
	checkRange(t, 1<<31-1-100000, 100000, 1<<31-1)
}

// P3.1, C1: numbers beyond the range, among them primes, and numbers whose last 31 or 32 bits are a prime.
func TestNumbersBeyondTheRange(t *testing.T) {
	for _, n := range []uint64{
		1 << 31, 1<<31 + 1, 1<<31 + 11, 1<<32 - 5, 1<<32 - 1, 1 << 32, 1<<32 + 2, 1<<32 + 7, 1<<32 + 15, 1<<32 + 1<<31 - 1, 3215031751,
		1<<61 - 1, 1<<63 - 25, 1 << 63, 1<<63 + 2, 1<<63 + 7, math.MaxUint64 - 58, math.MaxUint64,
	} {
		if modular.Prime(n) {
			t.Errorf("Prime(%d): the number is not less than 2^31", n)
		}
		if p, e := modular.Next(n); p != 0 || e != api.ErrArg {
			t.Errorf("Next(%d): %d, %v", n, p, e)
		}
	}
	for _, n := range []uint64{0, 1} {
		if modular.Prime(n) {
			t.Errorf("%d is not a prime", n)
		}
	}
}

// P3.1, C1: the limits of Next, and the example of the chapter.
func TestNext(t *testing.T) {
	for n, want := range map[uint64]uint64{0: 2, 1: 2, 2: 3, 3: 5, 4: 5, 7: 11, 8: 11, 2147483628: 2147483629, 2147483629: 2147483647, 2147483646: 2147483647} {
		if p, e := modular.Next(n); p != want || e != api.OK {
			t.Errorf("Next(%d): %d, %v", n, p, e)
		}
	}
	if p, e := modular.Next(1<<31 - 1); p != 0 || e != api.ErrArg {
		t.Errorf("Next of the last prime: %d, %v", p, e)
	}
}

// P3.1, C1: numbers that are no primes but look like primes to many tests. Each of those in the first four rows passes
// Miller's test for all but one of the witnesses 2, 3, 5 and 7.
func TestPseudoprimes(t *testing.T) {
	for _, n := range []uint64{
		1024651, 32817151, 116151661, 134176771, 178482151, 255866131, 258503701, 591043771, 652969351, 972471151, 1487387611, 1588247851, 2086236181,
		746331041,
		2284453, 143168581, 682528687, 1168256953, 1638294661, 1856689453,
		25326001, 161304001, 960946321, 1157839381,
		2047, 3277, 4033, 4681, 8321, 1373653, 1530787,
		561, 1105, 1729, 2465, 2821, 6601, 8911, 62745, 162401, 10024561, 1299963601, // Carmichael's numbers
		4, 9, 25, 49, 121, 169, 46337 * 46337, 46337 * 46327, 65537 * 32749, 2 * 1073741789, 3 * 715827883, 1<<31 - 2, 1<<31 - 3,
	} {
		if big.NewInt(int64(n)).ProbablyPrime(20) {
			t.Fatalf("the test has a prime: %d", n)
		}
		if modular.Prime(n) {
			t.Errorf("%d is not a prime", n)
		}
	}
}

// P3.2: the chain of Next has all primes up to a bound.
func TestChainOfPrimes(t *testing.T) {
	const end = 1 << 18
	primes, p := sieve(0, end), uint64(0)
	for n := range uint64(end) {
		if !primes[n] {
			continue
		}
		next, e := modular.Next(p)
		if next != n || e != api.OK {
			t.Fatalf("the prime after %d: %d, %v, want %d", p, next, e, n)
		}
		p = next
	}
}

// P3.2: Fermat's theorem.
func TestFermat(t *testing.T) {
	r := source()
	for _, p := range append(somePrimes(), randomPrimes(t, r, 100)...) {
		for i := range uint64(50) {
			a := r.Uint64()
			if i < 10 {
				a = i * p / 3
			}
			want := uint64(1)
			if a%p == 0 {
				want = 0
			}
			if got := modular.Pow(a, p-1, p); got != want {
				t.Errorf("%d^(%d - 1) modulo %d: %d", a, p, p, got)
			}
		}
	}
}
