package rational_test

import (
	"math/big"
	"math/rand/v2"
	"slices"
	"testing"

	"eliminant/api"
	"eliminant/integer"
	"eliminant/rational"
)

// The tests compare with math/big; numbers go there and back by the texts of their integers (layer 1), not by the
// package that is tested.

func bigInt(a api.Int) *big.Int {
	out, _ := new(big.Int).SetString(integer.Text(a), 10)
	return out
}

func intOf(t *testing.T, b *big.Int) api.Int {
	t.Helper()
	a, e := integer.Parse(b.String())
	if e != api.OK {
		t.Fatalf("the test has too long a number, of %d bits", b.BitLen())
	}
	return a
}

func bigRat(a api.Rat) *big.Rat { return new(big.Rat).SetFrac(bigInt(a.Num), bigInt(a.Den)) }

func ratOf(t *testing.T, b *big.Rat) api.Rat {
	t.Helper()
	return api.Rat{Num: intOf(t, b.Num()), Den: intOf(t, b.Denom())}
}

// fraction returns n/d in lowest terms.
func fraction(t *testing.T, n, d int64) api.Rat {
	t.Helper()
	return ratOf(t, big.NewRat(n, d))
}

// read returns the number with a text, which may be any fraction.
func read(t *testing.T, s string) api.Rat {
	t.Helper()
	b, ok := new(big.Rat).SetString(s)
	if !ok {
		t.Fatalf("the test has a wrong text: %q", s)
	}
	return ratOf(t, b)
}

func sameInt(a, b api.Int) bool { return a.Neg == b.Neg && slices.Equal(a.Mag, b.Mag) }

func same(a, b api.Rat) bool { return sameInt(a.Num, b.Num) && sameInt(a.Den, b.Den) }

func isNothing(a api.Rat) bool { return same(a, api.Rat{}) }

// expect checks that a number has the fields of the valid number with a value.
func expect(t *testing.T, what string, got api.Rat, want *big.Rat) {
	t.Helper()
	if !same(got, ratOf(t, want)) {
		t.Errorf("%s: %v, want %v", what, got, want)
	}
}

// expectLaw checks that two numbers that are computed in different ways have the same fields.
func expectLaw(t *testing.T, law string, left, right api.Rat, numbers ...api.Rat) {
	t.Helper()
	if !same(left, right) {
		t.Errorf("%s fails for %v", law, texts(numbers))
	}
}

func texts(list []api.Rat) []string {
	var out []string
	for _, a := range list {
		out = append(out, bigRat(a).RatString())
	}
	return out
}

func source() *rand.Rand { return rand.New(rand.NewPCG(3, 4)) }

// randomBig returns an integer of at most n bits; half of them are products of small primes, so that divisors in
// common are frequent.
func randomBig(r *rand.Rand, n int) *big.Int {
	out := big.NewInt(1)
	if r.IntN(2) == 0 {
		for range r.IntN(n/3 + 1) {
			out.Mul(out, big.NewInt([]int64{2, 3, 5, 7}[r.IntN(4)]))
		}
	} else {
		for range r.IntN(n) {
			out.Lsh(out, 1)
			out.SetBit(out, 0, uint(r.IntN(2)))
		}
	}
	if r.IntN(2) == 0 {
		out.Neg(out)
	}
	return out
}

// random returns a number whose numerator and denominator have at most n bits; some are integers.
func random(t *testing.T, r *rand.Rand, n int) api.Rat {
	d := big.NewInt(1)
	if r.IntN(4) > 0 {
		d = randomBig(r, n)
	}
	return ratOf(t, new(big.Rat).SetFrac(randomBig(r, n), d))
}

// samples returns numbers at the edges, and n random ones of different lengths.
func samples(t *testing.T, r *rand.Rand, n int) []api.Rat {
	var out []api.Rat
	for _, s := range []string{
		"0", "1", "-1", "2", "-2", "1/2", "-1/2", "2/3", "-3/2", "7/9", "-7/9", "1/4294967296", "4294967295/4294967296", "-4294967297/4294967296",
		"18446744073709551616", "-1/18446744073709551616", "18446744073709551615/18446744073709551617", "1/1000000000000000000000", "-1000000000000000000001/1000000000000000000000",
	} {
		out = append(out, read(t, s))
	}
	for i := range n {
		out = append(out, random(t, r, 3+40*(i%8)))
	}
	return out
}

// must returns the number of a call that has no error.
func must(t *testing.T) func(a api.Rat, e api.Errno) api.Rat {
	return func(a api.Rat, e api.Errno) api.Rat {
		t.Helper()
		if e != api.OK {
			t.Errorf("an error where there is none: %v", e)
		}
		return a
	}
}

// whole returns an integer as a number.
func whole(t *testing.T, a api.Int) api.Rat {
	return must(t)(rational.New(a, integer.Of(1)))
}
