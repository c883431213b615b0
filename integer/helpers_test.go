package integer_test

import (
	"math/big"
	"math/rand/v2"
	"slices"
	"testing"

	"eliminant/api"
	"eliminant/integer"
)

// toBig returns the value of a, read from its fields alone.
func toBig(a api.Int) *big.Int {
	out := new(big.Int)
	for _, w := range slices.Backward(a.Mag) {
		out.Lsh(out, 32)
		out.Or(out, new(big.Int).SetUint64(uint64(w)))
	}
	if a.Neg {
		out.Neg(out)
	}
	return out
}

// fromBig returns the valid integer with the value of b, made without the package.
func fromBig(b *big.Int) api.Int {
	rest, mask := new(big.Int).Abs(b), big.NewInt(1<<32-1)
	out := api.Int{Neg: b.Sign() < 0}
	for rest.Sign() > 0 {
		out.Mag = append(out.Mag, uint32(new(big.Int).And(rest, mask).Uint64()))
		rest.Rsh(rest, 32)
	}
	return out
}

// decimal returns the integer with a text, made without the package.
func decimal(t *testing.T, s string) api.Int {
	t.Helper()
	b, ok := new(big.Int).SetString(s, 10)
	if !ok {
		t.Fatalf("the test has a wrong text: %q", s)
	}
	return fromBig(b)
}

func same(a, b api.Int) bool { return a.Neg == b.Neg && slices.Equal(a.Mag, b.Mag) }

// expect checks that an integer is the valid one with a value.
func expect(t *testing.T, what string, got api.Int, want *big.Int) {
	t.Helper()
	if !same(got, fromBig(want)) {
		t.Errorf("%s: %v, want %v", what, got, want)
	}
}

// edges returns integers at the limits of words and of 64 bits, of both signs.
func edges() []api.Int {
	var out []api.Int
	add := func(b *big.Int) {
		out = append(out, fromBig(b))
		if b.Sign() != 0 {
			out = append(out, fromBig(new(big.Int).Neg(b)))
		}
	}
	for _, n := range []int64{0, 1, 2, 3, 10, 999999999, 1000000000} {
		add(big.NewInt(n))
	}
	for _, k := range []uint{31, 32, 33, 63, 64, 65, 95, 96, 97, 128, 160} {
		power := new(big.Int).Lsh(big.NewInt(1), k)
		for d := int64(-1); d <= 1; d++ {
			add(new(big.Int).Add(power, big.NewInt(d)))
		}
	}
	return out
}

func source() *rand.Rand { return rand.New(rand.NewPCG(1, 2)) }

// random returns an integer with at most n words; many of its words are 0, all ones, or a power of two, for which
// carries and guesses of quotients go to their limits.
func random(r *rand.Rand, n int) api.Int {
	words := make([]uint32, r.IntN(n+1))
	for i := range words {
		switch r.IntN(6) {
		case 0:
			words[i] = 0
		case 1:
			words[i] = 1<<32 - 1
		case 2:
			words[i] = 1 << r.IntN(32)
		default:
			words[i] = r.Uint32()
		}
	}
	if n := len(words); n > 0 && words[n-1] == 0 {
		words[n-1] = 1
	}
	return api.Int{Neg: len(words) > 0 && r.IntN(2) == 0, Mag: words}
}

// samples returns the edges and as many random integers of different lengths.
func samples(r *rand.Rand, n int) []api.Int {
	out := edges()
	for i := range n {
		out = append(out, random(r, 1+i%12))
	}
	return out
}

func text(a api.Int) string { return toBig(a).String() }

// absolute returns |a|.
func absolute(a api.Int) api.Int { return api.Int{Mag: a.Mag} }

// multiple reports whether a is a multiple of b.
func multiple(a, b api.Int) bool {
	if len(b.Mag) == 0 {
		return len(a.Mag) == 0
	}
	_, r, e := integer.DivMod(a, b)
	return e == api.OK && len(r.Mag) == 0
}
