package univariate_test

import (
	"math/big"
	"math/rand/v2"
	"slices"
	"strconv"
	"strings"
	"testing"

	"eliminant/api"
	"eliminant/integer"
	"eliminant/univariate"
)

// The tests compare with polynomials whose coefficients are rational numbers of math/big; numbers go there and back by
// the words of their integers.

type model []*big.Rat

func bigOf(a api.Rat) *big.Rat {
	return new(big.Rat).SetFrac(bigIntOf(a.Num), bigIntOf(a.Den))
}

// bigIntOf gives the words their places itself: the texts of layer 1 have a limit.
func bigIntOf(a api.Int) *big.Int {
	out := new(big.Int)
	for _, w := range slices.Backward(a.Mag) {
		out.Lsh(out, 32).Or(out, big.NewInt(int64(w)))
	}
	if a.Neg {
		out.Neg(out)
	}
	return out
}

func intOf(b *big.Int) api.Int {
	out := api.Int{Neg: b.Sign() < 0}
	mask := big.NewInt(1<<32 - 1)
	for rest := new(big.Int).Abs(b); rest.Sign() > 0; rest.Rsh(rest, 32) {
		out.Mag = append(out.Mag, uint32(new(big.Int).And(rest, mask).Uint64()))
	}
	return out
}

func ratOf(b *big.Rat) api.Rat { return api.Rat{Num: intOf(b.Num()), Den: intOf(b.Denom())} }

// number returns n/d in lowest terms.
func number(n, d int64) api.Rat { return ratOf(big.NewRat(n, d)) }

// parsed returns the number with a text like "-3/2".
func parsed(t *testing.T, s string) api.Rat {
	t.Helper()
	b, ok := new(big.Rat).SetString(s)
	if !ok {
		t.Fatalf("the test has a wrong number: %q", s)
	}
	return ratOf(b)
}

func modelOf(a api.Upoly) model {
	var out model
	for _, c := range a {
		out = append(out, bigOf(c))
	}
	return out
}

// trim drops the leading coefficients that are 0.
func (a model) trim() model {
	for len(a) > 0 && a[len(a)-1].Sign() == 0 {
		a = a[:len(a)-1]
	}
	return a
}

// poly returns the valid polynomial.
func (a model) poly() api.Upoly {
	var out api.Upoly
	for _, c := range a.trim() {
		out = append(out, ratOf(c))
	}
	return out
}

// at returns the coefficient of the power k.
func (a model) at(k int) *big.Rat {
	if k < len(a) {
		return a[k]
	}
	return new(big.Rat)
}

// plus returns a + c b.
func (a model) plus(c int64, b model) model {
	out := make(model, max(len(a), len(b)))
	for k := range out {
		out[k] = new(big.Rat).Mul(big.NewRat(c, 1), b.at(k))
		out[k].Add(out[k], a.at(k))
	}
	return out.trim()
}

func (a model) times(b model) model {
	out := make(model, len(a)+len(b))
	for k := range out {
		out[k] = new(big.Rat)
	}
	for i, x := range a {
		for k, y := range b {
			out[i+k].Add(out[i+k], new(big.Rat).Mul(x, y))
		}
	}
	return out.trim()
}

// by returns c a.
func (a model) by(c *big.Rat) model { return a.times(model{c}) }

// divide returns quotient and remainder; b is not 0.
func (a model) divide(b model) (model, model) {
	var q model
	for len(a) >= len(b) {
		c := make(model, len(a)-len(b)+1)
		for k := range c {
			c[k] = new(big.Rat)
		}
		c[len(c)-1].Quo(a[len(a)-1], b[len(b)-1])
		q, a = q.plus(1, c), a.plus(-1, c.times(b))
	}
	return q, a
}

func (a model) monic() model {
	if len(a) == 0 {
		return nil
	}
	return a.by(new(big.Rat).Inv(a[len(a)-1]))
}

// gcd returns the monic greatest common divisor.
func (a model) gcd(b model) model {
	for len(b) > 0 {
		_, r := a.divide(b)
		a, b = b, r.monic()
	}
	return a.monic()
}

// value returns the sum of the products of the coefficients and the powers of x.
func (a model) value(x *big.Rat) *big.Rat {
	sum, power := new(big.Rat), big.NewRat(1, 1)
	for _, c := range a {
		sum.Add(sum, new(big.Rat).Mul(c, power))
		power = new(big.Rat).Mul(power, x)
	}
	return sum
}

// read returns the polynomial with a text like "3/2 x^2 - x + 1".
func read(t *testing.T, s string) api.Upoly {
	t.Helper()
	var out model
	sign, c, n, begun := int64(1), big.NewRat(1, 1), 0, false
	for _, word := range append(strings.Fields(s), "+") {
		if word == "+" || word == "-" {
			if begun {
				term := make(model, n+1)
				for k := range term {
					term[k] = new(big.Rat)
				}
				term[n] = c
				out = out.plus(sign, term)
			}
			sign, c, n, begun = 1, big.NewRat(1, 1), 0, false
			if word == "-" {
				sign = -1
			}
			continue
		}
		begun = true
		if d, ok := new(big.Rat).SetString(word); ok {
			c = d
			continue
		}
		n = 1
		if word != "x" {
			e, err := strconv.Atoi(strings.TrimPrefix(word, "x^"))
			if err != nil {
				t.Fatalf("the test has a wrong text: %q", s)
			}
			n = e
		}
	}
	return out.poly()
}

// text writes a polynomial, whether it is valid or not, for messages.
func text(a api.Upoly) string {
	var out []string
	for k, c := range slices.Backward(a) {
		word := integer.Text(c.Num)
		if d := integer.Text(c.Den); d != "1" {
			word += "/" + d
		}
		if word != "0" || k == len(a)-1 {
			out = append(out, word+" x^"+strconv.Itoa(k))
		}
	}
	return "(" + strings.Join(out, " + ") + ")"
}

func texts(l ...api.Upoly) string {
	var out []string
	for _, a := range l {
		out = append(out, text(a))
	}
	return strings.Join(out, " and ")
}

func sameInt(a, b api.Int) bool { return a.Neg == b.Neg && slices.Equal(a.Mag, b.Mag) }

func sameRat(a, b api.Rat) bool { return sameInt(a.Num, b.Num) && sameInt(a.Den, b.Den) }

// same compares all the fields.
func same(a, b api.Upoly) bool { return slices.EqualFunc(a, b, sameRat) }

// expect checks that a polynomial has the fields of the wanted one.
func expect(t *testing.T, what string, got, want api.Upoly, of ...api.Upoly) {
	t.Helper()
	if !same(got, want) {
		t.Errorf("%s of %s: %s, want %s", what, texts(of...), text(got), text(want))
	}
}

// expectNumber checks that a number has the fields of the wanted one.
func expectNumber(t *testing.T, what string, got, want api.Rat, of ...api.Upoly) {
	t.Helper()
	expect(t, what, api.Upoly{got}, api.Upoly{want}, of...)
}

// division returns quotient and remainder, which exist.
func division(t *testing.T, a, b api.Upoly) (api.Upoly, api.Upoly) {
	t.Helper()
	q, r, e := univariate.DivMod(a, b)
	if e != api.OK {
		t.Errorf("DivMod of %s: error %v", texts(a, b), e)
	}
	return q, r
}

// product returns the product of polynomials.
func product(l ...api.Upoly) api.Upoly {
	out := api.Upoly{number(1, 1)}
	for _, a := range l {
		out = univariate.Mul(out, a)
	}
	return out
}

// monomial returns c x^n.
func monomial(c api.Rat, n int) api.Upoly {
	out := make(api.Upoly, n+1)
	for k := range out {
		out[k] = number(0, 1)
	}
	out[n] = c
	return out
}

func source() *rand.Rand { return rand.New(rand.NewPCG(13, 14)) }

// random returns a polynomial of a degree below n with short numbers: so coefficients cancel out in many sums.
func random(r *rand.Rand, n int) api.Upoly {
	var out model
	for range r.IntN(n + 1) {
		out = append(out, big.NewRat(int64(r.IntN(7)-3), int64(1+r.IntN(3))))
	}
	return out.poly()
}

// randomLong returns a polynomial of the degree n whose numbers have up to that many bits.
func randomLong(r *rand.Rand, n, bits int) api.Upoly {
	integer := func() *big.Int {
		out := big.NewInt(1)
		for k := 0; k < bits; k += 32 {
			out.Lsh(out, uint(min(32, bits-k))).Or(out, big.NewInt(int64(r.Uint64N(1<<min(32, bits-k)))))
		}
		return out
	}
	d := integer()
	var out model
	for range n + 1 {
		c := new(big.Rat).SetFrac(integer(), d)
		if r.IntN(2) == 0 {
			c.Neg(c)
		}
		out = append(out, c)
	}
	return out.poly()
}

// numbers returns numbers at the edges.
func numbers(t *testing.T) []api.Rat {
	var out []api.Rat
	for _, s := range []string{"0", "1", "-1", "2", "-2", "1/2", "-1/2", "2/3", "-7/5", "4294967296", "18446744073709551615", "-1/4294967296", "98765432109876543210/123456789012345678901"} {
		out = append(out, parsed(t, s))
	}
	return out
}

// samples returns polynomials at the edges, and n random ones, some of them with long numbers.
func samples(t *testing.T, r *rand.Rand, n int) []api.Upoly {
	var out []api.Upoly
	for _, s := range []string{
		"0", "1", "-1", "1/2", "-3", "x", "- x", "2 x", "x + 1", "x - 1", "2 x - 2", "1/2 x + 1/3", "x^2", "x^2 + 1", "x^2 - 1", "- x^2 + 2 x - 1", "x^3 - x", "x^5", "6 x^4 - 4", "x^7 - x^3 + 2",
		"18446744073709551616 x^3 + 1/18446744073709551615 x", "98765432109876543210/123456789012345678901 x^2 - 5/123456789012345678901",
	} {
		out = append(out, read(t, s))
	}
	for i := range n {
		switch a := random(r, 2+i%7); {
		case i%6 == 0:
			out = append(out, randomLong(r, i%5, 10+i*7))
		case i%6 == 1:
			out = append(out, modelOf(a).times(modelOf(random(r, 4))).poly())
		default:
			out = append(out, a)
		}
	}
	return out
}
